import Derived.Test.YtoogdggiemacjaaF16
namespace Go.Proofs.Ytoogdggiemacjaa.Cw
open Go Go.RowKit
set_option linter.unusedVariables false
set_option linter.unusedSimpArgs false
theorem wpList_make {P : Program} {w : World} {ops : Array Oper} {rest : List Oper} {o : Oper} {a : Act} {Q : Exit → Act → World → Prop} (hgd : o.guard = none) (T : TypeId) (x y : Operand) (ho : o.op = .makeSlice T x y) (v1 v2 : Value) (hx : a.eval x = v1) (hy : a.eval y = v2) (v : Value) (w' : World)
    (hr : (Instr.makeSlice T v1 v2).run P w = .ok v w') (h : wpList P ops Q rest (a.put o.dst v) w') : wpList P ops Q (o :: rest) a w := by
  refine wpList_plain hgd fun K hK => ?_
  unfold Oper.wp
  simp [execOp, ho, hx, hy, hr, Result.andThen]
  exact hK _ _ h
set_option maxRecDepth 100000 in
set_option maxHeartbeats 2000000 in
theorem repeat_any (p : Pg) (A : Option Addr) (c n : Nat) (w : World) (h : RdP w A [p]) (h1 : 1 ≤ n) (h2 : n ≤ 512) : Calls Try.prog 31 #[.slice A 1 c, .int .i64 (n : Int)] w fun e w' => ∃ v, e = .returned v ∧ w'.ownsRow w.heap.size 64 2 v n (pcs (List.replicate n p)) ∧ Below w.heap.size w w' := by
  have CM := hide (fun w => mul_any n h2 w)
  obtain ⟨b0, o0, rfl, hb0, hc0⟩ := h (by simp)
  have HZ := hide (hc0 0 (by simp))
  have u1 := u64_wrap n (by omega)
  have u2 : IntKind.i64.wrap (n : Int) = (n : Int) := by rw [IntKind.wrap_i64]; omega
  have nn : ¬ (n : Int) < 0 := by omega
  have MP := hide (makeP w n (by omega))
  obtain ⟨cs, hcs⟩ : ∃ cs, cs = madeCells #[.int .i64 0, .bool false] (n * 2) := ⟨_, rfl⟩
  have hsz : cs.size = n * 2 := by rw [hcs]; exact size_madeCells _ _
  rw [← hcs] at MP
  have NB := hide (show ∀ j v, ((reps n p).take 2)[j]? = some v → (w.alloc (.cells cs 64)).cell? ((⟨b0, o0, none⟩ : Addr).add j) = some v from fun j v hv => by
    rw [List.getElem?_take] at hv
    split at hv
    · rename_i hj
      rw [add_at, (bal (brefl w) (.cells cs 64)).cell (p := ⟨b0, o0 + j, none⟩) hb0]
      rcases (show j = 0 ∨ j = 1 by omega) with rfl | rfl
      · have e := reps_even (n := n) (k := 0) p (by omega)
        rw [Nat.zero_mul] at e
        rw [e] at hv
        rw [← hv]
        exact HZ.out.1
      · have e := reps_odd (n := n) (k := 0) p (by omega)
        rw [Nat.zero_mul, Nat.zero_add] at e
        rw [e] at hv
        rw [← hv]
        exact HZ.out.2
    · cases hv)
  have HX := hide (show (w.alloc (.cells cs 64)).heap[w.heap.size]? = some (.cells cs.toList.toArray 64 (0, 0)) by
    have := heap_alloc_new w (.cells cs 64)
    simpa using this)
  have K := hide (bal (brefl w) (.cells cs 64))
  have m1 : Nat.min 1 n = 1 := Nat.min_eq_left h1
  have LN := hide (show ((reps n p).take 2).length = Nat.min 1 n * 2 by
    rw [List.length_take, reps_len, m1]; omega)
  have FI := hide (show Fil (splice cs.toList 0 ((reps n p).take 2)) n p 1 by
    have h0 : Fil cs.toList n p 0 := ⟨by simpa using hsz, fun j hj => absurd hj (by omega)⟩
    have := h0.next (r := 1) (by omega)
    simpa using this)
  have FT := hide (show 0 + ((reps n p).take 2).length ≤ cs.toList.length by rw [LN.out, m1]; simp only [Array.length_toList, hsz]; omega)
  have MN := hide (show goInt (Nat.min 1 n) = .int .i64 1 by rw [m1]; rfl)
  have OC := hide (show ∀ v ∈ (reps n p).take 2, v.oneCell' = true from fun v hv => reps_one n p v (List.mem_of_mem_take hv))
  clear h hc0 hb0 hcs HZ
  go_enter Try.func31, Try.ntmps31
  go_wp2_with fail
  refine (CM.out _).mono ?_
  rintro e w' ⟨rfl, rfl⟩
  go_upto_region 6 with fail
  go_upto_region 7 with (refine wpList_make rfl 60 (.tmp 29) (.tmp 29) rfl _ _ rfl rfl _ _ MP.out ?_)
  obtain ⟨g, hg⟩ : ∃ g, g = w.heap.size := ⟨_, rfl⟩
  have HG := hide (show w.heap.size ≤ g by omega)
  rw [← hg] at HX ⊢
  have HG2 := hide hg
  clear hg MP hsz m1
  obtain ⟨rp, hrp⟩ : ∃ rp, rp = (reps n p).take 2 := ⟨_, rfl⟩
  rw [← hrp] at NB LN FI FT OC
  clear hrp
  generalize w.alloc (.cells cs 64) = w1 at *
  go_wp2_with (refine wpList_copyN rfl (.tmp 31) (.tmp 32) 60 60 rfl 64 2 Try.underlying60 size64 g 0 n n ⟨b0, o0, none⟩ 1 c rfl rfl cs.toList 64 HX.out rp LN.out NB.out FT.out OC.out w.heap.size w K.out HG.out ?_; intro w2 hg2 hb2; rw [MN.out])
  generalize splice cs.toList 0 rp = cur at *
  have K2 := hide hb2
  clear hb2 K HX NB LN FT OC MN CM
  go_loopw [8] (fun a wx => ∃ (q : Nat) (cur : List Value), 1 ≤ q ∧ q ≤ n ∧ a = .int .i64 q ∧ Hid (wx.heap[g]? = some (.cells cur.toArray 64 (0, 0))) ∧ Hid (Fil cur n p q) ∧ Hid (Below w.heap.size w wx)) (fun a _ => n - (intOf a).toNat)
  case atStart => exact ⟨1, cur, by omega, h1, rfl, hg2, FI, K2⟩
  case round =>
    clear hg2 FI K2
    obtain ⟨q, cur, hq1, hq2, rfl, X, FI, K⟩ := hrel
    by_cases hlt : q < n
    · have hl2 : (q : Int) < (n : Int) := by omega
      obtain ⟨r, hr⟩ : ∃ r, r = Nat.min q (n - q) := ⟨_, rfl⟩
      have hr1 : 1 ≤ r := by rw [hr]; exact Nat.le_min.2 ⟨hq1, by omega⟩
      have hr2 : r ≤ q := by rw [hr]; exact Nat.min_le_left _ _
      have hr3 : q + r ≤ n := by have : r ≤ n - q := by rw [hr]; exact Nat.min_le_right _ _
                                 omega
      obtain ⟨rp, hrp⟩ : ∃ rp, rp = (reps n p).take (r * 2) := ⟨_, rfl⟩
      have hlr : rp.length = r * 2 := by rw [hrp, List.length_take, reps_len]; omega
      have SR := hide (show ∀ j v, rp[j]? = some v → wr.drew.cell? ((⟨g, 0, none⟩ : Addr).add j) = some v by rw [hrp]; exact FI.out.src hr2 X.out)
      have X1 := hide (show wr.drew.heap[g]? = some (.cells cur.toArray 64 (0, 0)) from X.out)
      have LN := hide (show rp.length = Nat.min q (n - q) * 2 by rw [hlr, hr])
      have FT := hide (show q * 2 + rp.length ≤ cur.length by rw [hlr, FI.out.1]; omega)
      have B1 := hide (show ∀ v ∈ rp, v.oneCell' = true by rw [hrp]; exact fun v hv => reps_one n p v (List.mem_of_mem_take hv))
      have FI2 := hide (show Fil (splice cur (q * 2) rp) n p (q + r) by rw [hrp]; exact FI.out.next hr3)
      have K1 := hide (show Below w.heap.size w wr.drew from below_drewN K.out 1)
      have LP := hide (show goInt (Nat.min q (n - q)) = .int .i64 (r : Int) by rw [← hr]; rfl)
      have hne : ¬ n = q := by omega
      have hw3 : IntKind.i64.wrap ((q : Int) + (r : Int)) = (q : Int) + (r : Int) := by rw [IntKind.wrap_i64]; omega
      clear hrp X FI K hlr hr
      go_wp2
      go_region_law (refine step_copyN (P := Try.prog) rfl (.tmp 41) (.tmp 44) 60 60 rfl 64 2 Try.underlying60 size64 g (q * 2) (n - q) (n - q) ⟨g, 0, none⟩ q n (by simp [Act.eval, Act.put]) (by simp [Act.eval, Act.put]) cur 64 X1.out rp LN.out SR.out FT.out B1.out w.heap.size w K1.out HG.out ?_; intro w4 hg4 hb4; rw [LP.out])
      all_goals
        have K2 := hide hb4
        generalize splice cur (q * 2) rp = cur2 at *
        clear hb4 X1 SR LN FT B1 K1
        go_wp2
        go_roundw
        case rel => first | exact ⟨q + r, cur2, by omega, hr3, by go_num, hg4, FI2, K2⟩ | ((repeat apply Exists.intro); exact ⟨⟨q + r, cur2, by omega, hr3, by go_num, hg4, FI2, K2⟩, rfl⟩)
        case measure =>
          first
          | (show n - ((q : Int) + (r : Int)).toNat < n - (q : Int).toNat; omega)
          | (simp [Act.put, intOf, hw3]; omega)
    · obtain rfl : n = q := by omega
      go_wp2
      go_ret
      exact ⟨_, rfl, FI.out.own X.out HG.out (by omega), K.out⟩
end Go.Proofs.Ytoogdggiemacjaa.Cw
