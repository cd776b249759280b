import Derived.Test.YtncjicggolmofaaNb
import Derived.Deep.RegionLaw
namespace Go.Proofs.Ytncjicggolmofaa.Sb
open Go Go.RowKit
set_option linter.unusedVariables false
set_option linter.unusedSimpArgs false
theorem step_append_own {P : Program} {w : World} {ops : Array Oper} {o : Oper} {a : Act} {K : Act → World → Prop} {Q : Exit → Act → World → Prop} {E : Prop} (hgd : o.guard = none) (s x : Operand) (t : TypeId)
    (ho : o.op = .call { callee := .builtin .append, args := #[s, x], argTypes := #[t, t] })
    (base : Nat) (e : TypeId) (i : TypeInfo) (z : Value) (size bytes : Nat) (ht : P.underlying t = some (.slice e)) (hi : P.info? e = some i) (hz : i.zero = some z)
    (hsize : i.size = size) (hby : i.bytes = bytes) (hzs : z.cells.size = size) (hsz : 0 < size)
    (v : Value) (n : Nat) (xs : List Value) (hs : a.eval s = v) (hown : w.ownsRow base e size v n xs)
    (ad : Addr) (m c : Nat) (news : List Value) (hx : a.eval x = .slice (some ad) m c) (hl : news.length = m * size) (hnews : ∀ j u, news[j]? = some u → w.cell? (ad.add j) = some u) (h1 : ∀ u ∈ news, u.oneCell' = true)
    (h63 : n + m ≤ maxLen) (hbytes : (n + m) * bytes ≤ 140737488355328) (hbase : base ≤ w.heap.size)
    (h : ∀ v' w', w'.ownsRow base e size v' (n + m) (xs ++ news) → w.grownBy w' v.ownBlock → K (a.put o.dst v') w') :
    if Region.wanted o (yielded ops a.tmps) = true then Oper.wp P o a w K Q else E := by
  have hw : Region.wanted o (yielded ops a.tmps) = true := by simp [Region.wanted, hgd]
  rw [if_pos hw]
  exact wp_append_own w s x t ho base e i z size bytes ht hi hz hsize hby hzs hsz v n xs hs hown ad m c news hx hl hnews h1 h63 hbytes hbase fun v' w' h2 h3 _ => h v' w' h2 h3
/-- a cache in order, though a slab may be empty -/
structure Wf (S : Sc) : Prop where
  ob : 1 ≤ S.ob ∧ S.ob ≤ 32
  fr : ∀ k, k < S.sl.length → 0 ≤ fr S k ∧ fr S k < 256
  up : ∀ k, k + 1 < S.sl.length → Sb.fr S k < Sb.fr S (k + 1)
  ln : ∀ k, k < S.sl.length → ((us S k).length : Int) = S.ob
theorem Vd.wf {S : Sc} (h : Vd S) : Wf S := ⟨h.ob, h.fr, h.up, h.ln⟩
theorem Wf.ge {S : Sc} (h : Wf S) : ∀ k, k < S.sl.length → (k : Int) ≤ Sb.fr S k
  | 0, hk => (h.fr 0 hk).1
  | k + 1, hk => by
    have a := h.ge k (by omega)
    have b := h.up k hk
    omega
theorem Wf.len {S : Sc} (h : Wf S) : S.sl.length ≤ 256 := by
  rcases Nat.eq_zero_or_pos S.sl.length with e | e
  · omega
  · have a := h.ge (S.sl.length - 1) (by omega)
    have b := (h.fr (S.sl.length - 1) (by omega)).2
    omega
theorem Wf.l32 {S : Sc} (h : Wf S) {k : Nat} (hk : k < S.sl.length) : (us S k).length ≤ 32 := by
  have a := h.ln k hk
  have b := h.ob
  omega
/-- the numbers of the objects of the first k slabs whose flag is b -/
def ls (S : Sc) (b : Bool) : Nat → Is
  | 0 => []
  | k + 1 => ls S b k ++ nb (fr S k) S.ob (us S k) b (us S k).length
theorem ls_len {S : Sc} (h : Wf S) (b : Bool) : ∀ k, k ≤ S.sl.length → (ls S b k).length ≤ 32 * k
  | 0, _ => Nat.le_refl _
  | k + 1, hk => by
    have ih := ls_len h b k (by omega)
    have a := nb_len (fr S k) S.ob (us S k) b (us S k).length
    have c := h.l32 (show k < S.sl.length by omega)
    show (ls S b k ++ _).length ≤ _
    rw [List.length_append]
    omega
set_option maxRecDepth 100000 in
set_option maxHeartbeats 8000000 in
theorem list_any (A : Option Addr) (cp : Nat) (S : Sc) (ub : Bool) (w : World) (hr : RdC w A S.sl) (hv : Wf S) : Calls Try.prog 38 #[.agg #[.int .i64 S.ob, .slice A S.sl.length cp], .bool ub] w fun e w' => (∃ A2 c2, e = .returned (.slice A2 (ls S ub S.sl.length).length c2) ∧ OwI w.heap.size w' (.slice A2 (ls S ub S.sl.length).length c2) (ls S ub S.sl.length)) ∧ Below w.heap.size w w' := by
  obtain ⟨i0, hi0, hz0, hz1, hz2⟩ := info_parts info3
  have X2 := hide (Box.new w 24 #[.int .i64 S.ob, .slice A S.sl.length cp])
  have KF := hide (bal (brefl w) (.cells #[.int .i64 S.ob, .slice A S.sl.length cp] 24))
  obtain ⟨W0, hW0⟩ : ∃ W0, W0 = (w.alloc (.cells #[.int .i64 S.ob, .slice A S.sl.length cp] 24)) := ⟨_, rfl⟩
  rw [← hW0] at X2 KF
  obtain ⟨g2, hg2⟩ : ∃ g2, g2 = w.heap.size := ⟨_, rfl⟩
  rw [← hg2] at X2
  have HR := hide (hr.below KF.out)
  have HV := hide hv
  have hN := hv.len
  obtain ⟨B, hB⟩ : ∃ B, B = W0.heap.size := ⟨_, rfl⟩
  have HB := hide hB
  have x0 := X2.out.cell 0
  have x1 := X2.out.cell 1
  simp at x0 x1
  clear hr hB hv
  go_enter Try.func38, Try.ntmps38
  go_upto_region 1 with fail
  rw [← hg2, ← hW0]
  clear hg2 hW0
  go_wp2
  clear x0 x1
  go_loopw [5, 6] (fun a i wr => ∃ k : Nat, k ≤ S.sl.length ∧ i = .int .i64 k ∧ Hid (OwI B wr a (ls S ub k)) ∧ Hid (Below B W0 wr)) (fun _ i _ => S.sl.length - (intOf i).toNat)
  case atStart => exact ⟨0, Nat.zero_le _, rfl, hide (ow_nil _ _), hide (Below.refl _ _)⟩
  case round =>
    obtain ⟨k, hk, rfl, O, K⟩ := hrel
    obtain ⟨A1, cap1, ev, hcp⟩ := row_form O.out
    subst ev
    clear hcp
    have hbb : Below W0.heap.size W0 wr := by rw [← HB.out]; exact K.out
    have x0 := (X2.out.below hbb).cell 0
    have x1 := (X2.out.below hbb).cell 1
    simp at x0 x1
    by_cases hlt : k < S.sl.length
    · have hl2 : (k : Int) < (S.sl.length : Int) := by omega
      have hk0 : (0 : Int) ≤ (k : Int) := by omega
      have h32 := HV.out.l32 hlt
      have HF := hide (HV.out.fr k hlt)
      have HO := hide HV.out.ob
      have hll := ls_len HV.out ub k hk
      go_wp2
      clear x0 x1
      go_loopw [5, 7] (fun a i wr => ∃ m : Nat, m ≤ (us S k).length ∧ i = .int .i64 m ∧ Hid (OwI B wr a (ls S ub k ++ nb (fr S k) S.ob (us S k) ub m)) ∧ Hid (Below B W0 wr)) (fun _ i _ => (us S k).length - (intOf i).toNat)
      case atStart => exact ⟨0, Nat.zero_le _, rfl, hide (by rw [show nb (fr S k) S.ob (us S k) ub 0 = [] from rfl, List.append_nil]; exact O.out), K⟩
      case round =>
        clear O K hbb
        obtain ⟨m, hm, rfl, O, K⟩ := hrel
        obtain ⟨A2, cap2, ev, hcp⟩ := row_form O.out
        subst ev
        clear hcp
        have hbb : Below W0.heap.size W0 wr := by rw [← HB.out]; exact K.out
        have x0 := (X2.out.below hbb).cell 0
        have x1 := (X2.out.below hbb).cell 1
        simp at x0 x1
        obtain ⟨b, off, vu, rfl, _, y0, y1, hu⟩ := HR.out.cells hbb hlt
        obtain ⟨Au, cu, rfl, _, hbu⟩ := hu
        change wr.cell? _ = some (.int .i64 (fr S k)) at y0
        change wr.cell? _ = some (.slice Au (us S k).length cu) at y1
        change Bs wr Au (us S k) at hbu
        obtain ⟨l1, hl1⟩ : ∃ l1, l1 = ls S ub k ++ nb (fr S k) S.ob (us S k) ub m := ⟨_, rfl⟩
        obtain ⟨m1, hm1⟩ : ∃ m1, m1 = l1.length := ⟨_, rfl⟩
        by_cases hml : m < (us S k).length
        · have hm2 : (m : Int) < ((us S k).length : Int) := by omega
          have hm0 : (0 : Int) ≤ (m : Int) := by omega
          obtain ⟨b3, o3, rfl, _, ff⟩ := hbu.cells (brefl _) hml
          clear hbu
          by_cases he : (us S k).getD m false = ub
          · have EH := hide (show ls S ub k ++ nb (fr S k) S.ob (us S k) ub (m + 1) = l1 ++ [fr S k * S.ob + (m : Int)] by rw [nb_1 he, hl1, List.append_assoc])
            have hfl : m1 ≤ 10000 := by
              have a := nb_len (fr S k) S.ob (us S k) ub m
              rw [hm1, hl1, List.length_append]
              omega
            rw [← hl1, ← hm1] at O ⊢
            have HLM := hide hm1
            rw [he] at ff
            clear he hl1 hm1
            have hprod : 0 ≤ fr S k * S.ob ∧ fr S k * S.ob ≤ 8192 := by
              constructor
              · exact Int.mul_nonneg HF.out.1 (by have := HO.out; omega)
              · have h2 : fr S k * S.ob ≤ 256 * S.ob := Int.mul_le_mul_of_nonneg_right (by have := HF.out; omega) (by have := HO.out; omega)
                have := HO.out
                omega
            generalize fr S k = f at *
            obtain ⟨pr, hpr⟩ : ∃ pr, pr = f * S.ob := ⟨_, rfl⟩
            have hpr2 : f * S.ob = pr := hpr.symm
            rw [hpr2] at EH hprod
            clear hpr
            have wr1 : IntKind.i64.wrap pr = pr := by rw [IntKind.wrap_i64]; omega
            have wr2 : IntKind.i64.wrap (pr + (m : Int)) = pr + (m : Int) := by rw [IntKind.wrap_i64]; omega
            go_wp2
            have M : Below wr.heap.size wr (wr.alloc (.cells #[.int .i64 (pr + (m : Int))] 3)).drew := below_drewN (bal (brefl wr) _) 1
            have OA := hide (row_below O.out M)
            rw [← HLM.out] at OA
            have NB := hide (show ∀ (j : Nat) (u : Value), ([.int .i64 (pr + (m : Int))] : List Value)[j]? = some u → (wr.alloc (.cells #[.int .i64 (pr + (m : Int))] 3)).drew.cell? ((⟨wr.heap.size, 0, none⟩ : Addr).add j) = some u from cell_one_new wr (.int .i64 (pr + (m : Int))) 3)
            have SA := hide (show B ≤ (wr.alloc (.cells #[.int .i64 (pr + (m : Int))] 3)).drew.heap.size by rw [HB.out]; exact Nat.le_trans hbb.size M.size)
            have KA := hide (K.out.trans (M.mono (by rw [HB.out]; exact hbb.size)))
            have lb : b < wr.heap.size := by
              rcases Nat.lt_or_ge b wr.heap.size with h | h
              · exact h
              · exfalso
                unfold World.cell? at y0
                rw [Array.getElem?_eq_none h] at y0
                cases y0
            have lg : g2 < wr.heap.size := (X2.out.below hbb).lt
            clear M O K hbb
            go_region_law (refine step_append_own rfl (.tmp 37) (.tmp 49) 35 rfl B 3 i0 _ 1 8 Try.underlying35 hi0 hz0 hz1 hz2 rfl (by omega) (.slice A2 m1 cap2) m1 (l1.map ic) rfl (by exact OA.out) ⟨wr.heap.size, 0, none⟩ 1 1 [.int .i64 (pr + (m : Int))] rfl rfl (by exact NB.out) (by intro u hu; rw [List.mem_singleton.1 hu]; rfl) (by simp only [maxLen]; omega) (by omega) (by exact SA.out) ?_; intro v4 w4 hown4 hg4; obtain ⟨A4, cp4, ev4, _⟩ := row_form hown4; subst ev4; have HO4 := hide hown4; have B4 := hide (below_grown OA.out hg4 SA.out); clear hown4 hg4)
            all_goals
              have e3 : (ls S ub k ++ nb f S.ob (us S k) ub (m + 1)).length = m1 + 1 := by rw [EH.out, List.length_append, ← HLM.out]; rfl
              have O := hide (show OwI B w4 (.slice A4 (m1 + 1) cp4) (ls S ub k ++ nb f S.ob (us S k) ub (m + 1)) by
                unfold OwI
                rw [e3, EH.out, List.map_append]
                exact HO4.out)
              have K := hide (KA.out.trans B4.out)
              rw [← e3] at O ⊢
              clear HO4 B4 OA NB SA KA e3 wr1 wr2
              go_wp2
              go_roundw
              case rel => exact ⟨m + 1, by omega, by go_num, hide (show OwI B w4 (.slice A4 ((ls S ub k).length + (nb f S.ob (us S k) ub (m + 1)).length) cp4) (ls S ub k ++ nb f S.ob (us S k) ub (m + 1)) by rw [← List.length_append]; exact O.out), K⟩
              case measure => simp [intOf]; omega
          · have EH := (show ls S ub k ++ nb (fr S k) S.ob (us S k) ub (m + 1) = l1 by rw [nb_0 he, hl1])
            have dn : ((us S k).getD m false == ub) = false := by simpa using he
            have HLM := hide hm1
            rw [← hl1, ← hm1] at O ⊢
            clear he hm1 hl1
            have e3 : (ls S ub k ++ nb (fr S k) S.ob (us S k) ub (m + 1)).length = m1 := by rw [EH, ← HLM.out]
            rw [← EH, ← e3] at O
            rw [← e3]
            generalize (us S k).getD m false = fb at *
            clear EH e3 HLM
            go_wp2
            go_roundw
            case rel => first | exact ⟨m + 1, by omega, by go_num, O, K⟩ | ((repeat apply Exists.intro); exact ⟨⟨m + 1, by omega, by go_num, O, K⟩, rfl⟩)
            case measure => simp [intOf]; omega
        · obtain rfl : m = (us S k).length := by omega
          have hls : ls S ub k ++ nb (fr S k) S.ob (us S k) ub (us S k).length = ls S ub (k + 1) := rfl
          rw [hls] at O ⊢
          clear hls hl1 hm1 hbu hbb
          go_wp2
          go_roundw
          case rel => first | exact ⟨k + 1, by omega, by go_num, O, K⟩ | ((repeat apply Exists.intro); exact ⟨⟨k + 1, by omega, by go_num, O, K⟩, rfl⟩)
          case measure => simp [intOf]; omega
    · obtain rfl : k = S.sl.length := by omega
      go_wp2
      go_ret
      exact ⟨⟨_, _, rfl, row_mono O.out (by rw [HB.out]; exact KF.out.size)⟩, KF.out.trans (K.out.mono (by rw [HB.out]; exact KF.out.size))⟩
end Go.Proofs.Ytncjicggolmofaa.Sb
