import Derived.Test.YthoeolaleeogbaaDo
namespace Go.Proofs.Ythoeolaleeogbaa.Tb
open Go Go.RowKit Go.Proofs.Ythoeolaleeogbaa.Pt
set_option linter.unusedVariables false
abbrev To := Int × Int × Int × Int
def opAt (O : List To) (k : Nat) : To := O.getD k (0, 0, 0, 0)
/-- a slice that reads as a list of calls -/
def Ops (w : World) (A : Option Addr) (O : List To) : Prop :=
  O ≠ [] → ∃ b off, A = some ⟨b, off, none⟩ ∧ b < w.heap.size ∧ ∀ k, k < O.length → w.cell? ⟨b, off + k * 4, none⟩ = some (.int .i64 (opAt O k).1) ∧ w.cell? ⟨b, off + k * 4 + 1, none⟩ = some (.int .i64 (opAt O k).2.1) ∧ w.cell? ⟨b, off + k * 4 + 2, none⟩ = some (.int .i64 (opAt O k).2.2.1) ∧ w.cell? ⟨b, off + k * 4 + 3, none⟩ = some (.int .u64 (opAt O k).2.2.2)
theorem Ops.cells {w w' : World} {A : Option Addr} {O : List To} (h : Ops w A O) (hb : Below w.heap.size w w') {k : Nat} (hk : k < O.length) : ∃ b off, A = some ⟨b, off, none⟩ ∧ b < w.heap.size ∧ (w'.cell? ⟨b, off + k * 4, none⟩ = some (.int .i64 (opAt O k).1) ∧ w'.cell? ⟨b, off + k * 4 + 1, none⟩ = some (.int .i64 (opAt O k).2.1) ∧ w'.cell? ⟨b, off + k * 4 + 2, none⟩ = some (.int .i64 (opAt O k).2.2.1) ∧ w'.cell? ⟨b, off + k * 4 + 3, none⟩ = some (.int .u64 (opAt O k).2.2.2)) := by
  obtain ⟨b, off, e, hl, hc⟩ := h (by rintro rfl; simp at hk)
  obtain ⟨c0, c1, c2, c3⟩ := hc k hk
  exact ⟨b, off, e, hl, (hb.cell (p := ⟨b, _, none⟩) hl).trans c0, (hb.cell (p := ⟨b, _, none⟩) hl).trans c1, (hb.cell (p := ⟨b, _, none⟩) hl).trans c2, (hb.cell (p := ⟨b, _, none⟩) hl).trans c3⟩
theorem Ops.below {w w' : World} {A : Option Addr} {O : List To} (h : Ops w A O) (hb : Below w.heap.size w w') : Ops w' A O := fun hn => by
  obtain ⟨b, off, e, hl, hc⟩ := h hn
  refine ⟨b, off, e, Nat.lt_of_lt_of_le hl hb.size, fun k hk => ?_⟩
  obtain ⟨c0, c1, c2, c3⟩ := hc k hk
  exact ⟨(hb.cell (p := ⟨b, _, none⟩) hl).trans c0, (hb.cell (p := ⟨b, _, none⟩) hl).trans c1, (hb.cell (p := ⟨b, _, none⟩) hl).trans c2, (hb.cell (p := ⟨b, _, none⟩) hl).trans c3⟩
def OpsIn (O : List To) : Prop := ∀ o ∈ O, inP o.2.2.1 ∧ inW o.2.2.2
theorem OpsIn.at_ {O : List To} (h : OpsIn O) {k : Nat} (hk : k < O.length) : inP (opAt O k).2.2.1 ∧ inW (opAt O k).2.2.2 := by
  have : opAt O k = O[k] := by unfold opAt; rw [List.getD_eq_getElem?_getD, List.getElem?_eq_getElem hk]; rfl
  rw [this]; exact h _ (List.getElem_mem hk)
theorem doM_ok {size : Int} {L : List Te} {k s p W : Int} (h : chkT size L = 0) : chkT size (doM size L k s p W) = 0 := by
  unfold doM
  split
  · split
    · rename_i h2; exact fill_ok h2
    · exact h
  · split
    · split
      · exact filter_ok h _
      · exact h
    · split
      · split
        · exact filter_ok h _
        · exact h
      · exact h
theorem count_le : ∀ {l : List Te} (h : okL l) (s p : Int), l.countP (fun e => cov e s p) ≤ 1
  | [], _, _, _ => by simp
  | e :: l, h, s, p => by
    have hp := List.pairwise_cons.1 h.2
    have hl : okL l := ⟨fun x hx => h.1 x (List.mem_cons_of_mem _ hx), hp.2⟩
    have ih := count_le hl s p
    rw [List.countP_cons]
    cases hc : cov e s p
    · simpa using ih
    · have hz : l.countP (fun e => cov e s p) = 0 := by
        rw [List.countP_eq_zero]
        intro x hx hx2
        have := ovl_of_both (okE_bd (h.1 e List.mem_cons_self)).2.2.2 (okE_bd (h.1 x (List.mem_cons_of_mem _ hx))).2.2.2 hc hx2
        rw [hp.1 x hx] at this
        cases this
      rw [hz]; simp
theorem count_any {l : List Te} {f : Te → Bool} (h : l.countP f ≤ 1) : ((l.countP f : Int) == 1) = l.any f := by
  cases ha : l.any f
  · have : l.countP f = 0 := by
      rw [List.countP_eq_zero]
      intro x hx hx2
      rw [List.any_eq_true.2 ⟨x, hx, hx2⟩] at ha
      cases ha
    rw [this]; rfl
  · obtain ⟨x, hx, hx2⟩ := List.any_eq_true.1 ha
    have : 0 < l.countP f := List.countP_pos_iff.2 ⟨x, hx, hx2⟩
    have e : l.countP f = 1 := by omega
    rw [e]; rfl
theorem lookB_any {size : Int} {L : List Te} {s p : Int} (h : chkT size L = 0) : lookB size L s p = L.any fun e => cov e s p := by
  unfold lookB lookT
  rw [if_neg (by simpa using h), Bool.eq_iff_iff, List.find?_isSome, List.any_eq_true]
theorem chk_one {e : Te} (h : okE e = true) : chkT 1 [e] = 0 := chkT_ok.2 ⟨by omega, by simp, fun x hx => by rw [List.mem_singleton.1 hx]; exact h, List.pairwise_singleton _ _⟩
theorem TlbIn.sub {w : World} {A : Option Addr} {L : List Te} {c k : Nat} {b off : Nat} (h : TlbIn w A L c) (hk : k < L.length) (hA : A = some ⟨b, off, none⟩) : TlbIn w (some ⟨b, off + k * 3, none⟩) [teAt L k] (c - k) := by
  have hc := h.cap
  refine ⟨fun _ => ?_, by simp; omega, by simp, fun o ho => ?_⟩
  · obtain ⟨b', off', e, hl, hcs⟩ := h.ts (by rintro rfl; simp at hk)
    rw [hA] at e
    injection e with e
    injection e with e1 e2
    subst e1 e2
    refine ⟨b, off + k * 3, rfl, hl, fun j hj => ?_⟩
    have hj0 : j = 0 := by simpa using hj
    subst hj0
    simp only [Nat.zero_mul, Nat.add_zero]
    exact hcs k hk
  · rw [List.mem_singleton.1 ho]; exact h.inw _ (teAt_mem hk)
theorem once_many (sz x y : Int) (A : Option Addr) (O : List To) (c : Nat) (w : World) (h : 30 < O.length) (hn : O.length ≤ 9223372036854775807) :
    Calls Try.prog 8 #[.int .u8 sz, .slice A O.length c, .agg #[.int .i64 x, .int .i64 y]] w fun e w' => e = .returned (.bool true) ∧ Below w.heap.size w w' := by
  have K := hide (bal (brefl w) (.cells #[.int .i64 x, .int .i64 y] 35))
  have hd : decide (30 < (O.length : Int)) = true := decide_eq_true (by omega)
  clear h
  go_enter Try.func8, Try.ntmps8
  go_wp2_with fail
  refine (awake _).mono ?_
  rintro e w1 ⟨rfl, hb⟩
  replace K := hide (btrans K.out hb)
  clear hb
  go_wp2
  go_ret
  exact ⟨rfl, K.out⟩
set_option maxHeartbeats 8000000 in
set_option maxRecDepth 100000 in
theorem once_few (sz x y : Int) (A : Option Addr) (O : List To) (c : Nat) (w : World) (h : O.length ≤ 30) (hr : Ops w A O) (hi : OpsIn O) (h0 : 0 ≤ sz) (h1 : sz ≤ 255) (hy : inP y) :
    Calls Try.prog 8 #[.int .u8 sz, .slice A O.length c, .agg #[.int .i64 x, .int .i64 y]] w fun e w' => e = .returned (.bool true) ∧ Below w.heap.size w w' := by
  obtain ⟨W0, hW0⟩ : ∃ W0, W0 = w.alloc (.cells #[.int .i64 x, .int .i64 y] 35) := ⟨_, rfl⟩
  have K0 := hide (show Below w.heap.size w W0 by rw [hW0]; exact bal (brefl w) _)
  have X0 := hide (show Box W0 w.heap.size 35 #[.int .i64 x, .int .i64 y] by rw [hW0]; exact Box.new _ _ _)
  have HR := hide (hr.below K0.out)
  have HI := hide hi
  have HY := hide hy
  have HW := hide hW0
  have hd : decide (30 < (O.length : Int)) = false := decide_eq_false (by omega)
  have HN := hide (show 1 ≤ (1 + sz % 16) ∧ (1 + sz % 16) ≤ 16 by omega)
  have CN := hide (new_any (1 + sz % 16))
  rw [show szB (1 + sz % 16) = true by unfold szB; rw [decide_eq_true_eq]; omega, if_pos rfl, if_pos rfl] at CN
  have HZ := hide (show chkT (1 + sz % 16) [] = 0 from chkT_ok.2 ⟨by omega, by simp; omega, ⟨fun e he => by simp at he, List.Pairwise.nil⟩⟩)
  clear hr hi hy hW0
  go_enter Try.func8, Try.ntmps8
  go_wp2_with fail
  rw [← HW.out]
  refine (CN.out _).mono ?_
  rintro e w1 ⟨A1, c1, rfl, hown, hb⟩
  obtain ⟨w2, hw2⟩ : ∃ w2, w2 = w1.alloc (.cells #[.int .i64 (1 + sz % 16), .slice A1 0 c1] 24) := ⟨_, rfl⟩
  have K1 := hide (show Below W0.heap.size W0 w2 by rw [hw2]; exact bal hb _)
  have B1 := hide (show Box w2 w1.heap.size 24 #[.int .i64 (1 + sz % 16), .slice A1 0 c1] by rw [hw2]; exact Box.new _ _ _)
  have T1 := hide (show TlbIn w2 A1 [] c1 from (TlbIn.of_own (L := []) hown (by simp) inw_nil).below (by rw [hw2]; exact bal (brefl _) _))
  have HGG := hide hb.size
  have HW2 := hide hw2
  clear hw2 hown hb
  go_wp2
  rw [← HW2.out]
  go_loopw [9] (fun i wr => ∃ (k : Nat) (M : List Te) (A' : Option Addr) (c' : Nat), k ≤ O.length ∧ i = .int .i64 k ∧ Hid (Box wr w1.heap.size 24 #[.int .i64 (1 + sz % 16), .slice A' M.length c']) ∧ Hid (TlbIn wr A' M c') ∧ Hid (Own47 wr A' M) ∧ Hid (chkT (1 + sz % 16) M = 0) ∧ Hid (Below W0.heap.size W0 wr)) (fun i _ => O.length - (intOf i).toNat)
  case atStart => exact ⟨0, [], A1, c1, Nat.zero_le _, rfl, B1, T1, hide (fun h => absurd rfl h), HZ, K1⟩
  case round =>
    obtain ⟨k, M, A', c', hk, rfl, BX, TX, OX, CX, KX⟩ := hrel
    have x0 := BX.out.cell 0
    have x1 := BX.out.cell 1
    have xf0 := BX.out.frozen 0
    have xf1 := BX.out.frozen 1
    simp at x0 x1
    by_cases hlt : k < O.length
    · obtain ⟨b, off, rfl, hbl, o0, o1, o2, o3⟩ := HR.out.cells KX.out hlt
      have hoi := HI.out.at_ hlt
      have D := hide (fun (W : World) (hW : Below wr.heap.size wr W) => do_any (1 + sz % 16) A' M c' (opAt O k).1 (opAt O k).2.1 (opAt O k).2.2.1 (opAt O k).2.2.2 W (TX.out.below hW) (OX.out.below hW) hoi.1 hoi.2)
      have CK := hide (doM_ok (k := (opAt O k).1) (s := (opAt O k).2.1) (p := (opAt O k).2.2.1) (W := (opAt O k).2.2.2) CX.out)
      generalize doM (1 + sz % 16) M (opAt O k).1 (opAt O k).2.1 (opAt O k).2.2.1 (opAt O k).2.2.2 = M2 at *
      generalize doE (1 + sz % 16) M (opAt O k).1 (opAt O k).2.1 (opAt O k).2.2.1 (opAt O k).2.2.2 = er at *
      generalize (opAt O k).1 = q0 at *
      generalize (opAt O k).2.1 = q1 at *
      generalize (opAt O k).2.2.1 = q2 at *
      generalize (opAt O k).2.2.2 = q3 at *
      have HOI := hide hoi
      have hl2 := hide (show (M2.length : Int) ≤ (1 + sz % 16) from (chkT_ok.1 CK.out).2.1)
      have hl3 : decide ((1 + sz % 16) < (M2.length : Int)) = false := decide_eq_false (by have := hl2.out; omega)
      have hk0 : (0 : Int) ≤ (k : Int) := by omega
      have hkl : (k : Int) < (O.length : Int) := by omega
      clear hoi
      go_wp2
      go_region_with (go_at_call 28; refine (D.out _ (by first | exact brefl _ | exact below_drewN (brefl _) _)).mono ?_; rintro e w5 ⟨A5, c5, rfl, hT5, hO5, hb5⟩; have BX5 := hide (BX.out.below (by first | exact hb5 | exact btrans (below_drewN (brefl _) _) hb5)); have T5 := hide hT5; have O5 := hide hO5; have K5 := hide (btrans KX.out (by first | exact hb5 | exact btrans (below_drewN (brefl _) _) hb5)); clear hT5 hO5 hb5; have y0 := BX5.out.cell 0; have y1 := BX5.out.cell 1; have yf0 := BX5.out.frozen 0; have yf1 := BX5.out.frozen 1; simp at y0 y1)
      all_goals
        go_wp2_with fail
        obtain ⟨w6, hw6⟩ : ∃ w6, w6 = (w5.setCell ⟨w1.heap.size, 0, none⟩ (.int .i64 (1 + sz % 16))).setCell ⟨w1.heap.size, 1, none⟩ (.slice A5 M2.length c5) := ⟨_, rfl⟩
        have BX6 := hide (show Box w6 w1.heap.size 24 #[.int .i64 (1 + sz % 16), .slice A5 M2.length c5] by rw [hw6]; exact (BX5.out.put 0 (.int .i64 (1 + sz % 16))).put 1 (.slice A5 M2.length c5))
        have O6 := hide (show Own47 w6 A5 M2 by rw [hw6]; exact (O5.out.boxset BX5.out 0 (.int .i64 (1 + sz % 16))).boxset (BX5.out.put 0 (.int .i64 (1 + sz % 16))) 1 (.slice A5 M2.length c5))
        have T6 := hide (show TlbIn w6 A5 M2 c5 from ⟨O6.out.ts, T5.out.cap, T5.out.big, T5.out.inw⟩)
        have K6 := hide (show Below W0.heap.size W0 w6 by rw [hw6]; exact bset (bset K5.out (p := ⟨w1.heap.size, 0, none⟩) HGG.out _) (p := ⟨w1.heap.size, 1, none⟩) HGG.out _)
        have HW6 := hide hw6
        rw [← hw6]
        clear hw6 y0 y1 yf0 yf1 x0 x1 xf0 xf1
        have CC := hide (T6.out.check (1 + sz % 16))
        rw [CK.out] at CC
        refine CC.out.mono ?_
        rintro e w7 ⟨rfl, hb7⟩
        have BX7 := hide (BX6.out.below hb7)
        have O7 := hide (O6.out.below hb7)
        have T7 := hide (T6.out.below hb7)
        have K7 := hide (btrans K6.out hb7)
        have y1 := BX7.out.cell 1
        simp at y1
        clear hb7
        go_wp2
        go_roundw
        case rel => exact ⟨k + 1, M2, A5, c5, by omega, by go_num, BX7, T7, O7, CK, K7⟩
        case measure => simp [intOf]; omega
    · have hk2 : ¬ (k : Int) < (O.length : Int) := by omega
      go_wp2
      obtain ⟨wz, hwz⟩ : ∃ wz : World, wz = wr := ⟨_, rfl⟩
      rw [← hwz]
      have BXz := hide (hwz ▸ BX.out : Box wz w1.heap.size 24 #[.int .i64 (1 + sz % 16), .slice A' M.length c'])
      have TXz := hide (hwz ▸ TX.out : TlbIn wz A' M c')
      have KXz := hide (hwz ▸ KX.out : Below W0.heap.size W0 wz)
      clear hwz x0 x1 xf0 xf1
      have HCT := hide (count_le (chkT_ok.1 CX.out).2.2 x y)
      go_loopw [10, 11] (fun u i wr => ∃ (j : Nat), j ≤ M.length ∧ i = .int .i64 j ∧ u = .int .i64 ((M.take j).countP (fun e => cov e x y) : Nat) ∧ Hid (Below wz.heap.size wz wr)) (fun _ i _ => M.length - (intOf i).toNat)
      case atStart => exact ⟨0, Nat.zero_le _, rfl, by simp, hide (brefl _)⟩
      case round =>
        obtain ⟨j, hj, rfl, rfl, KJ⟩ := hrel
        have x1 := (BXz.out.below KJ.out).cell 1
        have z0 := (X0.out.below (btrans KXz.out KJ.out)).cell 0
        have z1 := (X0.out.below (btrans KXz.out KJ.out)).cell 1
        simp at x1 z0 z1
        have hwl := Nat.lt_of_lt_of_le X0.out.lt (btrans KXz.out KJ.out).size
        by_cases hjl : j < M.length
        · obtain ⟨b, off, rfl, _, _⟩ := TXz.out.ts (by rintro rfl; simp at hjl)
          have hok := (chkT_ok.1 CX.out).2.2.1 _ (teAt_mem hjl)
          have hcap := TXz.out.cap
          have CV := hide (fun (W : World) (hW : Below wz.heap.size wz W) => covers_any 1 (some ⟨b, off + j * 3, none⟩) [teAt M j] (c' - j) x y W ((TXz.out.below hW).sub hjl rfl) HY.out)
          rw [lookB_any (chk_one hok)] at CV
          have e1 : ([teAt M j].any fun e => cov e x y) = cov (teAt M j) x y := by simp
          have e2 : [teAt M j].length = 1 := rfl
          rw [e1, e2] at CV
          have HT := hide (show (M.take (j + 1)).countP (fun e => cov e x y) = (M.take j).countP (fun e => cov e x y) + if cov (teAt M j) x y = true then 1 else 0 by rw [take_snoc M hjl, List.countP_append]; simp [List.countP_cons])
          have hne : ¬ c' = j := by omega
          have hj1 : j + 1 ≤ c' := by omega
          have hj0 : (0 : Int) ≤ (j : Int) := by omega
          have hjm : (j : Int) < (M.length : Int) := by omega
          have hcn : (M.take j).countP (fun e => cov e x y) ≤ M.length := Nat.le_trans List.countP_le_length (by rw [List.length_take]; omega)
          have hml : M.length ≤ 16 := by have := (chkT_ok.1 CX.out).2.1; have := HN.out; omega
          generalize (M.take j).countP (fun e => cov e x y) = cnt at *
          clear hok hcap e1 e2
          cases hcv : cov (teAt M j) x y
          · rw [hcv] at CV HT
            clear hcv
            go_wp2_with fail
            refine (CV.out _ (btrans KJ.out (bal (brefl _) _))).mono ?_
            rintro e w8 ⟨rfl, hb8⟩
            have K8 := hide (btrans (btrans KJ.out (bal (brefl _) _)) hb8)
            clear hb8
            go_wp2
            go_roundw
            case rel => exact ⟨j + 1, by omega, by go_num, by rw [HT.out]; rfl, K8⟩
            case measure => simp [intOf]; omega
          · rw [hcv] at CV HT
            clear hcv
            go_wp2_with fail
            refine (CV.out _ (btrans KJ.out (bal (brefl _) _))).mono ?_
            rintro e w8 ⟨rfl, hb8⟩
            have K8 := hide (btrans (btrans KJ.out (bal (brefl _) _)) hb8)
            clear hb8
            go_wp2
            go_roundw
            case rel => exact ⟨j + 1, by omega, by go_num, by rw [HT.out]; go_num, K8⟩
            case measure => simp [intOf]; omega
        · have hjm : ¬ (j : Int) < (M.length : Int) := by omega
          have ej : M.take j = M := List.take_of_length_le (by omega)
          rw [ej]
          have CV := hide (fun (W : World) (hW : Below wz.heap.size wz W) => covers_any (1 + sz % 16) A' M c' x y W (TXz.out.below hW) HY.out)
          rw [lookB_any CX.out, ← count_any HCT.out] at CV
          have hc1 := HCT.out
          have x0 := (BXz.out.below KJ.out).cell 0
          simp at x0
          generalize M.countP (fun e => cov e x y) = cnt at *
          have hdc : decide ((cnt : Int) ≤ 1) = true := decide_eq_true (by omega)
          clear ej hc1
          cases hcc : ((cnt : Int) == 1)
          · rw [hcc] at CV
            go_wp2_with fail
            refine (CV.out _ KJ.out).mono ?_
            rintro e w8 ⟨rfl, hb8⟩
            have K8 := hide (btrans KJ.out hb8)
            clear hb8
            go_wp2_with fail
            refine (awake _).mono ?_
            rintro e w9 ⟨rfl, hb9⟩
            have K9 := hide (btrans K8.out hb9)
            clear hb9
            go_wp2
            go_ret
            exact ⟨rfl, btrans K0.out (btrans KXz.out K9.out)⟩
          · rw [hcc] at CV
            go_wp2_with fail
            refine (CV.out _ KJ.out).mono ?_
            rintro e w8 ⟨rfl, hb8⟩
            have K8 := hide (btrans KJ.out hb8)
            clear hb8
            go_wp2_with fail
            refine (awake _).mono ?_
            rintro e w9 ⟨rfl, hb9⟩
            have K9 := hide (btrans K8.out hb9)
            clear hb9
            go_wp2
            go_ret
            exact ⟨rfl, btrans K0.out (btrans KXz.out K9.out)⟩
theorem law_once (sz x y : Int) (A : Option Addr) (O : List To) (c : Nat) (w : World) (hn : O.length ≤ 9223372036854775807) (hr : Ops w A O) (hi : OpsIn O) (h0 : 0 ≤ sz) (h1 : sz ≤ 255) (hy : inP y) :
    Calls Try.prog 8 #[.int .u8 sz, .slice A O.length c, .agg #[.int .i64 x, .int .i64 y]] w fun e w' => e = .returned (.bool true) ∧ Below w.heap.size w w' := by
  by_cases h : 30 < O.length
  · exact once_many sz x y A O c w h hn
  · exact once_few sz x y A O c w (by omega) hr hi h0 h1 hy
end Go.Proofs.Ythoeolaleeogbaa.Tb
