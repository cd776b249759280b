import Derived.Test.YtnegigcjeoenmaaPl1
import Derived.Test.YtnegigcjeoenmaaKm1
import Derived.Test.YtnegigcjeoenmaaLFa
namespace Go.Proofs.Ytnegigcjeoenmaa.Dv
open Go Go.RowKit
set_option linter.unusedVariables false
def DrR (w : World) (e : Ending) (w' : World) : Prop := ∃ D v, e = .returned (.tuple #[v, .bool true]) ∧ P4 D 41 ∧ D.ca = [] ∧ D.qu = [] ∧ DevOwn w.heap.size w' v D ∧ Below w.heap.size w w'
/-- a device that can be read, in a box -/
def DaI (W : World) (g : Nat) (D : Dev) : Prop := ∃ E1 e1 E2 e2 E3 e3, Box W g 28 #[.int .i64 D.dep, .int .i64 D.nxt, .slice E1 D.bl.length e1, .slice E2 D.ca.length e2, .slice E3 D.qu.length e3] ∧ DevIn W (.agg #[.int .i64 D.dep, .int .i64 D.nxt, .slice E1 D.bl.length e1, .slice E2 D.ca.length e2, .slice E3 D.qu.length e3]) D
set_option maxHeartbeats 4000000 in
set_option maxRecDepth 100000 in
theorem drained_any (v : Value) (D0 : Dev) (w : World) (h : DevIn w v D0) (P : P4 D0 40) : Calls Try.prog 32 #[v] w (DrR w) := by
  have hv := h
  obtain ⟨A1, c1, A2, c2, A3, c3, rfl, _, _, _, _, _, _⟩ := h
  obtain ⟨W0, hW0⟩ : ∃ W0, W0 = (w.alloc (.cells #[.int .i64 D0.dep, .int .i64 D0.nxt, .slice A1 D0.bl.length c1, .slice A2 D0.ca.length c2, .slice A3 D0.qu.length c3] 28)).alloc (.cells #[.int .i64 0, .int .i64 0, .slice none 0 0, .slice none 0 0, .slice none 0 0] 28) := ⟨_, rfl⟩
  have K0 := hide (show Below w.heap.size w W0 by rw [hW0]; exact bal (bal (brefl w) _) _)
  have D0I := hide (show DaI W0 w.heap.size D0 from ⟨A1, c1, A2, c2, A3, c3, by rw [hW0]; exact (Box.new w 28 _).more _, hv.below K0.out⟩)
  have R0 := hide (show Box W0 (w.heap.size + 1) 28 #[.int .i64 0, .int .i64 0, .slice none 0 0, .slice none 0 0, .slice none 0 0] by rw [hW0]; exact Box.new2 _ _ _ _)
  have P0 := hide P
  have hq0 : D0.qu.length ≤ 4 := by have := P.vd.ql; have := P.dep; omega
  have HW := hide hW0
  clear hW0 hv P
  go_enter Try.func32, Try.ntmps32
  go_upto_region 2 with fail
  rw [← HW.out]
  clear HW
  go_loopw [10] (fun i wr => ∃ (k : Nat) (D : Dev), k ≤ 4 ∧ i = .int .i64 k ∧ D.qu.length ≤ 4 - k ∧ Hid (P4 D 40) ∧ Hid (DaI wr w.heap.size D) ∧ Hid (Box wr (w.heap.size + 1) 28 #[.int .i64 0, .int .i64 0, .slice none 0 0, .slice none 0 0, .slice none 0 0]) ∧ Hid (Below w.heap.size w wr)) (fun i _ => 4 - (intOf i).toNat)
  case atStart => exact ⟨0, D0, Nat.zero_le _, rfl, hq0, P0, D0I, R0, K0⟩
  case round =>
    clear P0 D0I R0 K0 hq0
    obtain ⟨k, D, hk, rfl, hql, P0, DI, RB, KW⟩ := hrel
    obtain ⟨E1, e1, E2, e2, E3, e3, hX, hIN⟩ := DI.out
    have X := hide hX
    have IN := hide hIN
    clear hX hIN DI
    have x4 := X.out.cell 4
    simp at x4
    by_cases hlt : k < 4
    · have hlt1 : (k : Int) < 4 := by omega
      have hlt2 : ¬ (4 : Int) ≤ (k : Int) := by omega
      by_cases hz : D.qu.length = 0
      · have hqn : D.qu = [] := List.eq_nil_of_length_eq_zero hz
        have hz1 : ((D.qu.length : Int) == 0) = true := by simp [hz]
        clear hz
        have SBE := hide (show sbE D 3 0 ([] : By).length = 0 by rw [sb4 (kd := 3) (b := 0) (len := ([] : By).length) P0.out (by omega) r_f, if_pos (by rw [hqn]; simp)])
        have S31 := hide (submit_any _ D 3 0 (.slice none 0 0) [] wr IN.out P0.out.big (OwnBy.nil _).is)
        unfold DvR3 at S31
        rw [SBE.out] at S31
        simp only [if_true] at S31
        obtain ⟨Fb, hFb⟩ : ∃ Fb, Fb = sbD D 3 0 [] := ⟨_, rfl⟩
        rw [← hFb] at S31
        have PB := hide (show P4 Fb 41 by rw [hFb]; exact p4_sb P0.out SBE.out)
        have QB := hide (show Fb.qu = [(D.nxt, 3, 0, [])] by rw [hFb]; show D.qu ++ _ = _; rw [hqn]; rfl)
        clear SBE hFb hqn
        obtain ⟨x0, x1, x2, x3, x4⟩ := box5_cells (W' := wr) X.out
        go_wp2_with fail
        refine S31.out.mono ?_
        rintro e w5 ⟨v5, rfl, ho5, hb5⟩
        obtain ⟨ub, uc, uq, rfl, ob, oc, oq⟩ := ho5
        obtain ⟨U1, u1, rfl, _⟩ := ob.form
        obtain ⟨U2, u2, rfl, _⟩ := oc.form
        obtain ⟨U3, u3, rfl, _⟩ := oq.form
        have hsz := KW.out.size
        have X5 := hide (X.out.below hb5)
        have K5 := hide (btrans KW.out hb5)
        have R5 := hide (RB.out.below hb5)
        clear x0 x1 x2 x3 x4
        obtain ⟨b0, b1, b2, b3, b4⟩ := box5_cells (W' := w5) X5.out
        have fb0 := X5.out.frozen 0
        have fb1 := X5.out.frozen 1
        have fb2 := X5.out.frozen 2
        have fb3 := X5.out.frozen 3
        have fb4 := X5.out.frozen 4
        have OB := hide (ob.mono hsz)
        have OC := hide (oc.mono hsz)
        have OQ := hide (oq.mono hsz)
        clear ob oc oq hb5
        go_upto_region 12 with fail
        have KS := hide (kp_set5 (B := w.heap.size) X5.out (Nat.le_refl _) (.int .i64 Fb.dep) (.int .i64 Fb.nxt) (.slice U1 Fb.bl.length u1) (.slice U2 Fb.ca.length u2) (.slice U3 Fb.qu.length u3))
        replace OB := hide (OB.out.kp KS.out (by decide) (by decide))
        replace OC := hide (OC.out.kp KS.out (by decide) (by decide))
        replace OQ := hide (OQ.out.kp KS.out (by decide) (by decide))
        have X6 := hide (X5.out.set5 (.int .i64 Fb.dep) (.int .i64 Fb.nxt) (.slice U1 Fb.bl.length u1) (.slice U2 Fb.ca.length u2) (.slice U3 Fb.qu.length u3))
        have R6 := hide (R5.out.far5 (show w.heap.size + 1 ≠ w.heap.size by omega) (.int .i64 Fb.dep) (.int .i64 Fb.nxt) (.slice U1 Fb.bl.length u1) (.slice U2 Fb.ca.length u2) (.slice U3 Fb.qu.length u3))
        have K6 := hide (K5.out.trans KS.out.below)
        clear b0 b1 b2 b3 b4 fb0 fb1 fb2 fb3 fb4 KS X5 R5 K5
        generalize (((((w5.setCell ⟨w.heap.size, 0, none⟩ (.int .i64 Fb.dep)).setCell ⟨w.heap.size, 1, none⟩ (.int .i64 Fb.nxt)).setCell ⟨w.heap.size, 2, none⟩ (.slice U1 Fb.bl.length u1)).setCell ⟨w.heap.size, 3, none⟩ (.slice U2 Fb.ca.length u2)).setCell ⟨w.heap.size, 4, none⟩ (.slice U3 Fb.qu.length u3)) = w6 at *
        have CM := hide (complete_any _ Fb 0 true w6 (DevOwn.is (B := w.heap.size) ⟨_, _, _, rfl, OB.out, OC.out, OQ.out⟩) PB.out.big)
        unfold DqR at CM
        have hq1 : (0 : Int) < (Fb.qu.length : Int) := by rw [QB.out]; simp
        rw [cm4 (p := 0) PB.out (by omega), if_pos hq1] at CM
        simp only [if_true] at CM
        rw [show (0 : Int).toNat = 0 from rfl] at CM
        obtain ⟨Fc, hFc⟩ : ∃ Fc, Fc = cmD Fb 0 true := ⟨_, rfl⟩
        rw [← hFc] at CM
        have PC := hide (show P4 Fc 41 by rw [hFc]; exact p4_cm PB.out (by omega))
        have qe : qAt Fb.qu 0 = (D.nxt, 3, 0, []) := by rw [QB.out]; rfl
        have ce : Fc = carD (delD Fb 0) (D.nxt, 3, 0, []) := by rw [hFc, ← qe]; rfl
        have CA := hide (show Fc.ca = [] by rw [ce]; rfl)
        have CQ := hide (show Fc.qu = [] by rw [ce]; show Fb.qu.take 0 ++ Fb.qu.drop 1 = []; rw [QB.out]; rfl)
        have cq : cmQ Fb 0 true = (D.nxt, 3, 0, []) := by unfold cmQ; rw [qe]; rfl
        rw [cq] at CM
        simp only at CM
        clear hFc qe ce cq QB hq1 PB
        obtain ⟨x0, x1, x2, x3, x4⟩ := box5_cells (W' := w6) X6.out
        go_wp2_with fail
        refine CM.out.mono ?_
        rintro e w7 ⟨v7, u7, rfl, ho7, hu7, hb7⟩
        obtain ⟨vb, vc, vq, rfl, ob, oc, oq⟩ := ho7
        obtain ⟨V1, v1, rfl, _⟩ := ob.form
        obtain ⟨V2, v2, rfl, _⟩ := oc.form
        obtain ⟨V3, v3, rfl, _⟩ := oq.form
        obtain ⟨A7, d7, rfl⟩ := hu7.form
        have hsz6 := K6.out.size
        have X7 := hide (X6.out.below hb7)
        have R7 := hide (R6.out.below hb7)
        have K7 := hide (btrans K6.out hb7)
        have hqg : w.heap.size + 1 < w7.heap.size := R7.out.lt
        replace OB := hide (ob.mono hsz6)
        replace OC := hide (oc.mono hsz6)
        replace OQ := hide (oq.mono hsz6)
        clear ob oc oq hu7 hb7 x0 x1 x2 x3 x4 X6 R6 K6 CM
        obtain ⟨b0, b1, b2, b3, b4⟩ := box5_cells (W' := w7) X7.out
        have fb0 := X7.out.frozen 0
        have fb1 := X7.out.frozen 1
        have fb2 := X7.out.frozen 2
        have fb3 := X7.out.frozen 3
        have fb4 := X7.out.frozen 4
        have hg7 : w.heap.size < w7.heap.size := X7.out.lt
        go_upto_region 13 with fail
        clear hg7
        have KS := hide (kp_set5 (B := w.heap.size) X7.out (Nat.le_refl _) (.int .i64 Fc.dep) (.int .i64 Fc.nxt) (.slice V1 Fc.bl.length v1) (.slice V2 Fc.ca.length v2) (.slice V3 Fc.qu.length v3))
        replace OB := hide (OB.out.kp KS.out (by decide) (by decide))
        replace OC := hide (OC.out.kp KS.out (by decide) (by decide))
        replace OQ := hide (OQ.out.kp KS.out (by decide) (by decide))
        have X8 := hide (X7.out.set5 (.int .i64 Fc.dep) (.int .i64 Fc.nxt) (.slice V1 Fc.bl.length v1) (.slice V2 Fc.ca.length v2) (.slice V3 Fc.qu.length v3))
        have R8 := hide (R7.out.far5 (show w.heap.size + 1 ≠ w.heap.size by omega) (.int .i64 Fc.dep) (.int .i64 Fc.nxt) (.slice V1 Fc.bl.length v1) (.slice V2 Fc.ca.length v2) (.slice V3 Fc.qu.length v3))
        have K8 := hide (K7.out.trans KS.out.below)
        have hs8 : ((((((w7.setCell ⟨w.heap.size, 0, none⟩ (.int .i64 Fc.dep)).setCell ⟨w.heap.size, 1, none⟩ (.int .i64 Fc.nxt)).setCell ⟨w.heap.size, 2, none⟩ (.slice V1 Fc.bl.length v1)).setCell ⟨w.heap.size, 3, none⟩ (.slice V2 Fc.ca.length v2)).setCell ⟨w.heap.size, 4, none⟩ (.slice V3 Fc.qu.length v3))).heap.size = w7.heap.size := by simp [World.setCell]
        obtain ⟨qb, hqb⟩ : ∃ qb, qb = w7.heap.size := ⟨_, rfl⟩
        rw [← hqb] at hs8 hqg ⊢
        clear b0 b1 b2 b3 b4 fb0 fb1 fb2 fb3 fb4 KS X7 R7 K7 hqb
        generalize (((((w7.setCell ⟨w.heap.size, 0, none⟩ (.int .i64 Fc.dep)).setCell ⟨w.heap.size, 1, none⟩ (.int .i64 Fc.nxt)).setCell ⟨w.heap.size, 2, none⟩ (.slice V1 Fc.bl.length v1)).setCell ⟨w.heap.size, 3, none⟩ (.slice V2 Fc.ca.length v2)).setCell ⟨w.heap.size, 4, none⟩ (.slice V3 Fc.qu.length v3)) = w8 at *
        have MO1 := bal (brefl w8) (.cells #[.int .i64 D.nxt, .int .i64 3, .int .i64 0, .slice A7 0 d7] 39)
        have BQ := hide (show Box (w8.alloc (.cells #[.int .i64 D.nxt, .int .i64 3, .int .i64 0, .slice A7 0 d7] 39)) qb 39 #[.int .i64 D.nxt, .int .i64 3, .int .i64 0, .slice A7 0 d7] by have := Box.new w8 39 #[.int .i64 D.nxt, .int .i64 3, .int .i64 0, .slice A7 0 d7]; rwa [hs8] at this)
        have X9 := hide (X8.out.below MO1)
        have R9 := hide (R8.out.below MO1)
        have K9 := hide (btrans K8.out MO1)
        replace OB := hide (OB.out.below MO1)
        replace OC := hide (OC.out.below MO1)
        replace OQ := hide (OQ.out.below MO1)
        clear X8 R8 K8 MO1 hs8
        generalize w8.alloc (.cells #[.int .i64 D.nxt, .int .i64 3, .int .i64 0, .slice A7 0 d7] 39) = w9 at *
        have DR := hide (below_drew (brefl w9))
        replace X9 := hide (X9.out.below DR.out)
        replace R9 := hide (R9.out.below DR.out)
        replace K9 := hide (btrans K9.out DR.out)
        replace BQ := hide (BQ.out.below DR.out)
        replace OB := hide (OB.out.below DR.out)
        replace OC := hide (OC.out.below DR.out)
        replace OQ := hide (OQ.out.below DR.out)
        have SA := hide (show (fun W => W.cell? ⟨w.heap.size, 0, none⟩ = some (.int .i64 Fc.dep) ∧ W.cell? ⟨w.heap.size, 1, none⟩ = some (.int .i64 Fc.nxt) ∧ W.cell? ⟨w.heap.size, 2, none⟩ = some (.slice V1 Fc.bl.length v1) ∧ W.cell? ⟨w.heap.size, 3, none⟩ = some (.slice V2 Fc.ca.length v2) ∧ W.cell? ⟨w.heap.size, 4, none⟩ = some (.slice V3 Fc.qu.length v3) ∧ W.cell? ⟨qb, 1, none⟩ = some (.int .i64 3)) w9.drew from ⟨X9.out.cell 0, X9.out.cell 1, X9.out.cell 2, X9.out.cell 3, X9.out.cell 4, BQ.out.cell 1⟩)
        clear DR
        refine wp_region_noPanic ?_
        refine wp_region_held_drew (S := (fun W => W.cell? ⟨w.heap.size, 0, none⟩ = some (.int .i64 Fc.dep) ∧ W.cell? ⟨w.heap.size, 1, none⟩ = some (.int .i64 Fc.nxt) ∧ W.cell? ⟨w.heap.size, 2, none⟩ = some (.slice V1 Fc.bl.length v1) ∧ W.cell? ⟨w.heap.size, 3, none⟩ = some (.slice V2 Fc.ca.length v2) ∧ W.cell? ⟨w.heap.size, 4, none⟩ = some (.slice V3 Fc.qu.length v3) ∧ W.cell? ⟨qb, 1, none⟩ = some (.int .i64 3))) (by kernel_rfl) ?_ (fun hHeld => ?_)
        · exact SA.out
        generalize w9.drew = wz at *
        obtain ⟨b0, b1, b2, b3, b4⟩ := box5_cells (W' := wz) R9.out
        have fb0 := R9.out.frozen 0
        have fb1 := R9.out.frozen 1
        have fb2 := R9.out.frozen 2
        have fb3 := R9.out.frozen 3
        have fb4 := R9.out.frozen 4
        have KS := hide (kp_set5 (B := w.heap.size) R9.out (Nat.le_succ _) (.int .i64 Fc.dep) (.int .i64 Fc.nxt) (.slice V1 Fc.bl.length v1) (.slice V2 Fc.ca.length v2) (.slice V3 Fc.qu.length v3))
        replace OB := hide (OB.out.kp KS.out (by decide) (by decide))
        replace OC := hide (OC.out.kp KS.out (by decide) (by decide))
        replace OQ := hide (OQ.out.kp KS.out (by decide) (by decide))
        have R10 := hide (R9.out.set5 (.int .i64 Fc.dep) (.int .i64 Fc.nxt) (.slice V1 Fc.bl.length v1) (.slice V2 Fc.ca.length v2) (.slice V3 Fc.qu.length v3))
        have X10 := hide (X9.out.far5 (show w.heap.size ≠ w.heap.size + 1 by omega) (.int .i64 Fc.dep) (.int .i64 Fc.nxt) (.slice V1 Fc.bl.length v1) (.slice V2 Fc.ca.length v2) (.slice V3 Fc.qu.length v3))
        have BQ10 := hide (BQ.out.far5 (show qb ≠ w.heap.size + 1 by omega) (.int .i64 Fc.dep) (.int .i64 Fc.nxt) (.slice V1 Fc.bl.length v1) (.slice V2 Fc.ca.length v2) (.slice V3 Fc.qu.length v3))
        have K10 := hide (K9.out.trans KS.out.below)
        obtain ⟨w10, hw10⟩ : ∃ w10, w10 = (((((wz.setCell ⟨w.heap.size + 1, 0, none⟩ (.int .i64 Fc.dep)).setCell ⟨w.heap.size + 1, 1, none⟩ (.int .i64 Fc.nxt)).setCell ⟨w.heap.size + 1, 2, none⟩ (.slice V1 Fc.bl.length v1)).setCell ⟨w.heap.size + 1, 3, none⟩ (.slice V2 Fc.ca.length v2)).setCell ⟨w.heap.size + 1, 4, none⟩ (.slice V3 Fc.qu.length v3)) := ⟨_, rfl⟩
        rw [← hw10] at OB OC OQ R10 X10 BQ10 K10
        have HW10 := hide hw10
        have SB := hide (show (fun W => W.cell? ⟨w.heap.size, 0, none⟩ = some (.int .i64 Fc.dep) ∧ W.cell? ⟨w.heap.size, 1, none⟩ = some (.int .i64 Fc.nxt) ∧ W.cell? ⟨w.heap.size, 2, none⟩ = some (.slice V1 Fc.bl.length v1) ∧ W.cell? ⟨w.heap.size, 3, none⟩ = some (.slice V2 Fc.ca.length v2) ∧ W.cell? ⟨w.heap.size, 4, none⟩ = some (.slice V3 Fc.qu.length v3) ∧ W.cell? ⟨qb, 1, none⟩ = some (.int .i64 3)) w10 from ⟨X10.out.cell 0, X10.out.cell 1, X10.out.cell 2, X10.out.cell 3, X10.out.cell 4, BQ10.out.cell 1⟩)
        clear hw10 KS X9 R9 K9 BQ X10 BQ10
        refine wpAnyH_take (i := 0) (oi := ⟨some 42, _, _, _, _, _⟩) (v := ?_) rfl (by kernel_rfl) (by kernel_rfl) (by kernel_rfl) (fun _ _ _ h => h) (Or.inl ⟨by kernel_rfl, ?_⟩) (by assumption) ?_
        rotate_left 1
        · (intro w hSw; (try dsimp only at hSw); go_simp) <;> (with_reducible rfl)
        (try simp only [Act.put, List.setIfInBounds_toArray, List.set_cons_succ, List.set_cons_zero])
        refine wpAnyH_take (i := 1) (oi := ⟨some 43, _, _, _, _, _⟩) (v := ?_) rfl (by kernel_rfl) (by kernel_rfl) (by kernel_rfl) (fun _ _ _ h => h) (Or.inl ⟨by kernel_rfl, ?_⟩) (by assumption) ?_
        rotate_left 1
        · (intro w hSw; (try dsimp only at hSw); go_simp) <;> (with_reducible rfl)
        (try simp only [Act.put, List.setIfInBounds_toArray, List.set_cons_succ, List.set_cons_zero])
        refine wpAnyH_take (i := 2) (oi := ⟨some 44, _, _, _, _, _⟩) (v := ?_) rfl (by kernel_rfl) (by kernel_rfl) (by kernel_rfl) (fun _ _ _ h => h) (Or.inl ⟨by kernel_rfl, ?_⟩) (by assumption) ?_
        rotate_left 1
        · (intro w hSw; (try dsimp only at hSw); go_simp) <;> (with_reducible rfl)
        (try simp only [Act.put, List.setIfInBounds_toArray, List.set_cons_succ, List.set_cons_zero])
        refine wpAnyH_take (i := 3) (oi := ⟨some 45, _, _, _, _, _⟩) (v := ?_) rfl (by kernel_rfl) (by kernel_rfl) (by kernel_rfl) (fun _ _ _ h => h) (Or.inl ⟨by kernel_rfl, ?_⟩) (by assumption) ?_
        rotate_left 1
        · (intro w hSw; (try dsimp only at hSw); go_simp) <;> (with_reducible rfl)
        (try simp only [Act.put, List.setIfInBounds_toArray, List.set_cons_succ, List.set_cons_zero])
        refine wpAnyH_take (i := 4) (oi := ⟨some 46, _, _, _, _, _⟩) (v := ?_) rfl (by kernel_rfl) (by kernel_rfl) (by kernel_rfl) (fun _ _ _ h => h) (Or.inl ⟨by kernel_rfl, ?_⟩) (by assumption) ?_
        rotate_left 1
        · (intro w hSw; (try dsimp only at hSw); go_simp) <;> (with_reducible rfl)
        (try simp only [Act.put, List.setIfInBounds_toArray, List.set_cons_succ, List.set_cons_zero])
        refine wpAnyH_take (i := 5) (oi := ⟨some 47, _, _, _, _, _⟩) (v := ?_) rfl (by kernel_rfl) (by kernel_rfl) (by kernel_rfl) (fun _ _ _ h => h) (Or.inl ⟨by kernel_rfl, ?_⟩) (by assumption) ?_
        rotate_left 1
        · (intro w hSw; (try dsimp only at hSw); go_simp) <;> (with_reducible rfl)
        (try simp only [Act.put, List.setIfInBounds_toArray, List.set_cons_succ, List.set_cons_zero])
        refine wpAnyH_take (i := 6) (oi := ⟨some 48, _, _, _, _, _⟩) (v := ?_) rfl (by kernel_rfl) (by kernel_rfl) (by kernel_rfl) (fun _ _ _ h => h) (Or.inl ⟨by kernel_rfl, ?_⟩) (by assumption) ?_
        rotate_left 1
        · (intro w hSw; (try dsimp only at hSw); go_simp) <;> (with_reducible rfl)
        (try simp only [Act.put, List.setIfInBounds_toArray, List.set_cons_succ, List.set_cons_zero])
        refine wpAnyH_take (i := 7) (oi := ⟨some 49, _, _, _, _, _⟩) (v := ?_) rfl (by kernel_rfl) (by kernel_rfl) (by kernel_rfl) (fun _ _ _ h => h) (Or.inl ⟨by kernel_rfl, ?_⟩) (by assumption) ?_
        rotate_left 1
        · (intro w hSw; (try dsimp only at hSw); go_simp) <;> (with_reducible rfl)
        (try simp only [Act.put, List.setIfInBounds_toArray, List.set_cons_succ, List.set_cons_zero])
        refine wpAnyH_ready (rs := [8]) (by kernel_rfl) (by simp) ?_
        refine AllReadyH.cons (o := _) rfl (fun K' hK => ?_) AllReadyH.nil
        go_simp
        rw [← HW10.out]
        refine hK.out _ _ ?_ (fun hHeld => ?_)
        · exact SB.out
        clear hK K'
        (try simp only [Act.put, List.setIfInBounds_toArray, List.set_cons_succ, List.set_cons_zero])
        refine wpAnyH_take (i := 9) (oi := ⟨some 3, _, _, _, _, _⟩) (v := ?_) rfl (by kernel_rfl) (by kernel_rfl) (by kernel_rfl) (fun _ _ _ h => h) (Or.inl ⟨by kernel_rfl, ?_⟩) (by assumption) ?_
        rotate_left 1
        · (intro w hSw; (try dsimp only at hSw); go_simp) <;> (with_reducible rfl)
        (try simp only [Act.put, List.setIfInBounds_toArray, List.set_cons_succ, List.set_cons_zero])
        refine wpAnyH_done (by kernel_rfl) ?_ _
        refine NoPanic.normal ?_
        go_wp2
        exact ret_db Try.results32 rfl rfl rfl R10.out ⟨Fc, _, rfl, PC.out, CA.out, CQ.out, ⟨_, _, _, rfl, OB.out, OC.out, OQ.out⟩, K10.out⟩
      · have hz1 : ((D.qu.length : Int) == 0) = false := by simpa using hz
        have CM := hide (complete_any _ D 0 true wr IN.out P0.out.big)
        unfold DqR at CM
        have hq1 : (0 : Int) < (D.qu.length : Int) := by omega
        rw [cm4 (p := 0) P0.out (by omega), if_pos hq1] at CM
        simp only [if_true] at CM
        rw [show (0 : Int).toNat = 0 from rfl] at CM
        obtain ⟨Fc, hFc⟩ : ∃ Fc, Fc = cmD D 0 true := ⟨_, rfl⟩
        rw [← hFc] at CM
        have PF := hide (show P4 Fc 40 by rw [hFc]; exact p4_cm P0.out (by omega))
        have QL := hide (show Fc.qu.length ≤ 4 - (k + 1) by rw [hFc, (cm_n (D := D) (p := 0) (ok := true)).2.2.2]; simp; omega)
        generalize cmQ D 0 true = fq at *
        obtain ⟨y0, y1, y2, l5⟩ := fq
        simp only at CM
        clear hFc hz hq1
        obtain ⟨x0, x1, x2, x3, _⟩ := box5_cells (W' := wr) X.out
        go_wp2_with fail
        refine CM.out.mono ?_
        rintro e w7 ⟨v7, u7, rfl, ho7, hu7, hb7⟩
        obtain ⟨vb, vc, vq, rfl, ob, oc, oq⟩ := ho7
        obtain ⟨V1, v1, rfl, _⟩ := ob.form
        obtain ⟨V2, v2, rfl, _⟩ := oc.form
        obtain ⟨V3, v3, rfl, _⟩ := oq.form
        obtain ⟨A7, d7, rfl⟩ := hu7.form
        have hsz6 := KW.out.size
        have MO1 := bal (bal (brefl w7) (.cells #[.int .i64 Fc.dep, .int .i64 Fc.nxt, .slice V1 Fc.bl.length v1, .slice V2 Fc.ca.length v2, .slice V3 Fc.qu.length v3] 28)) (.cells #[.int .i64 y0, .int .i64 y1, .int .i64 y2, .slice A7 l5.length d7] 39)
        have X7 := hide ((X.out.below hb7).below MO1)
        have R7 := hide ((RB.out.below hb7).below MO1)
        have K7 := hide (btrans KW.out (btrans hb7 MO1))
        have OB := hide ((ob.mono hsz6).below MO1)
        have OC := hide ((oc.mono hsz6).below MO1)
        have OQ := hide ((oq.mono hsz6).below MO1)
        have BA := hide ((Box.new w7 28 #[.int .i64 Fc.dep, .int .i64 Fc.nxt, .slice V1 Fc.bl.length v1, .slice V2 Fc.ca.length v2, .slice V3 Fc.qu.length v3]).more (.cells #[.int .i64 y0, .int .i64 y1, .int .i64 y2, .slice A7 l5.length d7] 39))
        clear ob oc oq hu7 hb7 MO1 x0 x1 x2 x3 x4 CM IN X RB
        go_upto_region 5 with fail
        obtain ⟨ga, hga⟩ : ∃ ga, ga = w7.heap.size := ⟨_, rfl⟩
        rw [← hga] at BA ⊢
        generalize (w7.alloc (.cells #[.int .i64 Fc.dep, .int .i64 Fc.nxt, .slice V1 Fc.bl.length v1, .slice V2 Fc.ca.length v2, .slice V3 Fc.qu.length v3] 28)).alloc (.cells #[.int .i64 y0, .int .i64 y1, .int .i64 y2, .slice A7 l5.length d7] 39) = w8 at *
        clear hga
        obtain ⟨a0, a1, a2, a3, a4⟩ := box5_cells (W' := w8) BA.out
        obtain ⟨b0, b1, b2, b3, b4⟩ := box5_cells (W' := w8) X7.out
        have fb0 := X7.out.frozen 0
        have fb1 := X7.out.frozen 1
        have fb2 := X7.out.frozen 2
        have fb3 := X7.out.frozen 3
        have fb4 := X7.out.frozen 4
        go_wp2
        have KS := hide (kp_set5 (B := w.heap.size) X7.out (Nat.le_refl _) (.int .i64 Fc.dep) (.int .i64 Fc.nxt) (.slice V1 Fc.bl.length v1) (.slice V2 Fc.ca.length v2) (.slice V3 Fc.qu.length v3))
        have OWN := hide (show DevOwn w.heap.size ((((((w8.setCell ⟨w.heap.size, 0, none⟩ (.int .i64 Fc.dep)).setCell ⟨w.heap.size, 1, none⟩ (.int .i64 Fc.nxt)).setCell ⟨w.heap.size, 2, none⟩ (.slice V1 Fc.bl.length v1)).setCell ⟨w.heap.size, 3, none⟩ (.slice V2 Fc.ca.length v2)).setCell ⟨w.heap.size, 4, none⟩ (.slice V3 Fc.qu.length v3))) (.agg #[.int .i64 Fc.dep, .int .i64 Fc.nxt, .slice V1 Fc.bl.length v1, .slice V2 Fc.ca.length v2, .slice V3 Fc.qu.length v3]) Fc from ⟨_, _, _, rfl, OB.out.kp KS.out (by decide) (by decide), OC.out.kp KS.out (by decide) (by decide), OQ.out.kp KS.out (by decide) (by decide)⟩)
        go_roundw
        case rel => exact ⟨k + 1, Fc, by omega, by go_num, QL.out, PF, hide ⟨V1, v1, V2, v2, V3, v3, X7.out.set5 _ _ _ _ _, OWN.out.is⟩, hide (R7.out.far5 (show w.heap.size + 1 ≠ w.heap.size by omega) _ _ _ _ _), hide (K7.out.trans KS.out.below)⟩
        case measure => simp [intOf]; omega
    · obtain rfl : k = 4 := by omega
      have hqn : D.qu = [] := List.eq_nil_of_length_eq_zero (by omega)
      clear hql
      have SBE := hide (show sbE D 3 0 ([] : By).length = 0 by rw [sb4 (kd := 3) (b := 0) (len := ([] : By).length) P0.out (by omega) r_f, if_pos (by rw [hqn]; simp)])
      have S31 := hide (submit_any _ D 3 0 (.slice none 0 0) [] wr IN.out P0.out.big (OwnBy.nil _).is)
      unfold DvR3 at S31
      rw [SBE.out] at S31
      simp only [if_true] at S31
      obtain ⟨Fb, hFb⟩ : ∃ Fb, Fb = sbD D 3 0 [] := ⟨_, rfl⟩
      rw [← hFb] at S31
      have PB := hide (show P4 Fb 41 by rw [hFb]; exact p4_sb P0.out SBE.out)
      have QB := hide (show Fb.qu = [(D.nxt, 3, 0, [])] by rw [hFb]; show D.qu ++ _ = _; rw [hqn]; rfl)
      clear SBE hFb hqn
      obtain ⟨x0, x1, x2, x3, x4⟩ := box5_cells (W' := wr) X.out
      go_wp2_with fail
      refine S31.out.mono ?_
      rintro e w5 ⟨v5, rfl, ho5, hb5⟩
      obtain ⟨ub, uc, uq, rfl, ob, oc, oq⟩ := ho5
      obtain ⟨U1, u1, rfl, _⟩ := ob.form
      obtain ⟨U2, u2, rfl, _⟩ := oc.form
      obtain ⟨U3, u3, rfl, _⟩ := oq.form
      have hsz := KW.out.size
      have X5 := hide (X.out.below hb5)
      have K5 := hide (btrans KW.out hb5)
      have R5 := hide (RB.out.below hb5)
      clear x0 x1 x2 x3 x4
      obtain ⟨b0, b1, b2, b3, b4⟩ := box5_cells (W' := w5) X5.out
      have fb0 := X5.out.frozen 0
      have fb1 := X5.out.frozen 1
      have fb2 := X5.out.frozen 2
      have fb3 := X5.out.frozen 3
      have fb4 := X5.out.frozen 4
      have OB := hide (ob.mono hsz)
      have OC := hide (oc.mono hsz)
      have OQ := hide (oq.mono hsz)
      clear ob oc oq hb5
      go_upto_region 12 with fail
      have KS := hide (kp_set5 (B := w.heap.size) X5.out (Nat.le_refl _) (.int .i64 Fb.dep) (.int .i64 Fb.nxt) (.slice U1 Fb.bl.length u1) (.slice U2 Fb.ca.length u2) (.slice U3 Fb.qu.length u3))
      replace OB := hide (OB.out.kp KS.out (by decide) (by decide))
      replace OC := hide (OC.out.kp KS.out (by decide) (by decide))
      replace OQ := hide (OQ.out.kp KS.out (by decide) (by decide))
      have X6 := hide (X5.out.set5 (.int .i64 Fb.dep) (.int .i64 Fb.nxt) (.slice U1 Fb.bl.length u1) (.slice U2 Fb.ca.length u2) (.slice U3 Fb.qu.length u3))
      have R6 := hide (R5.out.far5 (show w.heap.size + 1 ≠ w.heap.size by omega) (.int .i64 Fb.dep) (.int .i64 Fb.nxt) (.slice U1 Fb.bl.length u1) (.slice U2 Fb.ca.length u2) (.slice U3 Fb.qu.length u3))
      have K6 := hide (K5.out.trans KS.out.below)
      clear b0 b1 b2 b3 b4 fb0 fb1 fb2 fb3 fb4 KS X5 R5 K5
      generalize (((((w5.setCell ⟨w.heap.size, 0, none⟩ (.int .i64 Fb.dep)).setCell ⟨w.heap.size, 1, none⟩ (.int .i64 Fb.nxt)).setCell ⟨w.heap.size, 2, none⟩ (.slice U1 Fb.bl.length u1)).setCell ⟨w.heap.size, 3, none⟩ (.slice U2 Fb.ca.length u2)).setCell ⟨w.heap.size, 4, none⟩ (.slice U3 Fb.qu.length u3)) = w6 at *
      have CM := hide (complete_any _ Fb 0 true w6 (DevOwn.is (B := w.heap.size) ⟨_, _, _, rfl, OB.out, OC.out, OQ.out⟩) PB.out.big)
      unfold DqR at CM
      have hq1 : (0 : Int) < (Fb.qu.length : Int) := by rw [QB.out]; simp
      rw [cm4 (p := 0) PB.out (by omega), if_pos hq1] at CM
      simp only [if_true] at CM
      rw [show (0 : Int).toNat = 0 from rfl] at CM
      obtain ⟨Fc, hFc⟩ : ∃ Fc, Fc = cmD Fb 0 true := ⟨_, rfl⟩
      rw [← hFc] at CM
      have PC := hide (show P4 Fc 41 by rw [hFc]; exact p4_cm PB.out (by omega))
      have qe : qAt Fb.qu 0 = (D.nxt, 3, 0, []) := by rw [QB.out]; rfl
      have ce : Fc = carD (delD Fb 0) (D.nxt, 3, 0, []) := by rw [hFc, ← qe]; rfl
      have CA := hide (show Fc.ca = [] by rw [ce]; rfl)
      have CQ := hide (show Fc.qu = [] by rw [ce]; show Fb.qu.take 0 ++ Fb.qu.drop 1 = []; rw [QB.out]; rfl)
      have cq : cmQ Fb 0 true = (D.nxt, 3, 0, []) := by unfold cmQ; rw [qe]; rfl
      rw [cq] at CM
      simp only at CM
      clear hFc qe ce cq QB hq1 PB
      obtain ⟨x0, x1, x2, x3, x4⟩ := box5_cells (W' := w6) X6.out
      go_wp2_with fail
      refine CM.out.mono ?_
      rintro e w7 ⟨v7, u7, rfl, ho7, hu7, hb7⟩
      obtain ⟨vb, vc, vq, rfl, ob, oc, oq⟩ := ho7
      obtain ⟨V1, v1, rfl, _⟩ := ob.form
      obtain ⟨V2, v2, rfl, _⟩ := oc.form
      obtain ⟨V3, v3, rfl, _⟩ := oq.form
      obtain ⟨A7, d7, rfl⟩ := hu7.form
      have hsz6 := K6.out.size
      have X7 := hide (X6.out.below hb7)
      have R7 := hide (R6.out.below hb7)
      have K7 := hide (btrans K6.out hb7)
      have hqg : w.heap.size + 1 < w7.heap.size := R7.out.lt
      replace OB := hide (ob.mono hsz6)
      replace OC := hide (oc.mono hsz6)
      replace OQ := hide (oq.mono hsz6)
      clear ob oc oq hu7 hb7 x0 x1 x2 x3 x4 X6 R6 K6 CM
      obtain ⟨b0, b1, b2, b3, b4⟩ := box5_cells (W' := w7) X7.out
      have fb0 := X7.out.frozen 0
      have fb1 := X7.out.frozen 1
      have fb2 := X7.out.frozen 2
      have fb3 := X7.out.frozen 3
      have fb4 := X7.out.frozen 4
      have hg7 : w.heap.size < w7.heap.size := X7.out.lt
      go_upto_region 13 with fail
      clear hg7
      have KS := hide (kp_set5 (B := w.heap.size) X7.out (Nat.le_refl _) (.int .i64 Fc.dep) (.int .i64 Fc.nxt) (.slice V1 Fc.bl.length v1) (.slice V2 Fc.ca.length v2) (.slice V3 Fc.qu.length v3))
      replace OB := hide (OB.out.kp KS.out (by decide) (by decide))
      replace OC := hide (OC.out.kp KS.out (by decide) (by decide))
      replace OQ := hide (OQ.out.kp KS.out (by decide) (by decide))
      have X8 := hide (X7.out.set5 (.int .i64 Fc.dep) (.int .i64 Fc.nxt) (.slice V1 Fc.bl.length v1) (.slice V2 Fc.ca.length v2) (.slice V3 Fc.qu.length v3))
      have R8 := hide (R7.out.far5 (show w.heap.size + 1 ≠ w.heap.size by omega) (.int .i64 Fc.dep) (.int .i64 Fc.nxt) (.slice V1 Fc.bl.length v1) (.slice V2 Fc.ca.length v2) (.slice V3 Fc.qu.length v3))
      have K8 := hide (K7.out.trans KS.out.below)
      have hs8 : ((((((w7.setCell ⟨w.heap.size, 0, none⟩ (.int .i64 Fc.dep)).setCell ⟨w.heap.size, 1, none⟩ (.int .i64 Fc.nxt)).setCell ⟨w.heap.size, 2, none⟩ (.slice V1 Fc.bl.length v1)).setCell ⟨w.heap.size, 3, none⟩ (.slice V2 Fc.ca.length v2)).setCell ⟨w.heap.size, 4, none⟩ (.slice V3 Fc.qu.length v3))).heap.size = w7.heap.size := by simp [World.setCell]
      obtain ⟨qb, hqb⟩ : ∃ qb, qb = w7.heap.size := ⟨_, rfl⟩
      rw [← hqb] at hs8 hqg ⊢
      clear b0 b1 b2 b3 b4 fb0 fb1 fb2 fb3 fb4 KS X7 R7 K7 hqb
      generalize (((((w7.setCell ⟨w.heap.size, 0, none⟩ (.int .i64 Fc.dep)).setCell ⟨w.heap.size, 1, none⟩ (.int .i64 Fc.nxt)).setCell ⟨w.heap.size, 2, none⟩ (.slice V1 Fc.bl.length v1)).setCell ⟨w.heap.size, 3, none⟩ (.slice V2 Fc.ca.length v2)).setCell ⟨w.heap.size, 4, none⟩ (.slice V3 Fc.qu.length v3)) = w8 at *
      have MO1 := bal (brefl w8) (.cells #[.int .i64 D.nxt, .int .i64 3, .int .i64 0, .slice A7 0 d7] 39)
      have BQ := hide (show Box (w8.alloc (.cells #[.int .i64 D.nxt, .int .i64 3, .int .i64 0, .slice A7 0 d7] 39)) qb 39 #[.int .i64 D.nxt, .int .i64 3, .int .i64 0, .slice A7 0 d7] by have := Box.new w8 39 #[.int .i64 D.nxt, .int .i64 3, .int .i64 0, .slice A7 0 d7]; rwa [hs8] at this)
      have X9 := hide (X8.out.below MO1)
      have R9 := hide (R8.out.below MO1)
      have K9 := hide (btrans K8.out MO1)
      replace OB := hide (OB.out.below MO1)
      replace OC := hide (OC.out.below MO1)
      replace OQ := hide (OQ.out.below MO1)
      clear X8 R8 K8 MO1 hs8
      generalize w8.alloc (.cells #[.int .i64 D.nxt, .int .i64 3, .int .i64 0, .slice A7 0 d7] 39) = w9 at *
      have DR := hide (below_drew (brefl w9))
      replace X9 := hide (X9.out.below DR.out)
      replace R9 := hide (R9.out.below DR.out)
      replace K9 := hide (btrans K9.out DR.out)
      replace BQ := hide (BQ.out.below DR.out)
      replace OB := hide (OB.out.below DR.out)
      replace OC := hide (OC.out.below DR.out)
      replace OQ := hide (OQ.out.below DR.out)
      have SA := hide (show (fun W => W.cell? ⟨w.heap.size, 0, none⟩ = some (.int .i64 Fc.dep) ∧ W.cell? ⟨w.heap.size, 1, none⟩ = some (.int .i64 Fc.nxt) ∧ W.cell? ⟨w.heap.size, 2, none⟩ = some (.slice V1 Fc.bl.length v1) ∧ W.cell? ⟨w.heap.size, 3, none⟩ = some (.slice V2 Fc.ca.length v2) ∧ W.cell? ⟨w.heap.size, 4, none⟩ = some (.slice V3 Fc.qu.length v3) ∧ W.cell? ⟨qb, 1, none⟩ = some (.int .i64 3)) w9.drew from ⟨X9.out.cell 0, X9.out.cell 1, X9.out.cell 2, X9.out.cell 3, X9.out.cell 4, BQ.out.cell 1⟩)
      clear DR
      refine wp_region_noPanic ?_
      refine wp_region_held_drew (S := (fun W => W.cell? ⟨w.heap.size, 0, none⟩ = some (.int .i64 Fc.dep) ∧ W.cell? ⟨w.heap.size, 1, none⟩ = some (.int .i64 Fc.nxt) ∧ W.cell? ⟨w.heap.size, 2, none⟩ = some (.slice V1 Fc.bl.length v1) ∧ W.cell? ⟨w.heap.size, 3, none⟩ = some (.slice V2 Fc.ca.length v2) ∧ W.cell? ⟨w.heap.size, 4, none⟩ = some (.slice V3 Fc.qu.length v3) ∧ W.cell? ⟨qb, 1, none⟩ = some (.int .i64 3))) (by kernel_rfl) ?_ (fun hHeld => ?_)
      · exact SA.out
      generalize w9.drew = wz at *
      obtain ⟨b0, b1, b2, b3, b4⟩ := box5_cells (W' := wz) R9.out
      have fb0 := R9.out.frozen 0
      have fb1 := R9.out.frozen 1
      have fb2 := R9.out.frozen 2
      have fb3 := R9.out.frozen 3
      have fb4 := R9.out.frozen 4
      have KS := hide (kp_set5 (B := w.heap.size) R9.out (Nat.le_succ _) (.int .i64 Fc.dep) (.int .i64 Fc.nxt) (.slice V1 Fc.bl.length v1) (.slice V2 Fc.ca.length v2) (.slice V3 Fc.qu.length v3))
      replace OB := hide (OB.out.kp KS.out (by decide) (by decide))
      replace OC := hide (OC.out.kp KS.out (by decide) (by decide))
      replace OQ := hide (OQ.out.kp KS.out (by decide) (by decide))
      have R10 := hide (R9.out.set5 (.int .i64 Fc.dep) (.int .i64 Fc.nxt) (.slice V1 Fc.bl.length v1) (.slice V2 Fc.ca.length v2) (.slice V3 Fc.qu.length v3))
      have X10 := hide (X9.out.far5 (show w.heap.size ≠ w.heap.size + 1 by omega) (.int .i64 Fc.dep) (.int .i64 Fc.nxt) (.slice V1 Fc.bl.length v1) (.slice V2 Fc.ca.length v2) (.slice V3 Fc.qu.length v3))
      have BQ10 := hide (BQ.out.far5 (show qb ≠ w.heap.size + 1 by omega) (.int .i64 Fc.dep) (.int .i64 Fc.nxt) (.slice V1 Fc.bl.length v1) (.slice V2 Fc.ca.length v2) (.slice V3 Fc.qu.length v3))
      have K10 := hide (K9.out.trans KS.out.below)
      obtain ⟨w10, hw10⟩ : ∃ w10, w10 = (((((wz.setCell ⟨w.heap.size + 1, 0, none⟩ (.int .i64 Fc.dep)).setCell ⟨w.heap.size + 1, 1, none⟩ (.int .i64 Fc.nxt)).setCell ⟨w.heap.size + 1, 2, none⟩ (.slice V1 Fc.bl.length v1)).setCell ⟨w.heap.size + 1, 3, none⟩ (.slice V2 Fc.ca.length v2)).setCell ⟨w.heap.size + 1, 4, none⟩ (.slice V3 Fc.qu.length v3)) := ⟨_, rfl⟩
      rw [← hw10] at OB OC OQ R10 X10 BQ10 K10
      have HW10 := hide hw10
      have SB := hide (show (fun W => W.cell? ⟨w.heap.size, 0, none⟩ = some (.int .i64 Fc.dep) ∧ W.cell? ⟨w.heap.size, 1, none⟩ = some (.int .i64 Fc.nxt) ∧ W.cell? ⟨w.heap.size, 2, none⟩ = some (.slice V1 Fc.bl.length v1) ∧ W.cell? ⟨w.heap.size, 3, none⟩ = some (.slice V2 Fc.ca.length v2) ∧ W.cell? ⟨w.heap.size, 4, none⟩ = some (.slice V3 Fc.qu.length v3) ∧ W.cell? ⟨qb, 1, none⟩ = some (.int .i64 3)) w10 from ⟨X10.out.cell 0, X10.out.cell 1, X10.out.cell 2, X10.out.cell 3, X10.out.cell 4, BQ10.out.cell 1⟩)
      clear hw10 KS X9 R9 K9 BQ X10 BQ10
      refine wpAnyH_take (i := 0) (oi := ⟨some 42, _, _, _, _, _⟩) (v := ?_) rfl (by kernel_rfl) (by kernel_rfl) (by kernel_rfl) (fun _ _ _ h => h) (Or.inl ⟨by kernel_rfl, ?_⟩) (by assumption) ?_
      rotate_left 1
      · (intro w hSw; (try dsimp only at hSw); go_simp) <;> (with_reducible rfl)
      (try simp only [Act.put, List.setIfInBounds_toArray, List.set_cons_succ, List.set_cons_zero])
      refine wpAnyH_take (i := 1) (oi := ⟨some 43, _, _, _, _, _⟩) (v := ?_) rfl (by kernel_rfl) (by kernel_rfl) (by kernel_rfl) (fun _ _ _ h => h) (Or.inl ⟨by kernel_rfl, ?_⟩) (by assumption) ?_
      rotate_left 1
      · (intro w hSw; (try dsimp only at hSw); go_simp) <;> (with_reducible rfl)
      (try simp only [Act.put, List.setIfInBounds_toArray, List.set_cons_succ, List.set_cons_zero])
      refine wpAnyH_take (i := 2) (oi := ⟨some 44, _, _, _, _, _⟩) (v := ?_) rfl (by kernel_rfl) (by kernel_rfl) (by kernel_rfl) (fun _ _ _ h => h) (Or.inl ⟨by kernel_rfl, ?_⟩) (by assumption) ?_
      rotate_left 1
      · (intro w hSw; (try dsimp only at hSw); go_simp) <;> (with_reducible rfl)
      (try simp only [Act.put, List.setIfInBounds_toArray, List.set_cons_succ, List.set_cons_zero])
      refine wpAnyH_take (i := 3) (oi := ⟨some 45, _, _, _, _, _⟩) (v := ?_) rfl (by kernel_rfl) (by kernel_rfl) (by kernel_rfl) (fun _ _ _ h => h) (Or.inl ⟨by kernel_rfl, ?_⟩) (by assumption) ?_
      rotate_left 1
      · (intro w hSw; (try dsimp only at hSw); go_simp) <;> (with_reducible rfl)
      (try simp only [Act.put, List.setIfInBounds_toArray, List.set_cons_succ, List.set_cons_zero])
      refine wpAnyH_take (i := 4) (oi := ⟨some 46, _, _, _, _, _⟩) (v := ?_) rfl (by kernel_rfl) (by kernel_rfl) (by kernel_rfl) (fun _ _ _ h => h) (Or.inl ⟨by kernel_rfl, ?_⟩) (by assumption) ?_
      rotate_left 1
      · (intro w hSw; (try dsimp only at hSw); go_simp) <;> (with_reducible rfl)
      (try simp only [Act.put, List.setIfInBounds_toArray, List.set_cons_succ, List.set_cons_zero])
      refine wpAnyH_take (i := 5) (oi := ⟨some 47, _, _, _, _, _⟩) (v := ?_) rfl (by kernel_rfl) (by kernel_rfl) (by kernel_rfl) (fun _ _ _ h => h) (Or.inl ⟨by kernel_rfl, ?_⟩) (by assumption) ?_
      rotate_left 1
      · (intro w hSw; (try dsimp only at hSw); go_simp) <;> (with_reducible rfl)
      (try simp only [Act.put, List.setIfInBounds_toArray, List.set_cons_succ, List.set_cons_zero])
      refine wpAnyH_take (i := 6) (oi := ⟨some 48, _, _, _, _, _⟩) (v := ?_) rfl (by kernel_rfl) (by kernel_rfl) (by kernel_rfl) (fun _ _ _ h => h) (Or.inl ⟨by kernel_rfl, ?_⟩) (by assumption) ?_
      rotate_left 1
      · (intro w hSw; (try dsimp only at hSw); go_simp) <;> (with_reducible rfl)
      (try simp only [Act.put, List.setIfInBounds_toArray, List.set_cons_succ, List.set_cons_zero])
      refine wpAnyH_take (i := 7) (oi := ⟨some 49, _, _, _, _, _⟩) (v := ?_) rfl (by kernel_rfl) (by kernel_rfl) (by kernel_rfl) (fun _ _ _ h => h) (Or.inl ⟨by kernel_rfl, ?_⟩) (by assumption) ?_
      rotate_left 1
      · (intro w hSw; (try dsimp only at hSw); go_simp) <;> (with_reducible rfl)
      (try simp only [Act.put, List.setIfInBounds_toArray, List.set_cons_succ, List.set_cons_zero])
      refine wpAnyH_ready (rs := [8]) (by kernel_rfl) (by simp) ?_
      refine AllReadyH.cons (o := _) rfl (fun K' hK => ?_) AllReadyH.nil
      go_simp
      rw [← HW10.out]
      refine hK.out _ _ ?_ (fun hHeld => ?_)
      · exact SB.out
      clear hK K'
      (try simp only [Act.put, List.setIfInBounds_toArray, List.set_cons_succ, List.set_cons_zero])
      refine wpAnyH_take (i := 9) (oi := ⟨some 3, _, _, _, _, _⟩) (v := ?_) rfl (by kernel_rfl) (by kernel_rfl) (by kernel_rfl) (fun _ _ _ h => h) (Or.inl ⟨by kernel_rfl, ?_⟩) (by assumption) ?_
      rotate_left 1
      · (intro w hSw; (try dsimp only at hSw); go_simp) <;> (with_reducible rfl)
      (try simp only [Act.put, List.setIfInBounds_toArray, List.set_cons_succ, List.set_cons_zero])
      refine wpAnyH_done (by kernel_rfl) ?_ _
      refine NoPanic.normal ?_
      go_wp2
      exact ret_db Try.results32 rfl rfl rfl R10.out ⟨Fc, _, rfl, PC.out, CA.out, CQ.out, ⟨_, _, _, rfl, OB.out, OC.out, OQ.out⟩, K10.out⟩
end Go.Proofs.Ytnegigcjeoenmaa.Dv
namespace Go.Proofs.Ytnegigcjeoenmaa.Dv
open Go Go.RowKit
set_option linter.unusedVariables false
/-- what is not written is as it was -/
structure Iv (B0 : List By) (wf : Nat → Bool) (D : Dev) : Prop where
  bl : D.bl = B0
  qu : ∀ q ∈ D.qu, q.2.1 = 2 ∧ wf q.2.2.1.toNat = true
  ca : ∀ c ∈ D.ca, wf c.1.toNat = true
theorem Iv.sb {B0 : List By} {wf : Nat → Bool} {D : Dev} {b : Int} {l : By} {n : Nat} (h : Iv B0 wf D) (hb : b.toNat = n) : Iv B0 (fun j => if j = n then true else wf j) (sbD D 2 b l) := by
  have mono : ∀ j, wf j = true → (if j = n then true else wf j) = true := fun j hj => by split; rfl; exact hj
  refine ⟨h.bl, fun q hq => ?_, fun c hc => mono _ (h.ca c hc)⟩
  rcases List.mem_append.1 hq with hq | hq
  · exact ⟨(h.qu q hq).1, mono _ (h.qu q hq).2⟩
  · rw [List.mem_singleton.1 hq]; exact ⟨rfl, by simp only; rw [if_pos hb]⟩
theorem Iv.del {B0 : List By} {wf : Nat → Bool} {D : Dev} {p : Nat} (h : Iv B0 wf D) : Iv B0 wf (delD D p) :=
  ⟨h.bl, fun q hq => h.qu q (by
    rcases List.mem_append.1 hq with hq | hq
    · exact List.mem_of_mem_take hq
    · exact List.mem_of_mem_drop hq), h.ca⟩
theorem Iv.cm {B0 : List By} {wf : Nat → Bool} {D : Dev} {p : Nat} {ok : Bool} (h : Iv B0 wf D) (hp : p < D.qu.length) : Iv B0 wf (cmD D p ok) := by
  cases ok with
  | false => exact h.del
  | true =>
    have hq := h.qu _ (qAt_mem hp)
    show Iv B0 wf (carD (delD D p) (qAt D.qu p))
    unfold carD
    rw [if_pos hq.1]
    refine ⟨h.bl, h.del.qu, fun c hc => ?_⟩
    rcases putD_in c hc with hc | hc
    · exact h.ca c hc
    · rw [hc]; exact hq.2
theorem Iv.ct {B0 : List By} {wf : Nat → Bool} {D : Dev} {ps : List Bool} {i : Nat} (h : Iv B0 wf D) (v : Vd D) (hi : i < D.bl.length) (hw : wf i = false) : ctD (crD D ps) (i : Int) = bAt B0 i := by
  have hl : (crD D ps).bl.length = D.bl.length := crK_len _ _ _ _
  have hca : (crD D ps).ca = [] := rfl
  unfold ctD
  rw [chk_of (vd_cr v), hl, inB4 hi, if_pos ⟨rfl, rfl⟩]
  unfold contD
  rw [if_neg (fun hh => by have := hitP_lt hh; rw [hca] at this; simp at this), Int.toNat_natCast]
  show bAt (crK _ _ D.bl _) i = _
  rw [cr_far _ fun j h2 _ => ?_, h.bl]
  by_cases h3 : j < D.ca.length
  · rw [los_at1 h3]
    intro e
    have := h.ca _ (cAt_mem h3)
    rw [e, hw] at this; cases this
  · obtain ⟨q, hq, h2', e'⟩ := los_at_hi (by omega) h2
    rw [e']
    intro e
    have := (h.qu q hq).2
    simp only at e
    rw [e, hw] at this; cases this
theorem ct_emp {D : Dev} {k i : Nat} (h : P4 D k) (hca : D.ca = []) (hi : i < 4) : ctD D (i : Int) = bAt D.bl i ∧ (bAt D.bl i).length = 32 := by
  have hb : i < D.bl.length := by have := h.bl; omega
  refine ⟨?_, h.vd.bb _ (bAt_mem hb)⟩
  unfold ctD
  rw [chk_of h.vd, inB4 hb, if_pos ⟨rfl, rfl⟩]
  unfold contD
  rw [if_neg (fun hh => by have := hitP_lt hh; rw [hca] at this; simp at this), Int.toNat_natCast]
theorem iv_0 {D : Dev} (hca : D.ca = []) (hqu : D.qu = []) : Iv D.bl (fun _ => false) D :=
  ⟨rfl, fun q hq => (by rw [hqu] at hq; cases hq), fun c hc => (by rw [hca] at hc; cases hc)⟩
theorem u4 {x : Int} (h : 0 ≤ x) (h' : x < 256) : IntKind.u8.wrap (x.tmod 4) = x % 4 := by
  rw [Int.tmod_eq_emod_of_nonneg h]
  show IntKind.u8.wrap _ = _
  have h1 : 0 ≤ x % 4 := by omega
  have h2 : x % 4 < 4 := by omega
  unfold IntKind.wrap
  simp [IntKind.signed, IntKind.bits]
  try omega
theorem arr_at4 {W : World} {ob k : Nat} {f : Nat → Bool} (h : Box W ob 53 #[.bool (f 0), .bool (f 1), .bool (f 2), .bool (f 3)]) (hk : k < 4) : W.cell? ⟨ob, k, none⟩ = some (.bool (f k)) := by
  rw [h.cell]
  match k, hk with
  | 0, _ => rfl
  | 1, _ => rfl
  | 2, _ => rfl
  | 3, _ => rfl
theorem was_at4 {W : World} {ob k : Nat} {f : Nat → Value} (h : Box W ob 56 #[f 0, f 1, f 2, f 3]) (hk : k < 4) : W.cell? ⟨ob, k, none⟩ = some (f k) := by
  rw [h.cell]
  match k, hk with
  | 0, _ => rfl
  | 1, _ => rfl
  | 2, _ => rfl
  | 3, _ => rfl
/-- a device of one's own at g, four bools at ob, four contents at wb -/
structure Lw (w : World) (g ob wb : Nat) (D : Dev) (v1 v2 v3 : Value) (wf : Nat → Bool) (s : Nat → Value) (k : Nat) (C : Nat → By) (W : World) : Prop where
  below : Below w.heap.size w W
  box : Box W g 28 #[.int .i64 D.dep, .int .i64 D.nxt, v1, v2, v3]
  hb : OwnB w.heap.size W v1 D.bl
  hc : OwnC w.heap.size W v2 D.ca
  hq : OwnQ w.heap.size W v3 D.qu
  arr : Box W ob 53 #[.bool (wf 0), .bool (wf 1), .bool (wf 2), .bool (wf 3)]
  was : Box W wb 56 #[s 0, s 1, s 2, s 3]
  own : ∀ j, j < k → OwnBy W (s j) (C j)
section
variable {w W W' : World} {g ob wb : Nat} {D : Dev} {v1 v2 v3 : Value} {wf : Nat → Bool} {s : Nat → Value} {k : Nat} {C : Nat → By}
theorem Lw.on (x : Lw w g ob wb D v1 v2 v3 wf s k C W) (hb : Below W.heap.size W W') : Lw w g ob wb D v1 v2 v3 wf s k C W' :=
  ⟨btrans x.below hb, x.box.below hb, x.hb.below hb, x.hc.below hb, x.hq.below hb, x.arr.below hb, x.was.below hb, fun j hj => (x.own j hj).below hb⟩
theorem Lw.is (x : Lw w g ob wb D v1 v2 v3 wf s k C W) : DevIn W (.agg #[.int .i64 D.dep, .int .i64 D.nxt, v1, v2, v3]) D := DevOwn.is (B := w.heap.size) ⟨_, _, _, rfl, x.hb, x.hc, x.hq⟩
theorem Lw.dev (x : Lw w g ob wb D v1 v2 v3 wf s k C W) (hg : w.heap.size ≤ g) (F : Dev) {u1 u2 u3 : Value} (hb : OwnB w.heap.size W u1 F.bl) (hc : OwnC w.heap.size W u2 F.ca) (hq : OwnQ w.heap.size W u3 F.qu) :
    Lw w g ob wb F u1 u2 u3 wf s k C (((((W.setCell ⟨g, 0, none⟩ (.int .i64 F.dep)).setCell ⟨g, 1, none⟩ (.int .i64 F.nxt)).setCell ⟨g, 2, none⟩ u1).setCell ⟨g, 3, none⟩ u2).setCell ⟨g, 4, none⟩ u3) := by
  have hk := kp_set5 (B := w.heap.size) x.box hg (.int .i64 F.dep) (.int .i64 F.nxt) u1 u2 u3
  exact ⟨x.below.trans hk.below, x.box.set5 _ _ _ _ _, hb.kp hk (by decide) (by decide), hc.kp hk (by decide) (by decide), hq.kp hk (by decide) (by decide), x.arr.kp hk (by decide), x.was.kp hk (by decide), fun j hj => (x.own j hj).kp hk (by decide)⟩
theorem Lw.seta (x : Lw w g ob wb D v1 v2 v3 wf s k C W) (ho : w.heap.size ≤ ob) {n : Nat} (hn : n < 4) : Lw w g ob wb D v1 v2 v3 (fun j => if j = n then true else wf j) s k C (W.setCell ⟨ob, n, none⟩ (.bool true)) := by
  have hk := Kp.boxset (B := w.heap.size) x.arr ho n (.bool true)
  refine ⟨x.below.trans hk.below, x.box.kp hk (by decide), x.hb.kp hk (by decide) (by decide), x.hc.kp hk (by decide) (by decide), x.hq.kp hk (by decide) (by decide), ?_, x.was.kp hk (by decide), fun j hj => (x.own j hj).kp hk (by decide)⟩
  have := x.arr.put n (.bool true)
  match n, hn with
  | 0, _ => exact this
  | 1, _ => exact this
  | 2, _ => exact this
  | 3, _ => exact this
theorem Lw.setw (x : Lw w g ob wb D v1 v2 v3 wf s k C W) (ho : w.heap.size ≤ wb) (hn : k < 4) {v : Value} (hv : OwnBy W v (C k)) : Lw w g ob wb D v1 v2 v3 wf (fun j => if j = k then v else s j) (k + 1) C (W.setCell ⟨wb, k, none⟩ v) := by
  have hk := Kp.boxset (B := w.heap.size) x.was ho k v
  refine ⟨x.below.trans hk.below, x.box.kp hk (by decide), x.hb.kp hk (by decide) (by decide), x.hc.kp hk (by decide) (by decide), x.hq.kp hk (by decide) (by decide), x.arr.kp hk (by decide), ?_, fun j hj => ?_⟩
  · have := x.was.put k v
    match k, hn with
    | 0, _ => exact this
    | 1, _ => exact this
    | 2, _ => exact this
    | 3, _ => exact this
  · by_cases e : j = k
    · subst e
      simp only [if_true]
      exact hv.kp hk (by decide)
    · simp only [if_neg e]
      exact (x.own j (by omega)).kp hk (by decide)
end
def Ly (w : World) (g ob wb : Nat) (D : Dev) (wf : Nat → Bool) (s : Nat → Value) (C : Nat → By) (W : World) : Prop := ∃ v1 v2 v3, Lw w g ob wb D v1 v2 v3 wf s 4 C W
end Go.Proofs.Ytnegigcjeoenmaa.Dv
namespace Go.Proofs.Ytnegigcjeoenmaa.Dv
open Go Go.RowKit
set_option linter.unusedVariables false
set_option maxHeartbeats 8000000 in
set_option maxRecDepth 100000 in
theorem law_lasts (A : Option Addr) (L : List Ac) (c : Nat) (A2 : Option Addr) (L2 : List Ac) (c2 : Nat) (A3 : Option Addr) (ps : List Bool) (c3 : Nat) (w : World) (hr : RdA w A L) (hl : L.length ≤ 9223372036854775807)
    (hr2 : RdA w A2 L2) (hl2 : L2.length ≤ 9223372036854775807) (hr3 : RdT w A3 ps) (hl3 : ps.length ≤ 9223372036854775807) :
    Calls Try.prog 9 #[.slice A L.length c, .slice A2 L2.length c2, .slice A3 ps.length c3] w fun e w' => e = .returned (.bool true) ∧ Below w.heap.size w w' := by
  have AW := hide (fun W => awake_any W)
  have RA := hide hr
  have RM := hide hr2
  have RP := hide hr3
  clear hr hr2 hr3
  rcases Nat.lt_or_ge 40 L.length with h40 | h40
  · have hd : decide ((40 : Int) < (L.length : Int)) = true := decide_eq_true (by omega)
    go_enter Try.func9, Try.ntmps9
    go_wp2_with fail
    refine (AW.out w).mono ?_
    rintro e w1 ⟨rfl, hb1⟩
    go_wp2_with fail
    refine (AW.out w1).mono ?_
    rintro e w9 ⟨rfl, hb9⟩
    go_wp2_with fail
    go_ret
    exact ⟨rfl, btrans hb1 hb9⟩
  have hd : decide ((40 : Int) < (L.length : Int)) = false := decide_eq_false (by omega)
  rcases Nat.lt_or_ge 10 L2.length with h10 | h10
  · have hd2 : decide ((10 : Int) < (L2.length : Int)) = true := decide_eq_true (by omega)
    go_enter Try.func9, Try.ntmps9
    go_wp2_with fail
    refine (AW.out w).mono ?_
    rintro e w1 ⟨rfl, hb1⟩
    go_wp2_with fail
    refine (AW.out w1).mono ?_
    rintro e w9 ⟨rfl, hb9⟩
    go_wp2_with fail
    go_ret
    exact ⟨rfl, btrans hb1 hb9⟩
  have hd2 : decide ((10 : Int) < (L2.length : Int)) = false := decide_eq_false (by omega)
  rcases Nat.lt_or_ge 100 ps.length with h100 | h100
  · have hd3 : decide ((100 : Int) < (ps.length : Int)) = true := decide_eq_true (by omega)
    go_enter Try.func9, Try.ntmps9
    go_wp2_with fail
    refine (AW.out w).mono ?_
    rintro e w1 ⟨rfl, hb1⟩
    go_wp2_with fail
    refine (AW.out w1).mono ?_
    rintro e w9 ⟨rfl, hb9⟩
    go_wp2_with fail
    go_ret
    exact ⟨rfl, btrans hb1 hb9⟩
  have hd3 : decide ((100 : Int) < (ps.length : Int)) = false := decide_eq_false (by omega)
  have PL := hide (fun W (hb : Below w.heap.size w W) => play_any A L c W (fun hn => by
    obtain ⟨b, off, e, hlb, hc⟩ := RA.out hn
    refine ⟨b, off, e, Nat.lt_of_lt_of_le hlb hb.size, fun k hk => ?_⟩
    obtain ⟨b', off', e', _, h1, h2⟩ := RA.out.cells hb hk
    rw [e] at e'; injection e' with e'; injection e' with e1 e2; subst e1 e2
    exact ⟨h1, h2⟩) h40)
  unfold PlR at PL
  have DR := hide (fun v D0 W (h : DevIn W v D0) (P : P4 D0 40) => drained_any v D0 W h P)
  unfold DrR at DR
  go_enter Try.func9, Try.ntmps9
  go_wp2_with fail
  refine (AW.out w).mono ?_
  rintro e w1 ⟨rfl, hb1⟩
  go_wp2_with fail
  refine (PL.out w1 hb1).mono ?_
  rintro e w2 ⟨D0, v, rfl, P, ho, hb2⟩
  obtain ⟨vb, vc, vq, rfl, ob', oc, oq⟩ := ho
  obtain ⟨A1, a1, rfl, _⟩ := ob'.form
  obtain ⟨A2', a2, rfl, _⟩ := oc.form
  obtain ⟨A3', a3, rfl, _⟩ := oq.form
  have MO := bal (brefl w2) (.cells #[.int .i64 D0.dep, .int .i64 D0.nxt, .slice A1 D0.bl.length a1, .slice A2' D0.ca.length a2, .slice A3' D0.qu.length a3] 28)
  have X0 := hide (Box.new w2 28 #[.int .i64 D0.dep, .int .i64 D0.nxt, .slice A1 D0.bl.length a1, .slice A2' D0.ca.length a2, .slice A3' D0.qu.length a3])
  have IN0 := hide ((DevOwn.is (B := w1.heap.size) (w := w2) (D := D0) ⟨_, _, _, rfl, ob', oc, oq⟩).below MO)
  have HG := hide (show w.heap.size ≤ w2.heap.size from Nat.le_trans hb1.size hb2.size)
  have K3 := hide (btrans hb1 (btrans hb2 MO))
  have PD := hide P
  clear P ob' oc oq hb1 hb2 MO PL RA
  go_upto_region 6 with fail
  obtain ⟨g, hg⟩ : ∃ g, g = w2.heap.size := ⟨_, rfl⟩
  rw [← hg] at X0 HG ⊢
  generalize w2.alloc (.cells #[.int .i64 D0.dep, .int .i64 D0.nxt, .slice A1 D0.bl.length a1, .slice A2' D0.ca.length a2, .slice A3' D0.qu.length a3] 28) = w3 at *
  clear hg
  obtain ⟨x0, x1, x2, x3, x4⟩ := box5_cells (W' := w3) X0.out
  go_wp2_with fail
  refine (DR.out _ D0 w3 IN0.out PD.out).mono ?_
  rintro e w4 ⟨D, v4, rfl, P41, hca, hqu, ho4, hb4⟩
  obtain ⟨ub, uc, uq, rfl, ob4, oc4, oq4⟩ := ho4
  obtain ⟨E1, g1, rfl, _⟩ := ob4.form
  obtain ⟨E2, g2, rfl, _⟩ := oc4.form
  obtain ⟨E3, g3, rfl, _⟩ := oq4.form
  have hs3 := K3.out.size
  have X4 := hide (X0.out.below hb4)
  have K4 := hide (btrans K3.out hb4)
  have OB := hide (ob4.mono hs3)
  have OC := hide (oc4.mono hs3)
  have OQ := hide (oq4.mono hs3)
  have PN := hide P41
  have EMP := hide (fun (i : Nat) (hi : i < 4) => ct_emp P41 hca hi)
  have IV0 := hide (iv_0 hca hqu)
  clear x0 x1 x2 x3 x4 ob4 oc4 oq4 hb4 X0 IN0 K3 hs3 PD DR P41 hca hqu
  obtain ⟨b0, b1, b2, b3, b4⟩ := box5_cells (W' := w4) X4.out
  have fb0 := X4.out.frozen 0
  have fb1 := X4.out.frozen 1
  have fb2 := X4.out.frozen 2
  have fb3 := X4.out.frozen 3
  have fb4 := X4.out.frozen 4
  have hg4 : g < w4.heap.size := X4.out.lt
  go_upto_region 12 with fail
  have KS := hide (kp_set5 (B := w.heap.size) X4.out HG.out (.int .i64 D.dep) (.int .i64 D.nxt) (.slice E1 D.bl.length g1) (.slice E2 D.ca.length g2) (.slice E3 D.qu.length g3))
  have hs5 : ((((((w4.setCell ⟨g, 0, none⟩ (.int .i64 D.dep)).setCell ⟨g, 1, none⟩ (.int .i64 D.nxt)).setCell ⟨g, 2, none⟩ (.slice E1 D.bl.length g1)).setCell ⟨g, 3, none⟩ (.slice E2 D.ca.length g2)).setCell ⟨g, 4, none⟩ (.slice E3 D.qu.length g3))).heap.size = w4.heap.size := by simp [World.setCell]
  have X5 := hide (X4.out.set5 (.int .i64 D.dep) (.int .i64 D.nxt) (.slice E1 D.bl.length g1) (.slice E2 D.ca.length g2) (.slice E3 D.qu.length g3))
  replace OB := hide (OB.out.kp KS.out (by decide) (by decide))
  replace OC := hide (OC.out.kp KS.out (by decide) (by decide))
  replace OQ := hide (OQ.out.kp KS.out (by decide) (by decide))
  have K5 := hide (K4.out.trans KS.out.below)
  clear b0 b1 b2 b3 b4 fb0 fb1 fb2 fb3 fb4 KS X4 K4 hg4
  obtain ⟨ob, hob⟩ : ∃ ob, ob = w4.heap.size := ⟨_, rfl⟩
  rw [← hob] at hs5 ⊢
  clear hob
  generalize (((((w4.setCell ⟨g, 0, none⟩ (.int .i64 D.dep)).setCell ⟨g, 1, none⟩ (.int .i64 D.nxt)).setCell ⟨g, 2, none⟩ (.slice E1 D.bl.length g1)).setCell ⟨g, 3, none⟩ (.slice E2 D.ca.length g2)).setCell ⟨g, 4, none⟩ (.slice E3 D.qu.length g3)) = w5 at *
  obtain ⟨C, hC⟩ : ∃ C : Nat → By, C = fun i => bAt D.bl i := ⟨_, rfl⟩
  have CC := hide (fun (i : Nat) => congrFun hC i)
  have HO := hide (show w.heap.size ≤ ob by rw [← hs5]; exact K5.out.size)
  have L0 := hide (show Lw w g ob (ob + 1) D (.slice E1 D.bl.length g1) (.slice E2 D.ca.length g2) (.slice E3 D.qu.length g3) (fun _ => false) (fun _ => .slice none 0 0) 0 C ((w5.alloc (.cells #[.bool false, .bool false, .bool false, .bool false] 53)).alloc (.cells #[.slice none 0 0, .slice none 0 0, .slice none 0 0, .slice none 0 0] 56)) from by
    have MO := bal (bal (brefl w5) (.cells #[.bool false, .bool false, .bool false, .bool false] 53)) (.cells #[.slice none 0 0, .slice none 0 0, .slice none 0 0, .slice none 0 0] 56)
    have b1 := (Box.new w5 53 #[.bool false, .bool false, .bool false, .bool false]).more (.cells #[.slice none 0 0, .slice none 0 0, .slice none 0 0, .slice none 0 0] 56)
    have b2 := Box.new2 w5 (.cells #[.bool false, .bool false, .bool false, .bool false] 53) 56 #[.slice none 0 0, .slice none 0 0, .slice none 0 0, .slice none 0 0]
    rw [hs5] at b1 b2
    exact ⟨btrans K5.out MO, X5.out.below MO, OB.out.below MO, OC.out.below MO, OQ.out.below MO, b1, b2, fun j hj => absurd hj (by omega)⟩)
  have HW := hide (show w.heap.size ≤ ob + 1 by have := HO.out; omega)
  clear OB OC OQ X5 K5 hC
  obtain ⟨wb, hwb⟩ : ∃ wb, wb = ob + 1 := ⟨_, rfl⟩
  rw [← hwb] at L0 HW ⊢
  generalize (w5.alloc (.cells #[.bool false, .bool false, .bool false, .bool false] 53)).alloc (.cells #[.slice none 0 0, .slice none 0 0, .slice none 0 0, .slice none 0 0] 56) = w6 at *
  clear hwb hs5
  have BIG0 := hide PN.out.big
  go_loopw [11, 55] (fun _ i wr => ∃ (k : Nat) (s : Nat → Value), k ≤ 4 ∧ i = .int .i64 k ∧ Hid (Lw w g ob wb D (.slice E1 D.bl.length g1) (.slice E2 D.ca.length g2) (.slice E3 D.qu.length g3) (fun _ => false) s k C wr)) (fun _ i _ => 4 - (intOf i).toNat)
  case atStart => exact ⟨0, _, Nat.zero_le _, rfl, L0⟩
  case round =>
    clear L0
    obtain ⟨k, s, hk, rfl, LW⟩ := hrel
    by_cases hlt : k < 4
    · have hlt1 : (k : Int) < 4 := by omega
      have hlt2 : ¬ (4 : Int) ≤ (k : Int) := by omega
      have hk0 : (0 : Int) ≤ (k : Int) := by omega
      have CD := hide (contentD_any _ D (k : Int) wr LW.out.is BIG0.out)
      unfold ByR at CD
      obtain ⟨h1, h32⟩ := EMP.out k hlt
      rw [h1, ← CC.out k] at CD
      rw [← CC.out k] at h32
      obtain ⟨x0, x1, x2, x3, x4⟩ := box5_cells (W' := wr) LW.out.box
      go_wp2_with fail
      refine CD.out.mono ?_
      rintro e w7 ⟨u, rfl, hu, hb⟩
      have LX := hide (LW.out.on hb)
      have HU := hide hu
      obtain ⟨A7, d7, rfl⟩ := hu.form
      clear hu hb x0 x1 x2 x3 x4 LW CD h1
      have fz := LX.out.was.frozen k
      have cz := was_at4 LX.out.was hlt
      go_wp2
      have LY0 := LX.out.setw HW.out hlt HU.out
      rw [h32] at LY0
      have LY := hide LY0
      clear LY0
      go_roundw
      case rel => exact ⟨k + 1, _, by omega, by go_num, LY⟩
      case measure => simp [intOf]; omega
    · obtain rfl : k = 4 := by omega
      clear hlt hk
      go_upto_region 19 with fail
      obtain ⟨B0, hB0⟩ : ∃ B0, B0 = D.bl := ⟨_, rfl⟩
      rw [← hB0] at IV0
      have CB0 := hide (show ∀ i, C i = bAt B0 i by rw [hB0]; exact CC.out)
      have E32 := hide (show ∀ i, i < 4 → (bAt B0 i).length = 32 by rw [hB0]; exact fun i hi => (EMP.out i hi).2)
      clear hB0 CC EMP BIG0
      go_loopw [71] (fun i wr => ∃ (k : Nat) (D : Dev) (wf : Nat → Bool), k ≤ L2.length ∧ i = .int .i64 k ∧ Hid (P4 D (41 + k)) ∧ Hid (Iv B0 wf D) ∧ Hid (Ly w g ob wb D wf s C wr)) (fun i _ => L2.length - (intOf i).toNat)
      case atStart => exact ⟨0, D, _, Nat.zero_le _, rfl, PN, IV0, hide ⟨_, _, _, LW.out⟩⟩
      case round =>
        clear PN IV0 LW
        obtain ⟨k, D, wf, hk, rfl, P0, IV, LY0⟩ := hrel
        obtain ⟨v1, v2, v3, hLW⟩ := LY0.out
        have LW0 := hide hLW
        clear hLW LY0
        obtain ⟨E1, g1, rfl, _⟩ := LW0.out.hb.form
        obtain ⟨E2, g2, rfl, _⟩ := LW0.out.hc.form
        obtain ⟨E3, g3, rfl, _⟩ := LW0.out.hq.form
        by_cases hlt : k < L2.length
        · have hlt1 : (k : Int) < (L2.length : Int) := by omega
          have hlt2 : ¬ (L2.length : Int) ≤ (k : Int) := by omega
          have hk0 : (0 : Int) ≤ (k : Int) := by omega
          obtain ⟨pb, po, rfl, hpb, ⟨a0, a1, a2, a3⟩, ⟨r1, r1'⟩, ⟨r2, r2'⟩, r3, r3'⟩ := RM.out.cells LW0.out.below hlt
          obtain ⟨⟨x0, x1, x2, x3⟩, hx⟩ : ∃ x, x = aAt L2 k := ⟨_, rfl⟩
          rw [← hx] at a0 a1 a2 a3 r1 r1' r2 r2' r3 r3'
          simp only at a0 a1 a2 a3 r1 r1' r2 r2' r3 r3'
          have LW := hide (LW0.out.on (bal (brefl wr) (.cells #[.int .i64 x0, .int .u8 x1, .int .u8 x2, .int .u8 x3] 58)))
          have AB := hide (Box.new wr 58 #[.int .i64 x0, .int .u8 x1, .int .u8 x2, .int .u8 x3])
          have BIG := hide P0.out.big
          clear hx hpb LW0
          go_upto_region 21 with fail
          obtain ⟨ab, hab⟩ : ∃ ab, ab = wr.heap.size := ⟨_, rfl⟩
          rw [← hab] at AB ⊢
          generalize wr.alloc (.cells #[.int .i64 x0, .int .u8 x1, .int .u8 x2, .int .u8 x3] 58) = wa at *
          clear hab a0 a1 a2 a3
          have KA := hide LW.out.below
          have IN := hide LW.out.is
          obtain ⟨x0', x1', x2', x3', x4'⟩ := box5_cells (W' := wa) LW.out.box
          obtain ⟨a0, a1, a2, a3⟩ := box4_cells AB.out
          have CE := hide (fun W (hb : Below wa.heap.size wa W) => (by
            have p := LW.out.box.below hb
            have q := AB.out.below hb
            exact ⟨p.cell 0, p.cell 1, p.cell 2, p.cell 3, p.cell 4, q.cell 1, q.cell 2⟩ : (fun W => W.cell? ⟨g, 0, none⟩ = some (.int .i64 D.dep) ∧ W.cell? ⟨g, 1, none⟩ = some (.int .i64 D.nxt) ∧ W.cell? ⟨g, 2, none⟩ = some (.slice E1 D.bl.length g1) ∧ W.cell? ⟨g, 3, none⟩ = some (.slice E2 D.ca.length g2) ∧ W.cell? ⟨g, 4, none⟩ = some (.slice E3 D.qu.length g3) ∧ W.cell? ⟨ab, 1, none⟩ = some (.int .u8 x1) ∧ W.cell? ⟨ab, 2, none⟩ = some (.int .u8 x2)) W))
          by_cases h0 : x0 = 0
          · subst h0
            have REQ := hide (r_w (z := IntKind.i64.wrap (x1.tmod 4)) (by rw [m4 r1]; omega) (by rw [m4 r1]; omega))
            have SP := hide (fun W (hb : Below wa.heap.size wa W) (u : Value) (hu : IsBs W u (pg x2)) => submit_any _ D 2 (IntKind.i64.wrap (x1.tmod 4)) u (pg x2) W (IN.out.below hb) BIG.out hu)
            unfold DvR3 at SP
            rw [pg_len] at SP
            have SBE := hide (sb4 (kd := 2) (b := (IntKind.i64.wrap (x1.tmod 4))) (len := 32) P0.out (by omega) REQ.out)
            by_cases hn : D.qu.length < 4
            · have e0 : sbE D 2 (IntKind.i64.wrap (x1.tmod 4)) 32 = 0 := by rw [SBE.out, if_pos hn]
              obtain ⟨F, hF⟩ : ∃ F, F = sbD D 2 (IntKind.i64.wrap (x1.tmod 4)) (pg x2) := ⟨_, rfl⟩
              have PF := hide (show P4 F (41 + (k + 1)) by rw [hF]; exact p4_sb P0.out e0)
              have IFA := hide (show ∀ m : Nat, x1 % 4 = (m : Int) → Iv B0 (fun j => if j = m then true else wf j) F from fun m hm => by rw [hF]; exact IV.out.sb (by rw [m4 r1, hm]; simp))
              have hn1 : decide ((D.qu.length : Int) < 4) = true := decide_eq_true (by omega)
              have hn2 : decide (4 ≤ (D.qu.length : Int)) = false := decide_eq_false (by omega)
              have hn3 : (D.qu.length : Int) < 4 := by omega
              have hn4 : ¬ 4 ≤ (D.qu.length : Int) := by omega
              rw [e0] at SP
              simp only [if_true] at SP
              rw [← hF] at SP
              clear e0 SBE hF hn
              go_upto_region 22 with fail
              clear a0 a1 a2 a3
              refine wp_region_noPanic ?_
              refine wp_region_held_drew (S := (fun W => W.cell? ⟨g, 0, none⟩ = some (.int .i64 D.dep) ∧ W.cell? ⟨g, 1, none⟩ = some (.int .i64 D.nxt) ∧ W.cell? ⟨g, 2, none⟩ = some (.slice E1 D.bl.length g1) ∧ W.cell? ⟨g, 3, none⟩ = some (.slice E2 D.ca.length g2) ∧ W.cell? ⟨g, 4, none⟩ = some (.slice E3 D.qu.length g3) ∧ W.cell? ⟨ab, 1, none⟩ = some (.int .u8 x1) ∧ W.cell? ⟨ab, 2, none⟩ = some (.int .u8 x2))) (by kernel_rfl) ?_ (fun hHeld => ?_)
              · exact CE.out _ (below_drew (brefl wa))
              have KK := hide (below_drew (brefl wa))
              generalize wa.drew = w0 at *
              refine wpAnyH_take (i := 0) (oi := ⟨some 79, _, _, _, _, _⟩) (v := ?_) rfl (by kernel_rfl) (by kernel_rfl) (by kernel_rfl) (fun _ _ _ h => h) (Or.inl ⟨by kernel_rfl, ?_⟩) (by assumption) ?_
              rotate_left 1
              · (intro w hSw; (try dsimp only at hSw); go_simp) <;> (with_reducible rfl)
              (try simp only [Act.put, List.setIfInBounds_toArray, List.set_cons_succ, List.set_cons_zero])
              refine wpAnyH_take (i := 1) (oi := ⟨some 80, _, _, _, _, _⟩) (v := ?_) rfl (by kernel_rfl) (by kernel_rfl) (by kernel_rfl) (fun _ _ _ h => h) (Or.inl ⟨by kernel_rfl, ?_⟩) (by assumption) ?_
              rotate_left 1
              · (intro w hSw; (try dsimp only at hSw); go_simp) <;> (with_reducible rfl)
              (try simp only [Act.put, List.setIfInBounds_toArray, List.set_cons_succ, List.set_cons_zero])
              refine wpAnyH_take (i := 2) (oi := ⟨some 81, _, _, _, _, _⟩) (v := ?_) rfl (by kernel_rfl) (by kernel_rfl) (by kernel_rfl) (fun _ _ _ h => h) (Or.inl ⟨by kernel_rfl, ?_⟩) (by assumption) ?_
              rotate_left 1
              · (intro w hSw; (try dsimp only at hSw); go_simp) <;> (with_reducible rfl)
              (try simp only [Act.put, List.setIfInBounds_toArray, List.set_cons_succ, List.set_cons_zero])
              refine wpAnyH_take (i := 3) (oi := ⟨some 82, _, _, _, _, _⟩) (v := ?_) rfl (by kernel_rfl) (by kernel_rfl) (by kernel_rfl) (fun _ _ _ h => h) (Or.inl ⟨by kernel_rfl, ?_⟩) (by assumption) ?_
              rotate_left 1
              · (intro w hSw; (try dsimp only at hSw); go_simp) <;> (with_reducible rfl)
              (try simp only [Act.put, List.setIfInBounds_toArray, List.set_cons_succ, List.set_cons_zero])
              refine wpAnyH_take (i := 4) (oi := ⟨some 83, _, _, _, _, _⟩) (v := ?_) rfl (by kernel_rfl) (by kernel_rfl) (by kernel_rfl) (fun _ _ _ h => h) (Or.inl ⟨by kernel_rfl, ?_⟩) (by assumption) ?_
              rotate_left 1
              · (intro w hSw; (try dsimp only at hSw); go_simp) <;> (with_reducible rfl)
              (try simp only [Act.put, List.setIfInBounds_toArray, List.set_cons_succ, List.set_cons_zero])
              refine wpAnyH_take (i := 5) (oi := ⟨some 84, _, _, _, _, _⟩) (v := ?_) rfl (by kernel_rfl) (by kernel_rfl) (by kernel_rfl) (fun _ _ _ h => h) (Or.inl ⟨by kernel_rfl, ?_⟩) (by assumption) ?_
              rotate_left 1
              · (intro w hSw; (try dsimp only at hSw); go_simp) <;> (with_reducible rfl)
              (try simp only [Act.put, List.setIfInBounds_toArray, List.set_cons_succ, List.set_cons_zero])
              refine wpAnyH_take (i := 6) (oi := ⟨some 85, _, _, _, _, _⟩) (v := ?_) rfl (by kernel_rfl) (by kernel_rfl) (by kernel_rfl) (fun _ _ _ h => h) (Or.inl ⟨by kernel_rfl, ?_⟩) (by assumption) ?_
              rotate_left 1
              · (intro w hSw; (try dsimp only at hSw); go_simp) <;> (with_reducible rfl)
              (try simp only [Act.put, List.setIfInBounds_toArray, List.set_cons_succ, List.set_cons_zero])
              refine wpAnyH_ready (rs := [7, 13]) (by kernel_rfl) (by simp) ?_
              refine AllReadyH.cons (o := ⟨some 86, _, _, _, _, _⟩) rfl (fun K' hK => ?_) ?_
              · go_simp
                refine (page_any x2 _).mono ?_
                rintro e wp ⟨vp, rfl, hop, hbp⟩
                obtain ⟨Ap, cp, rfl⟩ := hop.form
                have UP := hide hop
                replace KK := hide (btrans KK.out hbp)
                clear hop hbp
                refine hK.out _ _ ?_ (fun hHeld => ?_)
                · exact CE.out _ KK.out
                clear hK K'
                (try simp only [Act.put, List.setIfInBounds_toArray, List.set_cons_succ, List.set_cons_zero])
                refine wpAnyH_ready (rs := [8, 13]) (by kernel_rfl) (by simp) ?_
                refine AllReadyH.cons (o := ⟨some 87, _, _, _, _, _⟩) rfl (fun K' hK => ?_) ?_
                · go_simp
                  refine (SP.out _ KK.out _ UP.out.is).mono ?_
                  rintro e ws ⟨vs, rfl, hos, hbs⟩
                  obtain ⟨ub, uc, uq, rfl, ob, oc, oq⟩ := hos
                  obtain ⟨F1, f1, rfl, _⟩ := ob.form
                  obtain ⟨F2, f2, rfl, _⟩ := oc.form
                  obtain ⟨F3, f3, rfl, _⟩ := oq.form
                  have hsz := Nat.le_trans KA.out.size KK.out.size
                  have OB := hide (ob.mono hsz)
                  have OC := hide (oc.mono hsz)
                  have OQ := hide (oq.mono hsz)
                  replace KK := hide (btrans KK.out hbs)
                  clear hbs ob oc oq hsz
                  refine hK.out _ _ ?_ (fun hHeld => ?_)
                  · exact CE.out _ KK.out
                  clear hK K'
                  (try simp only [Act.put, List.setIfInBounds_toArray, List.set_cons_succ, List.set_cons_zero])
                  refine wpAnyH_take (i := 9) (oi := ⟨some 78, _, _, _, _, _⟩) (v := ?_) rfl (by kernel_rfl) (by kernel_rfl) (by kernel_rfl) (fun _ _ _ h => h) (Or.inl ⟨by kernel_rfl, ?_⟩) (by assumption) ?_
                  rotate_left 1
                  · (intro w hSw; (try dsimp only at hSw); go_simp) <;> (with_reducible rfl)
                  (try simp only [Act.put, List.setIfInBounds_toArray, List.set_cons_succ, List.set_cons_zero])
                  refine wpAnyH_take (i := 10) (oi := ⟨some 88, _, _, _, _, _⟩) (v := ?_) rfl (by kernel_rfl) (by kernel_rfl) (by kernel_rfl) (fun _ _ _ h => h) (Or.inl ⟨by kernel_rfl, ?_⟩) (by assumption) ?_
                  rotate_left 1
                  · (intro w hSw; (try dsimp only at hSw); go_simp) <;> (with_reducible rfl)
                  (try simp only [Act.put, List.setIfInBounds_toArray, List.set_cons_succ, List.set_cons_zero])
                  refine wpAnyH_take (i := 11) (oi := ⟨some 89, _, _, _, _, _⟩) (v := ?_) rfl (by kernel_rfl) (by kernel_rfl) (by kernel_rfl) (fun _ _ _ h => h) (Or.inl ⟨by kernel_rfl, ?_⟩) (by assumption) ?_
                  rotate_left 1
                  · (intro w hSw; (try dsimp only at hSw); go_simp) <;> (with_reducible rfl)
                  (try simp only [Act.put, List.setIfInBounds_toArray, List.set_cons_succ, List.set_cons_zero])
                  refine wpAnyH_take (i := 12) (oi := ⟨some 90, _, _, _, _, _⟩) (v := ?_) rfl (by kernel_rfl) (by kernel_rfl) (by kernel_rfl) (fun _ _ _ h => h) (Or.inl ⟨by kernel_rfl, ?_⟩) (by assumption) ?_
                  rotate_left 1
                  · (intro w hSw; (try dsimp only at hSw); go_simp) <;> (with_reducible rfl)
                  (try simp only [Act.put, List.setIfInBounds_toArray, List.set_cons_succ, List.set_cons_zero])
                  refine wpAnyH_ready (rs := [13]) (by kernel_rfl) (by simp) ?_
                  refine AllReadyH.cons (o := ⟨some 14, _, _, _, _, _⟩) rfl (fun K' hK => ?_) AllReadyH.nil
                  go_simp
                  have CB := hide (Box.new ws 28 #[.int .i64 0, .int .i64 0, .slice none 0 0, .slice none 0 0, .slice none 0 0])
                  have HCB := hide (show wa.heap.size ≤ ws.heap.size from KK.out.size)
                  replace UP := hide (UP.out.below (bal (brefl _) (.cells #[.int .i64 0, .int .i64 0, .slice none 0 0, .slice none 0 0, .slice none 0 0] 28)))
                  replace OB := hide (OB.out.below (bal (brefl _) (.cells #[.int .i64 0, .int .i64 0, .slice none 0 0, .slice none 0 0, .slice none 0 0] 28)))
                  replace OC := hide (OC.out.below (bal (brefl _) (.cells #[.int .i64 0, .int .i64 0, .slice none 0 0, .slice none 0 0, .slice none 0 0] 28)))
                  replace OQ := hide (OQ.out.below (bal (brefl _) (.cells #[.int .i64 0, .int .i64 0, .slice none 0 0, .slice none 0 0, .slice none 0 0] 28)))
                  replace KK := hide (bal KK.out (.cells #[.int .i64 0, .int .i64 0, .slice none 0 0, .slice none 0 0, .slice none 0 0] 28))
                  obtain ⟨cb, hcb⟩ : ∃ cb, cb = ws.heap.size := ⟨_, rfl⟩
                  rw [← hcb] at CB HCB ⊢
                  clear hcb
                  generalize ws.alloc (.cells #[.int .i64 0, .int .i64 0, .slice none 0 0, .slice none 0 0, .slice none 0 0] 28) = we at *
                  refine hK.out _ _ ?_ (fun hHeld => ?_)
                  · exact CE.out _ KK.out
                  clear hK K'
                  (try simp only [Act.put, List.setIfInBounds_toArray, List.set_cons_succ, List.set_cons_zero])
                  refine wpAnyH_ready (rs := [14]) (by kernel_rfl) (by simp) ?_
                  refine AllReadyH.cons (o := ⟨none, _, _, _, _, _⟩) rfl (fun K' hK => ?_) AllReadyH.nil
                  obtain ⟨b0, b1, b2, b3, b4⟩ := box5_cells (W' := we) CB.out
                  have fb0 := CB.out.frozen 0
                  have fb1 := CB.out.frozen 1
                  have fb2 := CB.out.frozen 2
                  have fb3 := CB.out.frozen 3
                  have fb4 := CB.out.frozen 4
                  go_simp
                  have KS := hide (kp_set5 (B := wa.heap.size) CB.out HCB.out (.int .i64 F.dep) (.int .i64 F.nxt) (.slice F1 F.bl.length f1) (.slice F2 F.ca.length f2) (.slice F3 F.qu.length f3))
                  replace OB := hide (OB.out.kp KS.out (by decide) (by decide))
                  replace OC := hide (OC.out.kp KS.out (by decide) (by decide))
                  replace OQ := hide (OQ.out.kp KS.out (by decide) (by decide))
                  replace CB := hide (CB.out.set5 (.int .i64 F.dep) (.int .i64 F.nxt) (.slice F1 F.bl.length f1) (.slice F2 F.ca.length f2) (.slice F3 F.qu.length f3))
                  replace KK := hide (KK.out.trans KS.out.below)
                  clear b0 b1 b2 b3 b4 fb0 fb1 fb2 fb3 fb4 KS
                  generalize ((((((we.setCell ⟨cb, 0, none⟩ (.int .i64 F.dep)).setCell ⟨cb, 1, none⟩ (.int .i64 F.nxt)).setCell ⟨cb, 2, none⟩ (.slice F1 F.bl.length f1)).setCell ⟨cb, 3, none⟩ (.slice F2 F.ca.length f2)).setCell ⟨cb, 4, none⟩ (.slice F3 F.qu.length f3))) = wg at *
                  refine hK.out _ _ ?_ (fun hHeld => ?_)
                  · exact CE.out _ KK.out
                  clear hK K'
                  (try simp only [Act.put, List.setIfInBounds_toArray, List.set_cons_succ, List.set_cons_zero])
                  refine wpAnyH_take (i := 15) (oi := ⟨some 15, _, _, _, _, _⟩) (v := ?_) rfl (by kernel_rfl) (by kernel_rfl) (by kernel_rfl) (fun _ _ _ h => h) (Or.inl ⟨by kernel_rfl, ?_⟩) (by assumption) ?_
                  rotate_left 1
                  · (intro w hSw; (try dsimp only at hSw); go_simp) <;> (with_reducible rfl)
                  (try simp only [Act.put, List.setIfInBounds_toArray, List.set_cons_succ, List.set_cons_zero])
                  refine wpAnyH_take (i := 16) (oi := ⟨some 16, _, _, _, _, _⟩) (v := ?_) rfl (by kernel_rfl) (by kernel_rfl) (by kernel_rfl) (fun _ _ _ h => h) (Or.inl ⟨by kernel_rfl, ?_⟩) (by assumption) ?_
                  rotate_left 1
                  · (intro w hSw; (try dsimp only at hSw); go_simp) <;> (with_reducible rfl)
                  (try simp only [Act.put, List.setIfInBounds_toArray, List.set_cons_succ, List.set_cons_zero])
                  refine wpAnyH_done (by kernel_rfl) ?_ _
                  refine NoPanic.normal ?_
                  obtain ⟨c0, c1, c2, c3, c4⟩ := box5_cells (W' := wg) CB.out
                  have LG := hide (LW.out.on KK.out)
                  obtain ⟨b0, b1, b2, b3, b4⟩ := box5_cells (W' := wg) LG.out.box
                  have fb0 := LG.out.box.frozen 0
                  have fb1 := LG.out.box.frozen 1
                  have fb2 := LG.out.box.frozen 2
                  have fb3 := LG.out.box.frozen 3
                  have fb4 := LG.out.box.frozen 4
                  clear x0' x1' x2' x3' x4'
                  go_upto_region 25 with fail
                  have LS := hide (LG.out.dev HG.out F OB.out OC.out OQ.out)
                  have KS := hide (kp_set5 (B := w.heap.size) LG.out.box HG.out (.int .i64 F.dep) (.int .i64 F.nxt) (.slice F1 F.bl.length f1) (.slice F2 F.ca.length f2) (.slice F3 F.qu.length f3))
                  have a1 := ((AB.out.below KK.out).kp KS.out (by decide)).cell 1
                  simp at a1
                  clear b0 b1 b2 b3 b4 fb0 fb1 fb2 fb3 fb4 KS LG c0 c1 c2 c3 c4 LW
                  generalize (((((wg.setCell ⟨g, 0, none⟩ (.int .i64 F.dep)).setCell ⟨g, 1, none⟩ (.int .i64 F.nxt)).setCell ⟨g, 2, none⟩ (.slice F1 F.bl.length f1)).setCell ⟨g, 3, none⟩ (.slice F2 F.ca.length f2)).setCell ⟨g, 4, none⟩ (.slice F3 F.qu.length f3)) = wh at *
                  obtain ⟨m, hm⟩ : ∃ m : Nat, x1 % 4 = (m : Int) := ⟨(x1 % 4).toNat, by omega⟩
                  have hm4 : m < 4 := by omega
                  have hm0 : (0 : Int) ≤ (m : Int) := by omega
                  have hm1 : (m : Int) < 4 := by omega
                  have IF := hide (IFA.out m hm)
                  have fz := LS.out.arr.frozen m
                  have cz := arr_at4 (f := wf) LS.out.arr hm4
                  have hm2 : IntKind.u8.wrap (x1.tmod 4) = (m : Int) := by rw [u4 r1 r1', hm]
                  have hm3 : x1.tmod 4 = (m : Int) := by rw [Int.tmod_eq_emod_of_nonneg r1, hm]
                  clear IFA
                  go_wp2
                  have LT := hide (LS.out.seta HO.out hm4)
                  refine ⟨?rel, ?measure⟩
                  case rel => exact ⟨_, _, _, _, _, _, _, _, ⟨k + 1, by omega, rfl, F, PF, _, IF, hide ⟨_, _, _, LT.out⟩⟩, rfl, rfl, rfl, rfl, rfl, rfl, rfl, by go_num⟩
                  case measure => simp [intOf]; omega
                refine AllReadyH.cons (o := ⟨some 14, _, _, _, _, _⟩) rfl (fun K' hK => ?_) AllReadyH.nil
                go_simp
                have CB := hide (Box.new wp 28 #[.int .i64 0, .int .i64 0, .slice none 0 0, .slice none 0 0, .slice none 0 0])
                have HCB := hide (show wa.heap.size ≤ wp.heap.size from KK.out.size)
                replace UP := hide (UP.out.below (bal (brefl _) (.cells #[.int .i64 0, .int .i64 0, .slice none 0 0, .slice none 0 0, .slice none 0 0] 28)))
                replace KK := hide (bal KK.out (.cells #[.int .i64 0, .int .i64 0, .slice none 0 0, .slice none 0 0, .slice none 0 0] 28))
                obtain ⟨cb, hcb⟩ : ∃ cb, cb = wp.heap.size := ⟨_, rfl⟩
                rw [← hcb] at CB HCB ⊢
                clear hcb
                generalize wp.alloc (.cells #[.int .i64 0, .int .i64 0, .slice none 0 0, .slice none 0 0, .slice none 0 0] 28) = we at *
                refine hK.out _ _ ?_ (fun hHeld => ?_)
                · exact CE.out _ KK.out
                clear hK K'
                (try simp only [Act.put, List.setIfInBounds_toArray, List.set_cons_succ, List.set_cons_zero])
                refine wpAnyH_ready (rs := [8]) (by kernel_rfl) (by simp) ?_
                refine AllReadyH.cons (o := ⟨some 87, _, _, _, _, _⟩) rfl (fun K' hK => ?_) AllReadyH.nil
                go_simp
                refine (SP.out _ KK.out _ UP.out.is).mono ?_
                rintro e ws ⟨vs, rfl, hos, hbs⟩
                obtain ⟨ub, uc, uq, rfl, ob, oc, oq⟩ := hos
                obtain ⟨F1, f1, rfl, _⟩ := ob.form
                obtain ⟨F2, f2, rfl, _⟩ := oc.form
                obtain ⟨F3, f3, rfl, _⟩ := oq.form
                have hsz := Nat.le_trans KA.out.size KK.out.size
                have OB := hide (ob.mono hsz)
                have OC := hide (oc.mono hsz)
                have OQ := hide (oq.mono hsz)
                replace KK := hide (btrans KK.out hbs)
                replace CB := hide (CB.out.below hbs)
                clear hbs ob oc oq hsz
                refine hK.out _ _ ?_ (fun hHeld => ?_)
                · exact CE.out _ KK.out
                clear hK K'
                (try simp only [Act.put, List.setIfInBounds_toArray, List.set_cons_succ, List.set_cons_zero])
                refine wpAnyH_take (i := 9) (oi := ⟨some 78, _, _, _, _, _⟩) (v := ?_) rfl (by kernel_rfl) (by kernel_rfl) (by kernel_rfl) (fun _ _ _ h => h) (Or.inl ⟨by kernel_rfl, ?_⟩) (by assumption) ?_
                rotate_left 1
                · (intro w hSw; (try dsimp only at hSw); go_simp) <;> (with_reducible rfl)
                (try simp only [Act.put, List.setIfInBounds_toArray, List.set_cons_succ, List.set_cons_zero])
                refine wpAnyH_take (i := 10) (oi := ⟨some 88, _, _, _, _, _⟩) (v := ?_) rfl (by kernel_rfl) (by kernel_rfl) (by kernel_rfl) (fun _ _ _ h => h) (Or.inl ⟨by kernel_rfl, ?_⟩) (by assumption) ?_
                rotate_left 1
                · (intro w hSw; (try dsimp only at hSw); go_simp) <;> (with_reducible rfl)
                (try simp only [Act.put, List.setIfInBounds_toArray, List.set_cons_succ, List.set_cons_zero])
                refine wpAnyH_take (i := 11) (oi := ⟨some 89, _, _, _, _, _⟩) (v := ?_) rfl (by kernel_rfl) (by kernel_rfl) (by kernel_rfl) (fun _ _ _ h => h) (Or.inl ⟨by kernel_rfl, ?_⟩) (by assumption) ?_
                rotate_left 1
                · (intro w hSw; (try dsimp only at hSw); go_simp) <;> (with_reducible rfl)
                (try simp only [Act.put, List.setIfInBounds_toArray, List.set_cons_succ, List.set_cons_zero])
                refine wpAnyH_take (i := 12) (oi := ⟨some 90, _, _, _, _, _⟩) (v := ?_) rfl (by kernel_rfl) (by kernel_rfl) (by kernel_rfl) (fun _ _ _ h => h) (Or.inl ⟨by kernel_rfl, ?_⟩) (by assumption) ?_
                rotate_left 1
                · (intro w hSw; (try dsimp only at hSw); go_simp) <;> (with_reducible rfl)
                (try simp only [Act.put, List.setIfInBounds_toArray, List.set_cons_succ, List.set_cons_zero])
                refine wpAnyH_ready (rs := [14]) (by kernel_rfl) (by simp) ?_
                refine AllReadyH.cons (o := ⟨none, _, _, _, _, _⟩) rfl (fun K' hK => ?_) AllReadyH.nil
                obtain ⟨b0, b1, b2, b3, b4⟩ := box5_cells (W' := ws) CB.out
                have fb0 := CB.out.frozen 0
                have fb1 := CB.out.frozen 1
                have fb2 := CB.out.frozen 2
                have fb3 := CB.out.frozen 3
                have fb4 := CB.out.frozen 4
                go_simp
                have KS := hide (kp_set5 (B := wa.heap.size) CB.out HCB.out (.int .i64 F.dep) (.int .i64 F.nxt) (.slice F1 F.bl.length f1) (.slice F2 F.ca.length f2) (.slice F3 F.qu.length f3))
                replace OB := hide (OB.out.kp KS.out (by decide) (by decide))
                replace OC := hide (OC.out.kp KS.out (by decide) (by decide))
                replace OQ := hide (OQ.out.kp KS.out (by decide) (by decide))
                replace CB := hide (CB.out.set5 (.int .i64 F.dep) (.int .i64 F.nxt) (.slice F1 F.bl.length f1) (.slice F2 F.ca.length f2) (.slice F3 F.qu.length f3))
                replace KK := hide (KK.out.trans KS.out.below)
                clear b0 b1 b2 b3 b4 fb0 fb1 fb2 fb3 fb4 KS
                generalize ((((((ws.setCell ⟨cb, 0, none⟩ (.int .i64 F.dep)).setCell ⟨cb, 1, none⟩ (.int .i64 F.nxt)).setCell ⟨cb, 2, none⟩ (.slice F1 F.bl.length f1)).setCell ⟨cb, 3, none⟩ (.slice F2 F.ca.length f2)).setCell ⟨cb, 4, none⟩ (.slice F3 F.qu.length f3))) = wg at *
                refine hK.out _ _ ?_ (fun hHeld => ?_)
                · exact CE.out _ KK.out
                clear hK K'
                (try simp only [Act.put, List.setIfInBounds_toArray, List.set_cons_succ, List.set_cons_zero])
                refine wpAnyH_take (i := 15) (oi := ⟨some 15, _, _, _, _, _⟩) (v := ?_) rfl (by kernel_rfl) (by kernel_rfl) (by kernel_rfl) (fun _ _ _ h => h) (Or.inl ⟨by kernel_rfl, ?_⟩) (by assumption) ?_
                rotate_left 1
                · (intro w hSw; (try dsimp only at hSw); go_simp) <;> (with_reducible rfl)
                (try simp only [Act.put, List.setIfInBounds_toArray, List.set_cons_succ, List.set_cons_zero])
                refine wpAnyH_take (i := 16) (oi := ⟨some 16, _, _, _, _, _⟩) (v := ?_) rfl (by kernel_rfl) (by kernel_rfl) (by kernel_rfl) (fun _ _ _ h => h) (Or.inl ⟨by kernel_rfl, ?_⟩) (by assumption) ?_
                rotate_left 1
                · (intro w hSw; (try dsimp only at hSw); go_simp) <;> (with_reducible rfl)
                (try simp only [Act.put, List.setIfInBounds_toArray, List.set_cons_succ, List.set_cons_zero])
                refine wpAnyH_done (by kernel_rfl) ?_ _
                refine NoPanic.normal ?_
                obtain ⟨c0, c1, c2, c3, c4⟩ := box5_cells (W' := wg) CB.out
                have LG := hide (LW.out.on KK.out)
                obtain ⟨b0, b1, b2, b3, b4⟩ := box5_cells (W' := wg) LG.out.box
                have fb0 := LG.out.box.frozen 0
                have fb1 := LG.out.box.frozen 1
                have fb2 := LG.out.box.frozen 2
                have fb3 := LG.out.box.frozen 3
                have fb4 := LG.out.box.frozen 4
                clear x0' x1' x2' x3' x4'
                go_upto_region 25 with fail
                have LS := hide (LG.out.dev HG.out F OB.out OC.out OQ.out)
                have KS := hide (kp_set5 (B := w.heap.size) LG.out.box HG.out (.int .i64 F.dep) (.int .i64 F.nxt) (.slice F1 F.bl.length f1) (.slice F2 F.ca.length f2) (.slice F3 F.qu.length f3))
                have a1 := ((AB.out.below KK.out).kp KS.out (by decide)).cell 1
                simp at a1
                clear b0 b1 b2 b3 b4 fb0 fb1 fb2 fb3 fb4 KS LG c0 c1 c2 c3 c4 LW
                generalize (((((wg.setCell ⟨g, 0, none⟩ (.int .i64 F.dep)).setCell ⟨g, 1, none⟩ (.int .i64 F.nxt)).setCell ⟨g, 2, none⟩ (.slice F1 F.bl.length f1)).setCell ⟨g, 3, none⟩ (.slice F2 F.ca.length f2)).setCell ⟨g, 4, none⟩ (.slice F3 F.qu.length f3)) = wh at *
                obtain ⟨m, hm⟩ : ∃ m : Nat, x1 % 4 = (m : Int) := ⟨(x1 % 4).toNat, by omega⟩
                have hm4 : m < 4 := by omega
                have hm0 : (0 : Int) ≤ (m : Int) := by omega
                have hm1 : (m : Int) < 4 := by omega
                have IF := hide (IFA.out m hm)
                have fz := LS.out.arr.frozen m
                have cz := arr_at4 (f := wf) LS.out.arr hm4
                have hm2 : IntKind.u8.wrap (x1.tmod 4) = (m : Int) := by rw [u4 r1 r1', hm]
                have hm3 : x1.tmod 4 = (m : Int) := by rw [Int.tmod_eq_emod_of_nonneg r1, hm]
                clear IFA
                go_wp2
                have LT := hide (LS.out.seta HO.out hm4)
                refine ⟨?rel, ?measure⟩
                case rel => exact ⟨_, _, _, _, _, _, _, _, ⟨k + 1, by omega, rfl, F, PF, _, IF, hide ⟨_, _, _, LT.out⟩⟩, rfl, rfl, rfl, rfl, rfl, rfl, rfl, by go_num⟩
                case measure => simp [intOf]; omega
              refine AllReadyH.cons (o := ⟨some 14, _, _, _, _, _⟩) rfl (fun K' hK => ?_) AllReadyH.nil
              go_simp
              have CB := hide (Box.new w0 28 #[.int .i64 0, .int .i64 0, .slice none 0 0, .slice none 0 0, .slice none 0 0])
              have HCB := hide (show wa.heap.size ≤ w0.heap.size from KK.out.size)
              replace KK := hide (bal KK.out (.cells #[.int .i64 0, .int .i64 0, .slice none 0 0, .slice none 0 0, .slice none 0 0] 28))
              obtain ⟨cb, hcb⟩ : ∃ cb, cb = w0.heap.size := ⟨_, rfl⟩
              rw [← hcb] at CB HCB ⊢
              clear hcb
              generalize w0.alloc (.cells #[.int .i64 0, .int .i64 0, .slice none 0 0, .slice none 0 0, .slice none 0 0] 28) = we at *
              refine hK.out _ _ ?_ (fun hHeld => ?_)
              · exact CE.out _ KK.out
              clear hK K'
              (try simp only [Act.put, List.setIfInBounds_toArray, List.set_cons_succ, List.set_cons_zero])
              refine wpAnyH_ready (rs := [7]) (by kernel_rfl) (by simp) ?_
              refine AllReadyH.cons (o := ⟨some 86, _, _, _, _, _⟩) rfl (fun K' hK => ?_) AllReadyH.nil
              go_simp
              refine (page_any x2 _).mono ?_
              rintro e wp ⟨vp, rfl, hop, hbp⟩
              obtain ⟨Ap, cp, rfl⟩ := hop.form
              have UP := hide hop
              replace KK := hide (btrans KK.out hbp)
              replace CB := hide (CB.out.below hbp)
              clear hop hbp
              refine hK.out _ _ ?_ (fun hHeld => ?_)
              · exact CE.out _ KK.out
              clear hK K'
              (try simp only [Act.put, List.setIfInBounds_toArray, List.set_cons_succ, List.set_cons_zero])
              refine wpAnyH_ready (rs := [8]) (by kernel_rfl) (by simp) ?_
              refine AllReadyH.cons (o := ⟨some 87, _, _, _, _, _⟩) rfl (fun K' hK => ?_) AllReadyH.nil
              go_simp
              refine (SP.out _ KK.out _ UP.out.is).mono ?_
              rintro e ws ⟨vs, rfl, hos, hbs⟩
              obtain ⟨ub, uc, uq, rfl, ob, oc, oq⟩ := hos
              obtain ⟨F1, f1, rfl, _⟩ := ob.form
              obtain ⟨F2, f2, rfl, _⟩ := oc.form
              obtain ⟨F3, f3, rfl, _⟩ := oq.form
              have hsz := Nat.le_trans KA.out.size KK.out.size
              have OB := hide (ob.mono hsz)
              have OC := hide (oc.mono hsz)
              have OQ := hide (oq.mono hsz)
              replace KK := hide (btrans KK.out hbs)
              replace CB := hide (CB.out.below hbs)
              clear hbs ob oc oq hsz
              refine hK.out _ _ ?_ (fun hHeld => ?_)
              · exact CE.out _ KK.out
              clear hK K'
              (try simp only [Act.put, List.setIfInBounds_toArray, List.set_cons_succ, List.set_cons_zero])
              refine wpAnyH_take (i := 9) (oi := ⟨some 78, _, _, _, _, _⟩) (v := ?_) rfl (by kernel_rfl) (by kernel_rfl) (by kernel_rfl) (fun _ _ _ h => h) (Or.inl ⟨by kernel_rfl, ?_⟩) (by assumption) ?_
              rotate_left 1
              · (intro w hSw; (try dsimp only at hSw); go_simp) <;> (with_reducible rfl)
              (try simp only [Act.put, List.setIfInBounds_toArray, List.set_cons_succ, List.set_cons_zero])
              refine wpAnyH_take (i := 10) (oi := ⟨some 88, _, _, _, _, _⟩) (v := ?_) rfl (by kernel_rfl) (by kernel_rfl) (by kernel_rfl) (fun _ _ _ h => h) (Or.inl ⟨by kernel_rfl, ?_⟩) (by assumption) ?_
              rotate_left 1
              · (intro w hSw; (try dsimp only at hSw); go_simp) <;> (with_reducible rfl)
              (try simp only [Act.put, List.setIfInBounds_toArray, List.set_cons_succ, List.set_cons_zero])
              refine wpAnyH_take (i := 11) (oi := ⟨some 89, _, _, _, _, _⟩) (v := ?_) rfl (by kernel_rfl) (by kernel_rfl) (by kernel_rfl) (fun _ _ _ h => h) (Or.inl ⟨by kernel_rfl, ?_⟩) (by assumption) ?_
              rotate_left 1
              · (intro w hSw; (try dsimp only at hSw); go_simp) <;> (with_reducible rfl)
              (try simp only [Act.put, List.setIfInBounds_toArray, List.set_cons_succ, List.set_cons_zero])
              refine wpAnyH_take (i := 12) (oi := ⟨some 90, _, _, _, _, _⟩) (v := ?_) rfl (by kernel_rfl) (by kernel_rfl) (by kernel_rfl) (fun _ _ _ h => h) (Or.inl ⟨by kernel_rfl, ?_⟩) (by assumption) ?_
              rotate_left 1
              · (intro w hSw; (try dsimp only at hSw); go_simp) <;> (with_reducible rfl)
              (try simp only [Act.put, List.setIfInBounds_toArray, List.set_cons_succ, List.set_cons_zero])
              refine wpAnyH_ready (rs := [14]) (by kernel_rfl) (by simp) ?_
              refine AllReadyH.cons (o := ⟨none, _, _, _, _, _⟩) rfl (fun K' hK => ?_) AllReadyH.nil
              obtain ⟨b0, b1, b2, b3, b4⟩ := box5_cells (W' := ws) CB.out
              have fb0 := CB.out.frozen 0
              have fb1 := CB.out.frozen 1
              have fb2 := CB.out.frozen 2
              have fb3 := CB.out.frozen 3
              have fb4 := CB.out.frozen 4
              go_simp
              have KS := hide (kp_set5 (B := wa.heap.size) CB.out HCB.out (.int .i64 F.dep) (.int .i64 F.nxt) (.slice F1 F.bl.length f1) (.slice F2 F.ca.length f2) (.slice F3 F.qu.length f3))
              replace OB := hide (OB.out.kp KS.out (by decide) (by decide))
              replace OC := hide (OC.out.kp KS.out (by decide) (by decide))
              replace OQ := hide (OQ.out.kp KS.out (by decide) (by decide))
              replace CB := hide (CB.out.set5 (.int .i64 F.dep) (.int .i64 F.nxt) (.slice F1 F.bl.length f1) (.slice F2 F.ca.length f2) (.slice F3 F.qu.length f3))
              replace KK := hide (KK.out.trans KS.out.below)
              clear b0 b1 b2 b3 b4 fb0 fb1 fb2 fb3 fb4 KS
              generalize ((((((ws.setCell ⟨cb, 0, none⟩ (.int .i64 F.dep)).setCell ⟨cb, 1, none⟩ (.int .i64 F.nxt)).setCell ⟨cb, 2, none⟩ (.slice F1 F.bl.length f1)).setCell ⟨cb, 3, none⟩ (.slice F2 F.ca.length f2)).setCell ⟨cb, 4, none⟩ (.slice F3 F.qu.length f3))) = wg at *
              refine hK.out _ _ ?_ (fun hHeld => ?_)
              · exact CE.out _ KK.out
              clear hK K'
              (try simp only [Act.put, List.setIfInBounds_toArray, List.set_cons_succ, List.set_cons_zero])
              refine wpAnyH_take (i := 15) (oi := ⟨some 15, _, _, _, _, _⟩) (v := ?_) rfl (by kernel_rfl) (by kernel_rfl) (by kernel_rfl) (fun _ _ _ h => h) (Or.inl ⟨by kernel_rfl, ?_⟩) (by assumption) ?_
              rotate_left 1
              · (intro w hSw; (try dsimp only at hSw); go_simp) <;> (with_reducible rfl)
              (try simp only [Act.put, List.setIfInBounds_toArray, List.set_cons_succ, List.set_cons_zero])
              refine wpAnyH_take (i := 16) (oi := ⟨some 16, _, _, _, _, _⟩) (v := ?_) rfl (by kernel_rfl) (by kernel_rfl) (by kernel_rfl) (fun _ _ _ h => h) (Or.inl ⟨by kernel_rfl, ?_⟩) (by assumption) ?_
              rotate_left 1
              · (intro w hSw; (try dsimp only at hSw); go_simp) <;> (with_reducible rfl)
              (try simp only [Act.put, List.setIfInBounds_toArray, List.set_cons_succ, List.set_cons_zero])
              refine wpAnyH_done (by kernel_rfl) ?_ _
              refine NoPanic.normal ?_
              obtain ⟨c0, c1, c2, c3, c4⟩ := box5_cells (W' := wg) CB.out
              have LG := hide (LW.out.on KK.out)
              obtain ⟨b0, b1, b2, b3, b4⟩ := box5_cells (W' := wg) LG.out.box
              have fb0 := LG.out.box.frozen 0
              have fb1 := LG.out.box.frozen 1
              have fb2 := LG.out.box.frozen 2
              have fb3 := LG.out.box.frozen 3
              have fb4 := LG.out.box.frozen 4
              clear x0' x1' x2' x3' x4'
              go_upto_region 25 with fail
              have LS := hide (LG.out.dev HG.out F OB.out OC.out OQ.out)
              have KS := hide (kp_set5 (B := w.heap.size) LG.out.box HG.out (.int .i64 F.dep) (.int .i64 F.nxt) (.slice F1 F.bl.length f1) (.slice F2 F.ca.length f2) (.slice F3 F.qu.length f3))
              have a1 := ((AB.out.below KK.out).kp KS.out (by decide)).cell 1
              simp at a1
              clear b0 b1 b2 b3 b4 fb0 fb1 fb2 fb3 fb4 KS LG c0 c1 c2 c3 c4 LW
              generalize (((((wg.setCell ⟨g, 0, none⟩ (.int .i64 F.dep)).setCell ⟨g, 1, none⟩ (.int .i64 F.nxt)).setCell ⟨g, 2, none⟩ (.slice F1 F.bl.length f1)).setCell ⟨g, 3, none⟩ (.slice F2 F.ca.length f2)).setCell ⟨g, 4, none⟩ (.slice F3 F.qu.length f3)) = wh at *
              obtain ⟨m, hm⟩ : ∃ m : Nat, x1 % 4 = (m : Int) := ⟨(x1 % 4).toNat, by omega⟩
              have hm4 : m < 4 := by omega
              have hm0 : (0 : Int) ≤ (m : Int) := by omega
              have hm1 : (m : Int) < 4 := by omega
              have IF := hide (IFA.out m hm)
              have fz := LS.out.arr.frozen m
              have cz := arr_at4 (f := wf) LS.out.arr hm4
              have hm2 : IntKind.u8.wrap (x1.tmod 4) = (m : Int) := by rw [u4 r1 r1', hm]
              have hm3 : x1.tmod 4 = (m : Int) := by rw [Int.tmod_eq_emod_of_nonneg r1, hm]
              clear IFA
              go_wp2
              have LT := hide (LS.out.seta HO.out hm4)
              refine ⟨?rel, ?measure⟩
              case rel => exact ⟨_, _, _, _, _, _, _, _, ⟨k + 1, by omega, rfl, F, PF, _, IF, hide ⟨_, _, _, LT.out⟩⟩, rfl, rfl, rfl, rfl, rfl, rfl, rfl, by go_num⟩
              case measure => simp [intOf]; omega
            · have e0 : sbE D 2 (IntKind.i64.wrap (x1.tmod 4)) 32 = 8 := by rw [SBE.out, if_neg hn]
              obtain ⟨F, hF⟩ : ∃ F, F = zeroD := ⟨_, rfl⟩
              have hn1 : decide ((D.qu.length : Int) < 4) = false := decide_eq_false (by omega)
              have hn2 : decide (4 ≤ (D.qu.length : Int)) = true := decide_eq_true (by omega)
              have hn3 : ¬ (D.qu.length : Int) < 4 := by omega
              have hn4 : 4 ≤ (D.qu.length : Int) := by omega
              rw [e0] at SP
              simp only [show ¬ (8 : Int) = 0 by decide, if_false] at SP
              rw [← hF] at SP
              clear e0 SBE hF hn
              go_upto_region 22 with fail
              clear a0 a1 a2 a3
              refine wp_region_noPanic ?_
              refine wp_region_held_drew (S := (fun W => W.cell? ⟨g, 0, none⟩ = some (.int .i64 D.dep) ∧ W.cell? ⟨g, 1, none⟩ = some (.int .i64 D.nxt) ∧ W.cell? ⟨g, 2, none⟩ = some (.slice E1 D.bl.length g1) ∧ W.cell? ⟨g, 3, none⟩ = some (.slice E2 D.ca.length g2) ∧ W.cell? ⟨g, 4, none⟩ = some (.slice E3 D.qu.length g3) ∧ W.cell? ⟨ab, 1, none⟩ = some (.int .u8 x1) ∧ W.cell? ⟨ab, 2, none⟩ = some (.int .u8 x2))) (by kernel_rfl) ?_ (fun hHeld => ?_)
              · exact CE.out _ (below_drew (brefl wa))
              have KK := hide (below_drew (brefl wa))
              generalize wa.drew = w0 at *
              refine wpAnyH_take (i := 0) (oi := ⟨some 79, _, _, _, _, _⟩) (v := ?_) rfl (by kernel_rfl) (by kernel_rfl) (by kernel_rfl) (fun _ _ _ h => h) (Or.inl ⟨by kernel_rfl, ?_⟩) (by assumption) ?_
              rotate_left 1
              · (intro w hSw; (try dsimp only at hSw); go_simp) <;> (with_reducible rfl)
              (try simp only [Act.put, List.setIfInBounds_toArray, List.set_cons_succ, List.set_cons_zero])
              refine wpAnyH_take (i := 1) (oi := ⟨some 80, _, _, _, _, _⟩) (v := ?_) rfl (by kernel_rfl) (by kernel_rfl) (by kernel_rfl) (fun _ _ _ h => h) (Or.inl ⟨by kernel_rfl, ?_⟩) (by assumption) ?_
              rotate_left 1
              · (intro w hSw; (try dsimp only at hSw); go_simp) <;> (with_reducible rfl)
              (try simp only [Act.put, List.setIfInBounds_toArray, List.set_cons_succ, List.set_cons_zero])
              refine wpAnyH_take (i := 2) (oi := ⟨some 81, _, _, _, _, _⟩) (v := ?_) rfl (by kernel_rfl) (by kernel_rfl) (by kernel_rfl) (fun _ _ _ h => h) (Or.inl ⟨by kernel_rfl, ?_⟩) (by assumption) ?_
              rotate_left 1
              · (intro w hSw; (try dsimp only at hSw); go_simp) <;> (with_reducible rfl)
              (try simp only [Act.put, List.setIfInBounds_toArray, List.set_cons_succ, List.set_cons_zero])
              refine wpAnyH_take (i := 3) (oi := ⟨some 82, _, _, _, _, _⟩) (v := ?_) rfl (by kernel_rfl) (by kernel_rfl) (by kernel_rfl) (fun _ _ _ h => h) (Or.inl ⟨by kernel_rfl, ?_⟩) (by assumption) ?_
              rotate_left 1
              · (intro w hSw; (try dsimp only at hSw); go_simp) <;> (with_reducible rfl)
              (try simp only [Act.put, List.setIfInBounds_toArray, List.set_cons_succ, List.set_cons_zero])
              refine wpAnyH_take (i := 4) (oi := ⟨some 83, _, _, _, _, _⟩) (v := ?_) rfl (by kernel_rfl) (by kernel_rfl) (by kernel_rfl) (fun _ _ _ h => h) (Or.inl ⟨by kernel_rfl, ?_⟩) (by assumption) ?_
              rotate_left 1
              · (intro w hSw; (try dsimp only at hSw); go_simp) <;> (with_reducible rfl)
              (try simp only [Act.put, List.setIfInBounds_toArray, List.set_cons_succ, List.set_cons_zero])
              refine wpAnyH_take (i := 5) (oi := ⟨some 84, _, _, _, _, _⟩) (v := ?_) rfl (by kernel_rfl) (by kernel_rfl) (by kernel_rfl) (fun _ _ _ h => h) (Or.inl ⟨by kernel_rfl, ?_⟩) (by assumption) ?_
              rotate_left 1
              · (intro w hSw; (try dsimp only at hSw); go_simp) <;> (with_reducible rfl)
              (try simp only [Act.put, List.setIfInBounds_toArray, List.set_cons_succ, List.set_cons_zero])
              refine wpAnyH_take (i := 6) (oi := ⟨some 85, _, _, _, _, _⟩) (v := ?_) rfl (by kernel_rfl) (by kernel_rfl) (by kernel_rfl) (fun _ _ _ h => h) (Or.inl ⟨by kernel_rfl, ?_⟩) (by assumption) ?_
              rotate_left 1
              · (intro w hSw; (try dsimp only at hSw); go_simp) <;> (with_reducible rfl)
              (try simp only [Act.put, List.setIfInBounds_toArray, List.set_cons_succ, List.set_cons_zero])
              refine wpAnyH_ready (rs := [7, 13]) (by kernel_rfl) (by simp) ?_
              refine AllReadyH.cons (o := ⟨some 86, _, _, _, _, _⟩) rfl (fun K' hK => ?_) ?_
              · go_simp
                refine (page_any x2 _).mono ?_
                rintro e wp ⟨vp, rfl, hop, hbp⟩
                obtain ⟨Ap, cp, rfl⟩ := hop.form
                have UP := hide hop
                replace KK := hide (btrans KK.out hbp)
                clear hop hbp
                refine hK.out _ _ ?_ (fun hHeld => ?_)
                · exact CE.out _ KK.out
                clear hK K'
                (try simp only [Act.put, List.setIfInBounds_toArray, List.set_cons_succ, List.set_cons_zero])
                refine wpAnyH_ready (rs := [8, 13]) (by kernel_rfl) (by simp) ?_
                refine AllReadyH.cons (o := ⟨some 87, _, _, _, _, _⟩) rfl (fun K' hK => ?_) ?_
                · go_simp
                  refine (SP.out _ KK.out _ UP.out.is).mono ?_
                  rintro e ws ⟨vs, rfl, hos, hbs⟩
                  obtain ⟨ub, uc, uq, rfl, ob, oc, oq⟩ := hos
                  obtain ⟨F1, f1, rfl, _⟩ := ob.form
                  obtain ⟨F2, f2, rfl, _⟩ := oc.form
                  obtain ⟨F3, f3, rfl, _⟩ := oq.form
                  have hsz := Nat.le_trans KA.out.size KK.out.size
                  have OB := hide (ob.mono hsz)
                  have OC := hide (oc.mono hsz)
                  have OQ := hide (oq.mono hsz)
                  replace KK := hide (btrans KK.out hbs)
                  clear hbs ob oc oq hsz
                  refine hK.out _ _ ?_ (fun hHeld => ?_)
                  · exact CE.out _ KK.out
                  clear hK K'
                  (try simp only [Act.put, List.setIfInBounds_toArray, List.set_cons_succ, List.set_cons_zero])
                  refine wpAnyH_take (i := 9) (oi := ⟨some 78, _, _, _, _, _⟩) (v := ?_) rfl (by kernel_rfl) (by kernel_rfl) (by kernel_rfl) (fun _ _ _ h => h) (Or.inl ⟨by kernel_rfl, ?_⟩) (by assumption) ?_
                  rotate_left 1
                  · (intro w hSw; (try dsimp only at hSw); go_simp) <;> (with_reducible rfl)
                  (try simp only [Act.put, List.setIfInBounds_toArray, List.set_cons_succ, List.set_cons_zero])
                  refine wpAnyH_take (i := 10) (oi := ⟨some 88, _, _, _, _, _⟩) (v := ?_) rfl (by kernel_rfl) (by kernel_rfl) (by kernel_rfl) (fun _ _ _ h => h) (Or.inl ⟨by kernel_rfl, ?_⟩) (by assumption) ?_
                  rotate_left 1
                  · (intro w hSw; (try dsimp only at hSw); go_simp) <;> (with_reducible rfl)
                  (try simp only [Act.put, List.setIfInBounds_toArray, List.set_cons_succ, List.set_cons_zero])
                  refine wpAnyH_take (i := 11) (oi := ⟨some 89, _, _, _, _, _⟩) (v := ?_) rfl (by kernel_rfl) (by kernel_rfl) (by kernel_rfl) (fun _ _ _ h => h) (Or.inl ⟨by kernel_rfl, ?_⟩) (by assumption) ?_
                  rotate_left 1
                  · (intro w hSw; (try dsimp only at hSw); go_simp) <;> (with_reducible rfl)
                  (try simp only [Act.put, List.setIfInBounds_toArray, List.set_cons_succ, List.set_cons_zero])
                  refine wpAnyH_take (i := 12) (oi := ⟨some 90, _, _, _, _, _⟩) (v := ?_) rfl (by kernel_rfl) (by kernel_rfl) (by kernel_rfl) (fun _ _ _ h => h) (Or.inl ⟨by kernel_rfl, ?_⟩) (by assumption) ?_
                  rotate_left 1
                  · (intro w hSw; (try dsimp only at hSw); go_simp) <;> (with_reducible rfl)
                  (try simp only [Act.put, List.setIfInBounds_toArray, List.set_cons_succ, List.set_cons_zero])
                  refine wpAnyH_ready (rs := [13]) (by kernel_rfl) (by simp) ?_
                  refine AllReadyH.cons (o := ⟨some 14, _, _, _, _, _⟩) rfl (fun K' hK => ?_) AllReadyH.nil
                  go_simp
                  have CB := hide (Box.new ws 28 #[.int .i64 0, .int .i64 0, .slice none 0 0, .slice none 0 0, .slice none 0 0])
                  have HCB := hide (show wa.heap.size ≤ ws.heap.size from KK.out.size)
                  replace UP := hide (UP.out.below (bal (brefl _) (.cells #[.int .i64 0, .int .i64 0, .slice none 0 0, .slice none 0 0, .slice none 0 0] 28)))
                  replace OB := hide (OB.out.below (bal (brefl _) (.cells #[.int .i64 0, .int .i64 0, .slice none 0 0, .slice none 0 0, .slice none 0 0] 28)))
                  replace OC := hide (OC.out.below (bal (brefl _) (.cells #[.int .i64 0, .int .i64 0, .slice none 0 0, .slice none 0 0, .slice none 0 0] 28)))
                  replace OQ := hide (OQ.out.below (bal (brefl _) (.cells #[.int .i64 0, .int .i64 0, .slice none 0 0, .slice none 0 0, .slice none 0 0] 28)))
                  replace KK := hide (bal KK.out (.cells #[.int .i64 0, .int .i64 0, .slice none 0 0, .slice none 0 0, .slice none 0 0] 28))
                  obtain ⟨cb, hcb⟩ : ∃ cb, cb = ws.heap.size := ⟨_, rfl⟩
                  rw [← hcb] at CB HCB ⊢
                  clear hcb
                  generalize ws.alloc (.cells #[.int .i64 0, .int .i64 0, .slice none 0 0, .slice none 0 0, .slice none 0 0] 28) = we at *
                  refine hK.out _ _ ?_ (fun hHeld => ?_)
                  · exact CE.out _ KK.out
                  clear hK K'
                  (try simp only [Act.put, List.setIfInBounds_toArray, List.set_cons_succ, List.set_cons_zero])
                  refine wpAnyH_ready (rs := [14]) (by kernel_rfl) (by simp) ?_
                  refine AllReadyH.cons (o := ⟨none, _, _, _, _, _⟩) rfl (fun K' hK => ?_) AllReadyH.nil
                  obtain ⟨b0, b1, b2, b3, b4⟩ := box5_cells (W' := we) CB.out
                  have fb0 := CB.out.frozen 0
                  have fb1 := CB.out.frozen 1
                  have fb2 := CB.out.frozen 2
                  have fb3 := CB.out.frozen 3
                  have fb4 := CB.out.frozen 4
                  go_simp
                  have KS := hide (kp_set5 (B := wa.heap.size) CB.out HCB.out (.int .i64 F.dep) (.int .i64 F.nxt) (.slice F1 F.bl.length f1) (.slice F2 F.ca.length f2) (.slice F3 F.qu.length f3))
                  replace OB := hide (OB.out.kp KS.out (by decide) (by decide))
                  replace OC := hide (OC.out.kp KS.out (by decide) (by decide))
                  replace OQ := hide (OQ.out.kp KS.out (by decide) (by decide))
                  replace CB := hide (CB.out.set5 (.int .i64 F.dep) (.int .i64 F.nxt) (.slice F1 F.bl.length f1) (.slice F2 F.ca.length f2) (.slice F3 F.qu.length f3))
                  replace KK := hide (KK.out.trans KS.out.below)
                  clear b0 b1 b2 b3 b4 fb0 fb1 fb2 fb3 fb4 KS
                  generalize ((((((we.setCell ⟨cb, 0, none⟩ (.int .i64 F.dep)).setCell ⟨cb, 1, none⟩ (.int .i64 F.nxt)).setCell ⟨cb, 2, none⟩ (.slice F1 F.bl.length f1)).setCell ⟨cb, 3, none⟩ (.slice F2 F.ca.length f2)).setCell ⟨cb, 4, none⟩ (.slice F3 F.qu.length f3))) = wg at *
                  refine hK.out _ _ ?_ (fun hHeld => ?_)
                  · exact CE.out _ KK.out
                  clear hK K'
                  (try simp only [Act.put, List.setIfInBounds_toArray, List.set_cons_succ, List.set_cons_zero])
                  refine wpAnyH_take (i := 15) (oi := ⟨some 15, _, _, _, _, _⟩) (v := ?_) rfl (by kernel_rfl) (by kernel_rfl) (by kernel_rfl) (fun _ _ _ h => h) (Or.inl ⟨by kernel_rfl, ?_⟩) (by assumption) ?_
                  rotate_left 1
                  · (intro w hSw; (try dsimp only at hSw); go_simp) <;> (with_reducible rfl)
                  (try simp only [Act.put, List.setIfInBounds_toArray, List.set_cons_succ, List.set_cons_zero])
                  refine wpAnyH_take (i := 16) (oi := ⟨some 16, _, _, _, _, _⟩) (v := ?_) rfl (by kernel_rfl) (by kernel_rfl) (by kernel_rfl) (fun _ _ _ h => h) (Or.inl ⟨by kernel_rfl, ?_⟩) (by assumption) ?_
                  rotate_left 1
                  · (intro w hSw; (try dsimp only at hSw); go_simp) <;> (with_reducible rfl)
                  (try simp only [Act.put, List.setIfInBounds_toArray, List.set_cons_succ, List.set_cons_zero])
                  refine wpAnyH_done (by kernel_rfl) ?_ _
                  refine NoPanic.normal ?_
                  go_wp2
                  refine ⟨?rel, ?measure⟩
                  case rel => exact ⟨_, _, _, _, _, _, _, _, ⟨k + 1, by omega, rfl, D, hide (P0.out.mono (by omega)), wf, IV, hide ⟨_, _, _, LW.out.on KK.out⟩⟩, rfl, rfl, rfl, rfl, rfl, rfl, rfl, by go_num⟩
                  case measure => simp [intOf]; omega
                refine AllReadyH.cons (o := ⟨some 14, _, _, _, _, _⟩) rfl (fun K' hK => ?_) AllReadyH.nil
                go_simp
                have CB := hide (Box.new wp 28 #[.int .i64 0, .int .i64 0, .slice none 0 0, .slice none 0 0, .slice none 0 0])
                have HCB := hide (show wa.heap.size ≤ wp.heap.size from KK.out.size)
                replace UP := hide (UP.out.below (bal (brefl _) (.cells #[.int .i64 0, .int .i64 0, .slice none 0 0, .slice none 0 0, .slice none 0 0] 28)))
                replace KK := hide (bal KK.out (.cells #[.int .i64 0, .int .i64 0, .slice none 0 0, .slice none 0 0, .slice none 0 0] 28))
                obtain ⟨cb, hcb⟩ : ∃ cb, cb = wp.heap.size := ⟨_, rfl⟩
                rw [← hcb] at CB HCB ⊢
                clear hcb
                generalize wp.alloc (.cells #[.int .i64 0, .int .i64 0, .slice none 0 0, .slice none 0 0, .slice none 0 0] 28) = we at *
                refine hK.out _ _ ?_ (fun hHeld => ?_)
                · exact CE.out _ KK.out
                clear hK K'
                (try simp only [Act.put, List.setIfInBounds_toArray, List.set_cons_succ, List.set_cons_zero])
                refine wpAnyH_ready (rs := [8]) (by kernel_rfl) (by simp) ?_
                refine AllReadyH.cons (o := ⟨some 87, _, _, _, _, _⟩) rfl (fun K' hK => ?_) AllReadyH.nil
                go_simp
                refine (SP.out _ KK.out _ UP.out.is).mono ?_
                rintro e ws ⟨vs, rfl, hos, hbs⟩
                obtain ⟨ub, uc, uq, rfl, ob, oc, oq⟩ := hos
                obtain ⟨F1, f1, rfl, _⟩ := ob.form
                obtain ⟨F2, f2, rfl, _⟩ := oc.form
                obtain ⟨F3, f3, rfl, _⟩ := oq.form
                have hsz := Nat.le_trans KA.out.size KK.out.size
                have OB := hide (ob.mono hsz)
                have OC := hide (oc.mono hsz)
                have OQ := hide (oq.mono hsz)
                replace KK := hide (btrans KK.out hbs)
                replace CB := hide (CB.out.below hbs)
                clear hbs ob oc oq hsz
                refine hK.out _ _ ?_ (fun hHeld => ?_)
                · exact CE.out _ KK.out
                clear hK K'
                (try simp only [Act.put, List.setIfInBounds_toArray, List.set_cons_succ, List.set_cons_zero])
                refine wpAnyH_take (i := 9) (oi := ⟨some 78, _, _, _, _, _⟩) (v := ?_) rfl (by kernel_rfl) (by kernel_rfl) (by kernel_rfl) (fun _ _ _ h => h) (Or.inl ⟨by kernel_rfl, ?_⟩) (by assumption) ?_
                rotate_left 1
                · (intro w hSw; (try dsimp only at hSw); go_simp) <;> (with_reducible rfl)
                (try simp only [Act.put, List.setIfInBounds_toArray, List.set_cons_succ, List.set_cons_zero])
                refine wpAnyH_take (i := 10) (oi := ⟨some 88, _, _, _, _, _⟩) (v := ?_) rfl (by kernel_rfl) (by kernel_rfl) (by kernel_rfl) (fun _ _ _ h => h) (Or.inl ⟨by kernel_rfl, ?_⟩) (by assumption) ?_
                rotate_left 1
                · (intro w hSw; (try dsimp only at hSw); go_simp) <;> (with_reducible rfl)
                (try simp only [Act.put, List.setIfInBounds_toArray, List.set_cons_succ, List.set_cons_zero])
                refine wpAnyH_take (i := 11) (oi := ⟨some 89, _, _, _, _, _⟩) (v := ?_) rfl (by kernel_rfl) (by kernel_rfl) (by kernel_rfl) (fun _ _ _ h => h) (Or.inl ⟨by kernel_rfl, ?_⟩) (by assumption) ?_
                rotate_left 1
                · (intro w hSw; (try dsimp only at hSw); go_simp) <;> (with_reducible rfl)
                (try simp only [Act.put, List.setIfInBounds_toArray, List.set_cons_succ, List.set_cons_zero])
                refine wpAnyH_take (i := 12) (oi := ⟨some 90, _, _, _, _, _⟩) (v := ?_) rfl (by kernel_rfl) (by kernel_rfl) (by kernel_rfl) (fun _ _ _ h => h) (Or.inl ⟨by kernel_rfl, ?_⟩) (by assumption) ?_
                rotate_left 1
                · (intro w hSw; (try dsimp only at hSw); go_simp) <;> (with_reducible rfl)
                (try simp only [Act.put, List.setIfInBounds_toArray, List.set_cons_succ, List.set_cons_zero])
                refine wpAnyH_ready (rs := [14]) (by kernel_rfl) (by simp) ?_
                refine AllReadyH.cons (o := ⟨none, _, _, _, _, _⟩) rfl (fun K' hK => ?_) AllReadyH.nil
                obtain ⟨b0, b1, b2, b3, b4⟩ := box5_cells (W' := ws) CB.out
                have fb0 := CB.out.frozen 0
                have fb1 := CB.out.frozen 1
                have fb2 := CB.out.frozen 2
                have fb3 := CB.out.frozen 3
                have fb4 := CB.out.frozen 4
                go_simp
                have KS := hide (kp_set5 (B := wa.heap.size) CB.out HCB.out (.int .i64 F.dep) (.int .i64 F.nxt) (.slice F1 F.bl.length f1) (.slice F2 F.ca.length f2) (.slice F3 F.qu.length f3))
                replace OB := hide (OB.out.kp KS.out (by decide) (by decide))
                replace OC := hide (OC.out.kp KS.out (by decide) (by decide))
                replace OQ := hide (OQ.out.kp KS.out (by decide) (by decide))
                replace CB := hide (CB.out.set5 (.int .i64 F.dep) (.int .i64 F.nxt) (.slice F1 F.bl.length f1) (.slice F2 F.ca.length f2) (.slice F3 F.qu.length f3))
                replace KK := hide (KK.out.trans KS.out.below)
                clear b0 b1 b2 b3 b4 fb0 fb1 fb2 fb3 fb4 KS
                generalize ((((((ws.setCell ⟨cb, 0, none⟩ (.int .i64 F.dep)).setCell ⟨cb, 1, none⟩ (.int .i64 F.nxt)).setCell ⟨cb, 2, none⟩ (.slice F1 F.bl.length f1)).setCell ⟨cb, 3, none⟩ (.slice F2 F.ca.length f2)).setCell ⟨cb, 4, none⟩ (.slice F3 F.qu.length f3))) = wg at *
                refine hK.out _ _ ?_ (fun hHeld => ?_)
                · exact CE.out _ KK.out
                clear hK K'
                (try simp only [Act.put, List.setIfInBounds_toArray, List.set_cons_succ, List.set_cons_zero])
                refine wpAnyH_take (i := 15) (oi := ⟨some 15, _, _, _, _, _⟩) (v := ?_) rfl (by kernel_rfl) (by kernel_rfl) (by kernel_rfl) (fun _ _ _ h => h) (Or.inl ⟨by kernel_rfl, ?_⟩) (by assumption) ?_
                rotate_left 1
                · (intro w hSw; (try dsimp only at hSw); go_simp) <;> (with_reducible rfl)
                (try simp only [Act.put, List.setIfInBounds_toArray, List.set_cons_succ, List.set_cons_zero])
                refine wpAnyH_take (i := 16) (oi := ⟨some 16, _, _, _, _, _⟩) (v := ?_) rfl (by kernel_rfl) (by kernel_rfl) (by kernel_rfl) (fun _ _ _ h => h) (Or.inl ⟨by kernel_rfl, ?_⟩) (by assumption) ?_
                rotate_left 1
                · (intro w hSw; (try dsimp only at hSw); go_simp) <;> (with_reducible rfl)
                (try simp only [Act.put, List.setIfInBounds_toArray, List.set_cons_succ, List.set_cons_zero])
                refine wpAnyH_done (by kernel_rfl) ?_ _
                refine NoPanic.normal ?_
                go_wp2
                refine ⟨?rel, ?measure⟩
                case rel => exact ⟨_, _, _, _, _, _, _, _, ⟨k + 1, by omega, rfl, D, hide (P0.out.mono (by omega)), wf, IV, hide ⟨_, _, _, LW.out.on KK.out⟩⟩, rfl, rfl, rfl, rfl, rfl, rfl, rfl, by go_num⟩
                case measure => simp [intOf]; omega
              refine AllReadyH.cons (o := ⟨some 14, _, _, _, _, _⟩) rfl (fun K' hK => ?_) AllReadyH.nil
              go_simp
              have CB := hide (Box.new w0 28 #[.int .i64 0, .int .i64 0, .slice none 0 0, .slice none 0 0, .slice none 0 0])
              have HCB := hide (show wa.heap.size ≤ w0.heap.size from KK.out.size)
              replace KK := hide (bal KK.out (.cells #[.int .i64 0, .int .i64 0, .slice none 0 0, .slice none 0 0, .slice none 0 0] 28))
              obtain ⟨cb, hcb⟩ : ∃ cb, cb = w0.heap.size := ⟨_, rfl⟩
              rw [← hcb] at CB HCB ⊢
              clear hcb
              generalize w0.alloc (.cells #[.int .i64 0, .int .i64 0, .slice none 0 0, .slice none 0 0, .slice none 0 0] 28) = we at *
              refine hK.out _ _ ?_ (fun hHeld => ?_)
              · exact CE.out _ KK.out
              clear hK K'
              (try simp only [Act.put, List.setIfInBounds_toArray, List.set_cons_succ, List.set_cons_zero])
              refine wpAnyH_ready (rs := [7]) (by kernel_rfl) (by simp) ?_
              refine AllReadyH.cons (o := ⟨some 86, _, _, _, _, _⟩) rfl (fun K' hK => ?_) AllReadyH.nil
              go_simp
              refine (page_any x2 _).mono ?_
              rintro e wp ⟨vp, rfl, hop, hbp⟩
              obtain ⟨Ap, cp, rfl⟩ := hop.form
              have UP := hide hop
              replace KK := hide (btrans KK.out hbp)
              replace CB := hide (CB.out.below hbp)
              clear hop hbp
              refine hK.out _ _ ?_ (fun hHeld => ?_)
              · exact CE.out _ KK.out
              clear hK K'
              (try simp only [Act.put, List.setIfInBounds_toArray, List.set_cons_succ, List.set_cons_zero])
              refine wpAnyH_ready (rs := [8]) (by kernel_rfl) (by simp) ?_
              refine AllReadyH.cons (o := ⟨some 87, _, _, _, _, _⟩) rfl (fun K' hK => ?_) AllReadyH.nil
              go_simp
              refine (SP.out _ KK.out _ UP.out.is).mono ?_
              rintro e ws ⟨vs, rfl, hos, hbs⟩
              obtain ⟨ub, uc, uq, rfl, ob, oc, oq⟩ := hos
              obtain ⟨F1, f1, rfl, _⟩ := ob.form
              obtain ⟨F2, f2, rfl, _⟩ := oc.form
              obtain ⟨F3, f3, rfl, _⟩ := oq.form
              have hsz := Nat.le_trans KA.out.size KK.out.size
              have OB := hide (ob.mono hsz)
              have OC := hide (oc.mono hsz)
              have OQ := hide (oq.mono hsz)
              replace KK := hide (btrans KK.out hbs)
              replace CB := hide (CB.out.below hbs)
              clear hbs ob oc oq hsz
              refine hK.out _ _ ?_ (fun hHeld => ?_)
              · exact CE.out _ KK.out
              clear hK K'
              (try simp only [Act.put, List.setIfInBounds_toArray, List.set_cons_succ, List.set_cons_zero])
              refine wpAnyH_take (i := 9) (oi := ⟨some 78, _, _, _, _, _⟩) (v := ?_) rfl (by kernel_rfl) (by kernel_rfl) (by kernel_rfl) (fun _ _ _ h => h) (Or.inl ⟨by kernel_rfl, ?_⟩) (by assumption) ?_
              rotate_left 1
              · (intro w hSw; (try dsimp only at hSw); go_simp) <;> (with_reducible rfl)
              (try simp only [Act.put, List.setIfInBounds_toArray, List.set_cons_succ, List.set_cons_zero])
              refine wpAnyH_take (i := 10) (oi := ⟨some 88, _, _, _, _, _⟩) (v := ?_) rfl (by kernel_rfl) (by kernel_rfl) (by kernel_rfl) (fun _ _ _ h => h) (Or.inl ⟨by kernel_rfl, ?_⟩) (by assumption) ?_
              rotate_left 1
              · (intro w hSw; (try dsimp only at hSw); go_simp) <;> (with_reducible rfl)
              (try simp only [Act.put, List.setIfInBounds_toArray, List.set_cons_succ, List.set_cons_zero])
              refine wpAnyH_take (i := 11) (oi := ⟨some 89, _, _, _, _, _⟩) (v := ?_) rfl (by kernel_rfl) (by kernel_rfl) (by kernel_rfl) (fun _ _ _ h => h) (Or.inl ⟨by kernel_rfl, ?_⟩) (by assumption) ?_
              rotate_left 1
              · (intro w hSw; (try dsimp only at hSw); go_simp) <;> (with_reducible rfl)
              (try simp only [Act.put, List.setIfInBounds_toArray, List.set_cons_succ, List.set_cons_zero])
              refine wpAnyH_take (i := 12) (oi := ⟨some 90, _, _, _, _, _⟩) (v := ?_) rfl (by kernel_rfl) (by kernel_rfl) (by kernel_rfl) (fun _ _ _ h => h) (Or.inl ⟨by kernel_rfl, ?_⟩) (by assumption) ?_
              rotate_left 1
              · (intro w hSw; (try dsimp only at hSw); go_simp) <;> (with_reducible rfl)
              (try simp only [Act.put, List.setIfInBounds_toArray, List.set_cons_succ, List.set_cons_zero])
              refine wpAnyH_ready (rs := [14]) (by kernel_rfl) (by simp) ?_
              refine AllReadyH.cons (o := ⟨none, _, _, _, _, _⟩) rfl (fun K' hK => ?_) AllReadyH.nil
              obtain ⟨b0, b1, b2, b3, b4⟩ := box5_cells (W' := ws) CB.out
              have fb0 := CB.out.frozen 0
              have fb1 := CB.out.frozen 1
              have fb2 := CB.out.frozen 2
              have fb3 := CB.out.frozen 3
              have fb4 := CB.out.frozen 4
              go_simp
              have KS := hide (kp_set5 (B := wa.heap.size) CB.out HCB.out (.int .i64 F.dep) (.int .i64 F.nxt) (.slice F1 F.bl.length f1) (.slice F2 F.ca.length f2) (.slice F3 F.qu.length f3))
              replace OB := hide (OB.out.kp KS.out (by decide) (by decide))
              replace OC := hide (OC.out.kp KS.out (by decide) (by decide))
              replace OQ := hide (OQ.out.kp KS.out (by decide) (by decide))
              replace CB := hide (CB.out.set5 (.int .i64 F.dep) (.int .i64 F.nxt) (.slice F1 F.bl.length f1) (.slice F2 F.ca.length f2) (.slice F3 F.qu.length f3))
              replace KK := hide (KK.out.trans KS.out.below)
              clear b0 b1 b2 b3 b4 fb0 fb1 fb2 fb3 fb4 KS
              generalize ((((((ws.setCell ⟨cb, 0, none⟩ (.int .i64 F.dep)).setCell ⟨cb, 1, none⟩ (.int .i64 F.nxt)).setCell ⟨cb, 2, none⟩ (.slice F1 F.bl.length f1)).setCell ⟨cb, 3, none⟩ (.slice F2 F.ca.length f2)).setCell ⟨cb, 4, none⟩ (.slice F3 F.qu.length f3))) = wg at *
              refine hK.out _ _ ?_ (fun hHeld => ?_)
              · exact CE.out _ KK.out
              clear hK K'
              (try simp only [Act.put, List.setIfInBounds_toArray, List.set_cons_succ, List.set_cons_zero])
              refine wpAnyH_take (i := 15) (oi := ⟨some 15, _, _, _, _, _⟩) (v := ?_) rfl (by kernel_rfl) (by kernel_rfl) (by kernel_rfl) (fun _ _ _ h => h) (Or.inl ⟨by kernel_rfl, ?_⟩) (by assumption) ?_
              rotate_left 1
              · (intro w hSw; (try dsimp only at hSw); go_simp) <;> (with_reducible rfl)
              (try simp only [Act.put, List.setIfInBounds_toArray, List.set_cons_succ, List.set_cons_zero])
              refine wpAnyH_take (i := 16) (oi := ⟨some 16, _, _, _, _, _⟩) (v := ?_) rfl (by kernel_rfl) (by kernel_rfl) (by kernel_rfl) (fun _ _ _ h => h) (Or.inl ⟨by kernel_rfl, ?_⟩) (by assumption) ?_
              rotate_left 1
              · (intro w hSw; (try dsimp only at hSw); go_simp) <;> (with_reducible rfl)
              (try simp only [Act.put, List.setIfInBounds_toArray, List.set_cons_succ, List.set_cons_zero])
              refine wpAnyH_done (by kernel_rfl) ?_ _
              refine NoPanic.normal ?_
              go_wp2
              refine ⟨?rel, ?measure⟩
              case rel => exact ⟨_, _, _, _, _, _, _, _, ⟨k + 1, by omega, rfl, D, hide (P0.out.mono (by omega)), wf, IV, hide ⟨_, _, _, LW.out.on KK.out⟩⟩, rfl, rfl, rfl, rfl, rfl, rfl, rfl, by go_num⟩
              case measure => simp [intOf]; omega
          · have hd0 : (x0 == 0) = false := by simpa using h0
            clear h0
            by_cases h4 : x0 = 4
            · subst h4
              clear hd0
              have CM := hide (complete_any _ D (x3 % 4) false wa IN.out BIG.out)
              unfold DqR at CM
              have CME := hide (cm4 (p := x3 % 4) P0.out (by omega))
              by_cases hn : (x3 % 4) < (D.qu.length : Int)
              · have e0 : cmE D (x3 % 4) = 0 := by rw [CME.out, if_pos hn]
                obtain ⟨F, hF⟩ : ∃ F, F = cmD D (x3 % 4).toNat false := ⟨_, rfl⟩
                have PF := hide (show P4 F (41 + (k + 1)) by rw [hF]; exact (p4_cm P0.out (by omega)).mono (by omega))
                have IFA := hide (show Iv B0 wf F by rw [hF]; exact IV.out.cm (by omega))
                have hn1 : decide ((x3 % 4) < (D.qu.length : Int)) = true := decide_eq_true hn
                rw [e0] at CM
                simp only [if_true] at CM
                rw [← hF] at CM
                generalize cmQ D (x3 % 4).toNat false = fq at *
                obtain ⟨y0, y1, y2, l5⟩ := fq
                simp only at CM
                clear e0 CME hF
                go_wp2_with fail
                refine CM.out.mono ?_
                rintro e ws ⟨vs, u5, rfl, hos, hu5, hbs⟩
                obtain ⟨ub, uc, uq, rfl, ob, oc, oq⟩ := hos
                obtain ⟨F1, f1, rfl, _⟩ := ob.form
                obtain ⟨F2, f2, rfl, _⟩ := oc.form
                obtain ⟨F3, f3, rfl, _⟩ := oq.form
                obtain ⟨A5, d5, rfl⟩ := hu5.form
                have hsz := KA.out.size
                have MO := bal (bal (brefl ws) (.cells #[.int .i64 F.dep, .int .i64 F.nxt, .slice F1 F.bl.length f1, .slice F2 F.ca.length f2, .slice F3 F.qu.length f3] 28)) (.cells #[.int .i64 y0, .int .i64 y1, .int .i64 y2, .slice A5 l5.length d5] 39)
                have OB := hide ((ob.mono hsz).below MO)
                have OC := hide ((oc.mono hsz).below MO)
                have OQ := hide ((oq.mono hsz).below MO)
                have CB := hide ((Box.new ws 28 #[.int .i64 F.dep, .int .i64 F.nxt, .slice F1 F.bl.length f1, .slice F2 F.ca.length f2, .slice F3 F.qu.length f3]).more (.cells #[.int .i64 y0, .int .i64 y1, .int .i64 y2, .slice A5 l5.length d5] 39))
                have KK := hide (btrans hbs MO)
                clear hbs ob oc oq MO hu5
                go_upto_region 27 with fail
                obtain ⟨cb, hcb⟩ : ∃ cb, cb = ws.heap.size := ⟨_, rfl⟩
                rw [← hcb] at CB ⊢
                generalize (ws.alloc (.cells #[.int .i64 F.dep, .int .i64 F.nxt, .slice F1 F.bl.length f1, .slice F2 F.ca.length f2, .slice F3 F.qu.length f3] 28)).alloc (.cells #[.int .i64 y0, .int .i64 y1, .int .i64 y2, .slice A5 l5.length d5] 39) = wg at *
                clear hcb a0 a1 a2 a3
                have a3 := (AB.out.below KK.out).cell 3
                simp at a3
                obtain ⟨c0, c1, c2, c3, c4⟩ := box5_cells (W' := wg) CB.out
                have LG := hide (LW.out.on KK.out)
                obtain ⟨b0, b1, b2, b3, b4⟩ := box5_cells (W' := wg) LG.out.box
                have fb0 := LG.out.box.frozen 0
                have fb1 := LG.out.box.frozen 1
                have fb2 := LG.out.box.frozen 2
                have fb3 := LG.out.box.frozen 3
                have fb4 := LG.out.box.frozen 4
                clear x0' x1' x2' x3' x4'
                go_wp2
                have LS := hide (LG.out.dev HG.out F OB.out OC.out OQ.out)
                refine ⟨?_, ?measure⟩
                iterate 70 (first | apply Exists.intro | skip)
                refine ⟨?rel, rfl⟩
                case rel => exact ⟨k + 1, F, wf, by omega, by go_num, PF, IFA, hide ⟨_, _, _, LS.out⟩⟩
                case measure => simp [intOf]; omega
              · have e0 : cmE D (x3 % 4) = 2 := by rw [CME.out, if_neg hn]
                obtain ⟨F, hF⟩ : ∃ F, F = zeroD := ⟨_, rfl⟩
                have hn1 : decide ((x3 % 4) < (D.qu.length : Int)) = false := decide_eq_false hn
                rw [e0] at CM
                simp only [show ¬ (2 : Int) = 0 by decide, if_false] at CM
                rw [← hF] at CM
                obtain ⟨fq, hfq⟩ : ∃ fq, fq = zeroQ := ⟨_, rfl⟩
                rw [← hfq] at CM
                obtain ⟨y0, y1, y2, l5⟩ := fq
                simp only at CM
                clear e0 CME hF hfq
                go_wp2_with fail
                refine CM.out.mono ?_
                rintro e ws ⟨vs, u5, rfl, hos, hu5, hbs⟩
                obtain ⟨ub, uc, uq, rfl, ob, oc, oq⟩ := hos
                obtain ⟨F1, f1, rfl, _⟩ := ob.form
                obtain ⟨F2, f2, rfl, _⟩ := oc.form
                obtain ⟨F3, f3, rfl, _⟩ := oq.form
                obtain ⟨A5, d5, rfl⟩ := hu5.form
                have hsz := KA.out.size
                have MO := bal (bal (brefl ws) (.cells #[.int .i64 F.dep, .int .i64 F.nxt, .slice F1 F.bl.length f1, .slice F2 F.ca.length f2, .slice F3 F.qu.length f3] 28)) (.cells #[.int .i64 y0, .int .i64 y1, .int .i64 y2, .slice A5 l5.length d5] 39)
                have OB := hide ((ob.mono hsz).below MO)
                have OC := hide ((oc.mono hsz).below MO)
                have OQ := hide ((oq.mono hsz).below MO)
                have CB := hide ((Box.new ws 28 #[.int .i64 F.dep, .int .i64 F.nxt, .slice F1 F.bl.length f1, .slice F2 F.ca.length f2, .slice F3 F.qu.length f3]).more (.cells #[.int .i64 y0, .int .i64 y1, .int .i64 y2, .slice A5 l5.length d5] 39))
                have KK := hide (btrans hbs MO)
                clear hbs ob oc oq MO hu5
                go_upto_region 27 with fail
                obtain ⟨cb, hcb⟩ : ∃ cb, cb = ws.heap.size := ⟨_, rfl⟩
                rw [← hcb] at CB ⊢
                generalize (ws.alloc (.cells #[.int .i64 F.dep, .int .i64 F.nxt, .slice F1 F.bl.length f1, .slice F2 F.ca.length f2, .slice F3 F.qu.length f3] 28)).alloc (.cells #[.int .i64 y0, .int .i64 y1, .int .i64 y2, .slice A5 l5.length d5] 39) = wg at *
                clear hcb a0 a1 a2 a3
                have a3 := (AB.out.below KK.out).cell 3
                simp at a3
                go_wp2
                refine ⟨?_, ?measure⟩
                iterate 70 (first | apply Exists.intro | skip)
                refine ⟨?rel, rfl⟩
                case rel => exact ⟨k + 1, D, wf, by omega, by go_num, hide (P0.out.mono (by omega)), IV, hide ⟨_, _, _, LW.out.on KK.out⟩⟩
                case measure => simp [intOf]; omega
            · have hd4 : (x0 == 4) = false := by simpa using h4
              have hd5 : (x0 != 4) = true := by simpa using h4
              clear h4
              have CM := hide (complete_any _ D (x3 % 4) true wa IN.out BIG.out)
              unfold DqR at CM
              have CME := hide (cm4 (p := x3 % 4) P0.out (by omega))
              by_cases hn : (x3 % 4) < (D.qu.length : Int)
              · have e0 : cmE D (x3 % 4) = 0 := by rw [CME.out, if_pos hn]
                obtain ⟨F, hF⟩ : ∃ F, F = cmD D (x3 % 4).toNat true := ⟨_, rfl⟩
                have PF := hide (show P4 F (41 + (k + 1)) by rw [hF]; exact (p4_cm P0.out (by omega)).mono (by omega))
                have IFA := hide (show Iv B0 wf F by rw [hF]; exact IV.out.cm (by omega))
                have hn1 : decide ((x3 % 4) < (D.qu.length : Int)) = true := decide_eq_true hn
                rw [e0] at CM
                simp only [if_true] at CM
                rw [← hF] at CM
                generalize cmQ D (x3 % 4).toNat true = fq at *
                obtain ⟨y0, y1, y2, l5⟩ := fq
                simp only at CM
                clear e0 CME hF
                go_wp2_with fail
                refine CM.out.mono ?_
                rintro e ws ⟨vs, u5, rfl, hos, hu5, hbs⟩
                obtain ⟨ub, uc, uq, rfl, ob, oc, oq⟩ := hos
                obtain ⟨F1, f1, rfl, _⟩ := ob.form
                obtain ⟨F2, f2, rfl, _⟩ := oc.form
                obtain ⟨F3, f3, rfl, _⟩ := oq.form
                obtain ⟨A5, d5, rfl⟩ := hu5.form
                have hsz := KA.out.size
                have MO := bal (bal (brefl ws) (.cells #[.int .i64 F.dep, .int .i64 F.nxt, .slice F1 F.bl.length f1, .slice F2 F.ca.length f2, .slice F3 F.qu.length f3] 28)) (.cells #[.int .i64 y0, .int .i64 y1, .int .i64 y2, .slice A5 l5.length d5] 39)
                have OB := hide ((ob.mono hsz).below MO)
                have OC := hide ((oc.mono hsz).below MO)
                have OQ := hide ((oq.mono hsz).below MO)
                have CB := hide ((Box.new ws 28 #[.int .i64 F.dep, .int .i64 F.nxt, .slice F1 F.bl.length f1, .slice F2 F.ca.length f2, .slice F3 F.qu.length f3]).more (.cells #[.int .i64 y0, .int .i64 y1, .int .i64 y2, .slice A5 l5.length d5] 39))
                have KK := hide (btrans hbs MO)
                clear hbs ob oc oq MO hu5
                go_upto_region 27 with fail
                obtain ⟨cb, hcb⟩ : ∃ cb, cb = ws.heap.size := ⟨_, rfl⟩
                rw [← hcb] at CB ⊢
                generalize (ws.alloc (.cells #[.int .i64 F.dep, .int .i64 F.nxt, .slice F1 F.bl.length f1, .slice F2 F.ca.length f2, .slice F3 F.qu.length f3] 28)).alloc (.cells #[.int .i64 y0, .int .i64 y1, .int .i64 y2, .slice A5 l5.length d5] 39) = wg at *
                clear hcb a0 a1 a2 a3
                have a3 := (AB.out.below KK.out).cell 3
                simp at a3
                obtain ⟨c0, c1, c2, c3, c4⟩ := box5_cells (W' := wg) CB.out
                have LG := hide (LW.out.on KK.out)
                obtain ⟨b0, b1, b2, b3, b4⟩ := box5_cells (W' := wg) LG.out.box
                have fb0 := LG.out.box.frozen 0
                have fb1 := LG.out.box.frozen 1
                have fb2 := LG.out.box.frozen 2
                have fb3 := LG.out.box.frozen 3
                have fb4 := LG.out.box.frozen 4
                clear x0' x1' x2' x3' x4'
                go_wp2
                have LS := hide (LG.out.dev HG.out F OB.out OC.out OQ.out)
                refine ⟨?_, ?measure⟩
                iterate 70 (first | apply Exists.intro | skip)
                refine ⟨?rel, rfl⟩
                case rel => exact ⟨k + 1, F, wf, by omega, by go_num, PF, IFA, hide ⟨_, _, _, LS.out⟩⟩
                case measure => simp [intOf]; omega
              · have e0 : cmE D (x3 % 4) = 2 := by rw [CME.out, if_neg hn]
                obtain ⟨F, hF⟩ : ∃ F, F = zeroD := ⟨_, rfl⟩
                have hn1 : decide ((x3 % 4) < (D.qu.length : Int)) = false := decide_eq_false hn
                rw [e0] at CM
                simp only [show ¬ (2 : Int) = 0 by decide, if_false] at CM
                rw [← hF] at CM
                obtain ⟨fq, hfq⟩ : ∃ fq, fq = zeroQ := ⟨_, rfl⟩
                rw [← hfq] at CM
                obtain ⟨y0, y1, y2, l5⟩ := fq
                simp only at CM
                clear e0 CME hF hfq
                go_wp2_with fail
                refine CM.out.mono ?_
                rintro e ws ⟨vs, u5, rfl, hos, hu5, hbs⟩
                obtain ⟨ub, uc, uq, rfl, ob, oc, oq⟩ := hos
                obtain ⟨F1, f1, rfl, _⟩ := ob.form
                obtain ⟨F2, f2, rfl, _⟩ := oc.form
                obtain ⟨F3, f3, rfl, _⟩ := oq.form
                obtain ⟨A5, d5, rfl⟩ := hu5.form
                have hsz := KA.out.size
                have MO := bal (bal (brefl ws) (.cells #[.int .i64 F.dep, .int .i64 F.nxt, .slice F1 F.bl.length f1, .slice F2 F.ca.length f2, .slice F3 F.qu.length f3] 28)) (.cells #[.int .i64 y0, .int .i64 y1, .int .i64 y2, .slice A5 l5.length d5] 39)
                have OB := hide ((ob.mono hsz).below MO)
                have OC := hide ((oc.mono hsz).below MO)
                have OQ := hide ((oq.mono hsz).below MO)
                have CB := hide ((Box.new ws 28 #[.int .i64 F.dep, .int .i64 F.nxt, .slice F1 F.bl.length f1, .slice F2 F.ca.length f2, .slice F3 F.qu.length f3]).more (.cells #[.int .i64 y0, .int .i64 y1, .int .i64 y2, .slice A5 l5.length d5] 39))
                have KK := hide (btrans hbs MO)
                clear hbs ob oc oq MO hu5
                go_upto_region 27 with fail
                obtain ⟨cb, hcb⟩ : ∃ cb, cb = ws.heap.size := ⟨_, rfl⟩
                rw [← hcb] at CB ⊢
                generalize (ws.alloc (.cells #[.int .i64 F.dep, .int .i64 F.nxt, .slice F1 F.bl.length f1, .slice F2 F.ca.length f2, .slice F3 F.qu.length f3] 28)).alloc (.cells #[.int .i64 y0, .int .i64 y1, .int .i64 y2, .slice A5 l5.length d5] 39) = wg at *
                clear hcb a0 a1 a2 a3
                have a3 := (AB.out.below KK.out).cell 3
                simp at a3
                go_wp2
                refine ⟨?_, ?measure⟩
                iterate 70 (first | apply Exists.intro | skip)
                refine ⟨?rel, rfl⟩
                case rel => exact ⟨k + 1, D, wf, by omega, by go_num, hide (P0.out.mono (by omega)), IV, hide ⟨_, _, _, LW.out.on KK.out⟩⟩
                case measure => simp [intOf]; omega
        · obtain rfl : k = L2.length := by omega
          clear hlt hk
          have hk0c := chk_of P0.out.vd
          have S1 := hide (crash_any _ D A3 ps c3 wr LW0.out.is P0.out.big (RP.out.below LW0.out.below) (by omega))
          unfold DvR2 at S1
          rw [hk0c] at S1
          simp only [if_true] at S1
          have hbl := P0.out.bl
          obtain ⟨Fc, hFc⟩ : ∃ Fc, Fc = crD D ps := ⟨_, rfl⟩
          rw [← hFc] at S1
          have CT := hide (fun (i : Nat) (hi : i < 4) (hw : wf i = false) => (show ctD Fc (i : Int) = bAt B0 i by rw [hFc]; exact IV.out.ct P0.out.vd (by omega) hw))
          have BG := hide (show Big Fc by rw [hFc]; exact big_crD P0.out.vd)
          clear hFc hk0c hbl
          obtain ⟨x0, x1, x2, x3, x4⟩ := box5_cells (W' := wr) LW0.out.box
          go_wp2_with fail
          refine S1.out.mono ?_
          rintro e w5 ⟨v1, rfl, ho1, hb5⟩
          obtain ⟨ub, uc, uq, rfl, ob1, oc1, oq1⟩ := ho1
          obtain ⟨P1, p1, rfl, _⟩ := ob1.form
          obtain ⟨P2, p2, rfl, _⟩ := oc1.form
          obtain ⟨P3, p3, rfl, _⟩ := oq1.form
          have MO := bal (brefl w5) (.cells #[.int .i64 Fc.dep, .int .i64 Fc.nxt, .slice P1 Fc.bl.length p1, .slice P2 Fc.ca.length p2, .slice P3 Fc.qu.length p3] 28)
          have INC := hide ((DevOwn.is (B := wr.heap.size) (w := w5) (D := Fc) ⟨_, _, _, rfl, ob1, oc1, oq1⟩).below MO)
          have BC := hide (Box.new w5 28 #[.int .i64 Fc.dep, .int .i64 Fc.nxt, .slice P1 Fc.bl.length p1, .slice P2 Fc.ca.length p2, .slice P3 Fc.qu.length p3])
          have L8 := hide (LW0.out.on (btrans hb5 MO))
          clear ob1 oc1 oq1 hb5 MO x0 x1 x2 x3 x4 S1 LW0 P0 IV
          go_upto_region 34 with fail
          obtain ⟨gc, hgc⟩ : ∃ gc, gc = w5.heap.size := ⟨_, rfl⟩
          rw [← hgc] at BC ⊢
          generalize w5.alloc (.cells #[.int .i64 Fc.dep, .int .i64 Fc.nxt, .slice P1 Fc.bl.length p1, .slice P2 Fc.ca.length p2, .slice P3 Fc.qu.length p3] 28) = w8 at *
          clear hgc
          go_loopw [22, 123] (fun _ i wr => ∃ k : Nat, k ≤ 4 ∧ i = .int .i64 k ∧ Hid (Below w8.heap.size w8 wr)) (fun _ i _ => 4 - (intOf i).toNat)
          case atStart => exact ⟨0, Nat.zero_le _, rfl, hide (brefl _)⟩
          case round =>
            obtain ⟨k, hk, rfl, KW⟩ := hrel
            by_cases hlt : k < 4
            · have hlt1 : (k : Int) < 4 := by omega
              have hlt2 : ¬ (4 : Int) ≤ (k : Int) := by omega
              have hk0 : (0 : Int) ≤ (k : Int) := by omega
              have hown := L8.out.own k hlt
              rw [CB0.out k] at hown
              have HL := hide (show (bAt B0 k).length ≤ 9223372036854775807 by rw [E32.out k hlt]; decide)
              obtain ⟨A8, d8, e8⟩ := hown.form
              rw [e8] at hown
              have Q8 := hide (fun W (hb : Below w8.heap.size w8 W) => (bs_own hown).below hb)
              have CE := hide (fun W (hb : Below w8.heap.size w8 W) => (by
                have a := L8.out.on hb
                have p := BC.out.below hb
                exact ⟨arr_at4 (f := wf) a.arr hlt, p.cell 0, p.cell 1, p.cell 2, p.cell 3, p.cell 4, (was_at4 a.was hlt).trans (by rw [e8])⟩ : (fun W => W.cell? ⟨ob, k, none⟩ = some (.bool (wf k)) ∧ W.cell? ⟨gc, 0, none⟩ = some (.int .i64 Fc.dep) ∧ W.cell? ⟨gc, 1, none⟩ = some (.int .i64 Fc.nxt) ∧ W.cell? ⟨gc, 2, none⟩ = some (.slice P1 Fc.bl.length p1) ∧ W.cell? ⟨gc, 3, none⟩ = some (.slice P2 Fc.ca.length p2) ∧ W.cell? ⟨gc, 4, none⟩ = some (.slice P3 Fc.qu.length p3) ∧ W.cell? ⟨wb, k, none⟩ = some (.slice A8 (bAt B0 k).length d8)) W))
              have CD := hide (fun (hw : wf k = false) W (hb : Below w8.heap.size w8 W) => (show Calls Try.prog 19 _ W (ByR (bAt B0 k) W) by rw [← CT.out k hlt hw]; exact contentD_any _ Fc (k : Int) W (INC.out.below hb) BG.out))
              unfold ByR at CD
              clear hown e8
              go_upto_region 36 with fail
              cases hbo : wf k with
              | true =>
                rw [hbo] at CE
                clear CD Q8 hbo
                generalize bAt B0 k = l8 at *
                refine wp_region_noPanic ?_
                refine wp_region_held_drew (S := (fun W => W.cell? ⟨ob, k, none⟩ = some (.bool true) ∧ W.cell? ⟨gc, 0, none⟩ = some (.int .i64 Fc.dep) ∧ W.cell? ⟨gc, 1, none⟩ = some (.int .i64 Fc.nxt) ∧ W.cell? ⟨gc, 2, none⟩ = some (.slice P1 Fc.bl.length p1) ∧ W.cell? ⟨gc, 3, none⟩ = some (.slice P2 Fc.ca.length p2) ∧ W.cell? ⟨gc, 4, none⟩ = some (.slice P3 Fc.qu.length p3) ∧ W.cell? ⟨wb, k, none⟩ = some (.slice A8 l8.length d8))) (by kernel_rfl) ?_ (fun hHeld => ?_)
                · exact CE.out _ (btrans KW.out (below_drew (brefl wr)))
                have KK := hide (btrans KW.out (below_drew (brefl wr)))
                generalize wr.drew = wz at *
                refine wpAnyH_take (i := 0) (oi := ⟨some 126, _, _, _, _, _⟩) (v := ?_) rfl (by kernel_rfl) (by kernel_rfl) (by kernel_rfl) (fun _ _ _ h => h) (Or.inl ⟨by kernel_rfl, ?_⟩) (by assumption) ?_
                rotate_left 1
                · (intro w hSw; (try dsimp only at hSw); go_simp) <;> (with_reducible rfl)
                (try simp only [Act.put, List.setIfInBounds_toArray, List.set_cons_succ, List.set_cons_zero])
                refine wpAnyH_take (i := 1) (oi := ⟨some 127, _, _, _, _, _⟩) (v := ?_) rfl (by kernel_rfl) (by kernel_rfl) (by kernel_rfl) (fun _ _ _ h => h) (Or.inl ⟨by kernel_rfl, ?_⟩) (by assumption) ?_
                rotate_left 1
                · (intro w hSw; (try dsimp only at hSw); go_simp) <;> (with_reducible rfl)
                (try simp only [Act.put, List.setIfInBounds_toArray, List.set_cons_succ, List.set_cons_zero])
                refine wpAnyH_take (i := 2) (oi := ⟨some 128, _, _, _, _, _⟩) (v := ?_) rfl (by kernel_rfl) (by kernel_rfl) (by kernel_rfl) (fun _ _ _ h => h) (Or.inl ⟨by kernel_rfl, ?_⟩) (by assumption) ?_
                rotate_left 1
                · (intro w hSw; (try dsimp only at hSw); go_simp) <;> (with_reducible rfl)
                (try simp only [Act.put, List.setIfInBounds_toArray, List.set_cons_succ, List.set_cons_zero])
                refine wpAnyH_take (i := 3) (oi := ⟨some 129, _, _, _, _, _⟩) (v := ?_) rfl (by kernel_rfl) (by kernel_rfl) (by kernel_rfl) (fun _ _ _ h => h) (Or.inl ⟨by kernel_rfl, ?_⟩) (by assumption) ?_
                rotate_left 1
                · (intro w hSw; (try dsimp only at hSw); go_simp) <;> (with_reducible rfl)
                (try simp only [Act.put, List.setIfInBounds_toArray, List.set_cons_succ, List.set_cons_zero])
                refine wpAnyH_take (i := 4) (oi := ⟨some 130, _, _, _, _, _⟩) (v := ?_) rfl (by kernel_rfl) (by kernel_rfl) (by kernel_rfl) (fun _ _ _ h => h) (Or.inl ⟨by kernel_rfl, ?_⟩) (by assumption) ?_
                rotate_left 1
                · (intro w hSw; (try dsimp only at hSw); go_simp) <;> (with_reducible rfl)
                (try simp only [Act.put, List.setIfInBounds_toArray, List.set_cons_succ, List.set_cons_zero])
                refine wpAnyH_take (i := 5) (oi := ⟨some 131, _, _, _, _, _⟩) (v := undef) rfl (by kernel_rfl) (by kernel_rfl) (by kernel_rfl) (fun _ _ _ h => h) (Or.inr ⟨by kernel_rfl, rfl⟩) (by assumption) ?_
                (try simp only [Act.put, List.setIfInBounds_toArray, List.set_cons_succ, List.set_cons_zero])
                refine wpAnyH_take (i := 6) (oi := ⟨some 132, _, _, _, _, _⟩) (v := undef) rfl (by kernel_rfl) (by kernel_rfl) (by kernel_rfl) (fun _ _ _ h => h) (Or.inr ⟨by kernel_rfl, rfl⟩) (by assumption) ?_
                (try simp only [Act.put, List.setIfInBounds_toArray, List.set_cons_succ, List.set_cons_zero])
                refine wpAnyH_take (i := 7) (oi := ⟨some 133, _, _, _, _, _⟩) (v := undef) rfl (by kernel_rfl) (by kernel_rfl) (by kernel_rfl) (fun _ _ _ h => h) (Or.inr ⟨by kernel_rfl, rfl⟩) (by assumption) ?_
                (try simp only [Act.put, List.setIfInBounds_toArray, List.set_cons_succ, List.set_cons_zero])
                refine wpAnyH_take (i := 8) (oi := ⟨some 134, _, _, _, _, _⟩) (v := undef) rfl (by kernel_rfl) (by kernel_rfl) (by kernel_rfl) (fun _ _ _ h => h) (Or.inr ⟨by kernel_rfl, rfl⟩) (by assumption) ?_
                (try simp only [Act.put, List.setIfInBounds_toArray, List.set_cons_succ, List.set_cons_zero])
                refine wpAnyH_take (i := 9) (oi := ⟨some 135, _, _, _, _, _⟩) (v := undef) rfl (by kernel_rfl) (by kernel_rfl) (by kernel_rfl) (fun _ _ _ h => h) (Or.inr ⟨by kernel_rfl, rfl⟩) (by assumption) ?_
                (try simp only [Act.put, List.setIfInBounds_toArray, List.set_cons_succ, List.set_cons_zero])
                refine wpAnyH_take (i := 10) (oi := ⟨some 136, _, _, _, _, _⟩) (v := undef) rfl (by kernel_rfl) (by kernel_rfl) (by kernel_rfl) (fun _ _ _ h => h) (Or.inr ⟨by kernel_rfl, rfl⟩) (by assumption) ?_
                (try simp only [Act.put, List.setIfInBounds_toArray, List.set_cons_succ, List.set_cons_zero])
                refine wpAnyH_take (i := 11) (oi := ⟨some 137, _, _, _, _, _⟩) (v := undef) rfl (by kernel_rfl) (by kernel_rfl) (by kernel_rfl) (fun _ _ _ h => h) (Or.inr ⟨by kernel_rfl, rfl⟩) (by assumption) ?_
                (try simp only [Act.put, List.setIfInBounds_toArray, List.set_cons_succ, List.set_cons_zero])
                refine wpAnyH_take (i := 12) (oi := ⟨some 138, _, _, _, _, _⟩) (v := undef) rfl (by kernel_rfl) (by kernel_rfl) (by kernel_rfl) (fun _ _ _ h => h) (Or.inr ⟨by kernel_rfl, rfl⟩) (by assumption) ?_
                (try simp only [Act.put, List.setIfInBounds_toArray, List.set_cons_succ, List.set_cons_zero])
                refine wpAnyH_take (i := 13) (oi := ⟨some 139, _, _, _, _, _⟩) (v := ?_) rfl (by kernel_rfl) (by kernel_rfl) (by kernel_rfl) (fun _ _ _ h => h) (Or.inl ⟨by kernel_rfl, ?_⟩) (by assumption) ?_
                rotate_left 1
                · (intro w hSw; (try dsimp only at hSw); go_simp) <;> (with_reducible rfl)
                (try simp only [Act.put, List.setIfInBounds_toArray, List.set_cons_succ, List.set_cons_zero])
                refine wpAnyH_done (by kernel_rfl) ?_ _
                refine NoPanic.normal ?_
                go_wp2
                go_roundw
                case rel => exact ⟨k + 1, by omega, by go_num, KK⟩
                case measure => simp [intOf]; omega
              | false =>
                rw [hbo] at CE
                replace CD := hide (CD.out hbo)
                clear hbo
                generalize bAt B0 k = l8 at *
                refine wp_region_noPanic ?_
                refine wp_region_held_drew (S := (fun W => W.cell? ⟨ob, k, none⟩ = some (.bool false) ∧ W.cell? ⟨gc, 0, none⟩ = some (.int .i64 Fc.dep) ∧ W.cell? ⟨gc, 1, none⟩ = some (.int .i64 Fc.nxt) ∧ W.cell? ⟨gc, 2, none⟩ = some (.slice P1 Fc.bl.length p1) ∧ W.cell? ⟨gc, 3, none⟩ = some (.slice P2 Fc.ca.length p2) ∧ W.cell? ⟨gc, 4, none⟩ = some (.slice P3 Fc.qu.length p3) ∧ W.cell? ⟨wb, k, none⟩ = some (.slice A8 l8.length d8))) (by kernel_rfl) ?_ (fun hHeld => ?_)
                · exact CE.out _ (btrans KW.out (below_drew (brefl wr)))
                have KK := hide (btrans KW.out (below_drew (brefl wr)))
                generalize wr.drew = wz at *
                replace Q8 := hide (Q8.out _ KK.out)
                refine wpAnyH_take (i := 0) (oi := ⟨some 126, _, _, _, _, _⟩) (v := ?_) rfl (by kernel_rfl) (by kernel_rfl) (by kernel_rfl) (fun _ _ _ h => h) (Or.inl ⟨by kernel_rfl, ?_⟩) (by assumption) ?_
                rotate_left 1
                · (intro w hSw; (try dsimp only at hSw); go_simp) <;> (with_reducible rfl)
                (try simp only [Act.put, List.setIfInBounds_toArray, List.set_cons_succ, List.set_cons_zero])
                refine wpAnyH_take (i := 1) (oi := ⟨some 127, _, _, _, _, _⟩) (v := ?_) rfl (by kernel_rfl) (by kernel_rfl) (by kernel_rfl) (fun _ _ _ h => h) (Or.inl ⟨by kernel_rfl, ?_⟩) (by assumption) ?_
                rotate_left 1
                · (intro w hSw; (try dsimp only at hSw); go_simp) <;> (with_reducible rfl)
                (try simp only [Act.put, List.setIfInBounds_toArray, List.set_cons_succ, List.set_cons_zero])
                refine wpAnyH_take (i := 2) (oi := ⟨some 128, _, _, _, _, _⟩) (v := ?_) rfl (by kernel_rfl) (by kernel_rfl) (by kernel_rfl) (fun _ _ _ h => h) (Or.inl ⟨by kernel_rfl, ?_⟩) (by assumption) ?_
                rotate_left 1
                · (intro w hSw; (try dsimp only at hSw); go_simp) <;> (with_reducible rfl)
                (try simp only [Act.put, List.setIfInBounds_toArray, List.set_cons_succ, List.set_cons_zero])
                refine wpAnyH_take (i := 3) (oi := ⟨some 129, _, _, _, _, _⟩) (v := ?_) rfl (by kernel_rfl) (by kernel_rfl) (by kernel_rfl) (fun _ _ _ h => h) (Or.inl ⟨by kernel_rfl, ?_⟩) (by assumption) ?_
                rotate_left 1
                · (intro w hSw; (try dsimp only at hSw); go_simp) <;> (with_reducible rfl)
                (try simp only [Act.put, List.setIfInBounds_toArray, List.set_cons_succ, List.set_cons_zero])
                refine wpAnyH_take (i := 4) (oi := ⟨some 130, _, _, _, _, _⟩) (v := ?_) rfl (by kernel_rfl) (by kernel_rfl) (by kernel_rfl) (fun _ _ _ h => h) (Or.inl ⟨by kernel_rfl, ?_⟩) (by assumption) ?_
                rotate_left 1
                · (intro w hSw; (try dsimp only at hSw); go_simp) <;> (with_reducible rfl)
                (try simp only [Act.put, List.setIfInBounds_toArray, List.set_cons_succ, List.set_cons_zero])
                refine wpAnyH_take (i := 5) (oi := ⟨some 131, _, _, _, _, _⟩) (v := ?_) rfl (by kernel_rfl) (by kernel_rfl) (by kernel_rfl) (fun _ _ _ h => h) (Or.inl ⟨by kernel_rfl, ?_⟩) (by assumption) ?_
                rotate_left 1
                · (intro w hSw; (try dsimp only at hSw); go_simp) <;> (with_reducible rfl)
                (try simp only [Act.put, List.setIfInBounds_toArray, List.set_cons_succ, List.set_cons_zero])
                refine wpAnyH_take (i := 6) (oi := ⟨some 132, _, _, _, _, _⟩) (v := ?_) rfl (by kernel_rfl) (by kernel_rfl) (by kernel_rfl) (fun _ _ _ h => h) (Or.inl ⟨by kernel_rfl, ?_⟩) (by assumption) ?_
                rotate_left 1
                · (intro w hSw; (try dsimp only at hSw); go_simp) <;> (with_reducible rfl)
                (try simp only [Act.put, List.setIfInBounds_toArray, List.set_cons_succ, List.set_cons_zero])
                refine wpAnyH_take (i := 8) (oi := ⟨some 134, _, _, _, _, _⟩) (v := ?_) rfl (by kernel_rfl) (by kernel_rfl) (by kernel_rfl) (fun _ _ _ h => h) (Or.inl ⟨by kernel_rfl, ?_⟩) (by assumption) ?_
                rotate_left 1
                · (intro w hSw; (try dsimp only at hSw); go_simp) <;> (with_reducible rfl)
                (try simp only [Act.put, List.setIfInBounds_toArray, List.set_cons_succ, List.set_cons_zero])
                refine wpAnyH_take (i := 9) (oi := ⟨some 135, _, _, _, _, _⟩) (v := ?_) rfl (by kernel_rfl) (by kernel_rfl) (by kernel_rfl) (fun _ _ _ h => h) (Or.inl ⟨by kernel_rfl, ?_⟩) (by assumption) ?_
                rotate_left 1
                · (intro w hSw; (try dsimp only at hSw); go_simp) <;> (with_reducible rfl)
                (try simp only [Act.put, List.setIfInBounds_toArray, List.set_cons_succ, List.set_cons_zero])
                refine wpAnyH_take (i := 10) (oi := ⟨some 136, _, _, _, _, _⟩) (v := ?_) rfl (by kernel_rfl) (by kernel_rfl) (by kernel_rfl) (fun _ _ _ h => h) (Or.inl ⟨by kernel_rfl, ?_⟩) (by assumption) ?_
                rotate_left 1
                · (intro w hSw; (try dsimp only at hSw); go_simp) <;> (with_reducible rfl)
                (try simp only [Act.put, List.setIfInBounds_toArray, List.set_cons_succ, List.set_cons_zero])
                refine wpAnyH_ready (rs := [7]) (by kernel_rfl) (by simp) ?_
                refine AllReadyH.cons (o := _) rfl (fun K' hK => ?_) AllReadyH.nil
                go_simp
                refine (CD.out _ KK.out).mono ?_
                rintro e y7 ⟨u, rfl, hu, hb⟩
                obtain ⟨A7, d7, rfl⟩ := hu.form
                have Q1 := hide (bs_own hu)
                replace KK := hide (btrans KK.out hb)
                replace Q8 := hide (Q8.out.below hb)
                clear hu hb
                refine hK.out _ _ ?_ (fun hHeld => ?_)
                · exact CE.out _ KK.out
                clear hK K'
                (try simp only [Act.put, List.setIfInBounds_toArray, List.set_cons_succ, List.set_cons_zero])
                refine wpAnyH_ready (rs := [11]) (by kernel_rfl) (by simp) ?_
                refine AllReadyH.cons (o := _) rfl (fun K' hK => ?_) AllReadyH.nil
                go_simp
                refine (sbytes _ _ _ _ _ _ Q1.out Q8.out HL.out).mono ?_
                rintro e y11 ⟨rfl, hb⟩
                replace KK := hide (btrans KK.out hb)
                clear hb Q1 Q8
                refine hK.out _ _ ?_ (fun hHeld => ?_)
                · exact CE.out _ KK.out
                clear hK K'
                (try simp only [Act.put, List.setIfInBounds_toArray, List.set_cons_succ, List.set_cons_zero])
                refine wpAnyH_take (i := 12) (oi := ⟨some 138, _, _, _, _, _⟩) (v := ?_) rfl (by kernel_rfl) (by kernel_rfl) (by kernel_rfl) (fun _ _ _ h => h) (Or.inl ⟨by kernel_rfl, ?_⟩) (by assumption) ?_
                rotate_left 1
                · (intro w hSw; (try dsimp only at hSw); go_simp) <;> (with_reducible rfl)
                (try simp only [Act.put, List.setIfInBounds_toArray, List.set_cons_succ, List.set_cons_zero])
                refine wpAnyH_take (i := 13) (oi := ⟨some 139, _, _, _, _, _⟩) (v := ?_) rfl (by kernel_rfl) (by kernel_rfl) (by kernel_rfl) (fun _ _ _ h => h) (Or.inl ⟨by kernel_rfl, ?_⟩) (by assumption) ?_
                rotate_left 1
                · (intro w hSw; (try dsimp only at hSw); go_simp) <;> (with_reducible rfl)
                (try simp only [Act.put, List.setIfInBounds_toArray, List.set_cons_succ, List.set_cons_zero])
                refine wpAnyH_done (by kernel_rfl) ?_ _
                refine NoPanic.normal ?_
                go_wp2
                go_roundw
                case rel => exact ⟨k + 1, by omega, by go_num, KK⟩
                case measure => simp [intOf]; omega
            · obtain rfl : k = 4 := by omega
              have HB := hide (btrans L8.out.below KW.out)
              go_wp2
              go_ret
              exact ⟨rfl, HB.out⟩
end Go.Proofs.Ytnegigcjeoenmaa.Dv
