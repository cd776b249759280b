import Derived.Test.YtflplldamefhoaaLCk
import Derived.Test.YtflplldamefhoaaR10
namespace Go.Proofs.Ytflplldamefhoaa.Bd
open Go Go.RowKit
set_option linter.unusedVariables false
set_option maxRecDepth 100000 in
set_option maxHeartbeats 8000000 in
theorem law_takes (p : Pm) (v : Nat → Value) (L : Fl) (f : Int) (w : World) (hp : Pr p) (hr : RdZ w v L) (hw : ∀ k, k < 5 → ∀ f ∈ L k, i64r f) (hf1 : i64r f) : Calls Try.prog 8 #[.agg (znC p v), .int .i64 f] w fun e w' => e = .returned (.bool true) ∧ Below w.heap.size w w' := by
  have X := hide (Box.new w 25 (znC p v))
  have K0 := hide (bal (brefl w) (.cells (znC p v) 25))
  have AW := hide (fun w1 => awake_any w1)
  have FW := hide (fun w1 (hb : Below w.heap.size w w1) => few_any p v L w1 (hr.below hb))
  obtain ⟨g, hg⟩ : ∃ g, g = w.heap.size := ⟨_, rfl⟩
  obtain ⟨W0, hW0⟩ : ∃ W0, W0 = (w.alloc (.cells (znC p v) 25)) := ⟨_, rfl⟩
  rw [← hg, ← hW0] at X
  rw [← hW0] at K0
  by_cases hf : few L
  · rw [decide_eq_true hf] at FW
    have HZ := hide (zin_few hp hr hw hf)
    have CC := hide (fun w1 (hb : Below w.heap.size w w1) => take_any p v L f hf1 w1 (HZ.out.below hb))
    have CR := hide (fun w1 (hb : Below w.heap.size w w1) => rtake_any p v L f hf1 w1 (HZ.out.below hb))
    have HPP := hide (show tkE p L f = 0 → par p from fun h => by unfold tkE at h; by_cases hc : chk p L = 0; exact (chk_zero.1 hc).1; rw [if_pos hc] at h; exact absurd h hc)
    have HSS := hide (show tkE p L f = 0 → ∀ x, (InS L x ∧ x ≠ f) ↔ (InS L x ∧ x ≠ f) from fun _ x => Iff.rfl)
    unfold ZE at CC
    unfold RE at CR
    generalize tkE p L f = er at *
    have IC := hide (fun w1 (hb : Below w.heap.size w w1) => isfree_any p v L f hf1 w1 (HZ.out.below hb))
    have IR := hide (fun w1 (hb : Below w.heap.size w w1) => risfree_any p v L f hf1 w1 (HZ.out.below hb))
    generalize isF p L f = fb at *
    clear hp hr hw hf
    go_enter Try.func8, Try.ntmps8
    go_upto_region 1 with fail
    rw [← hg, ← hW0]
    clear hg hW0
    go_upto_region 3 with (first | (go_at_call 14; refine (AW.out _).mono ?_; rintro e w1 ⟨rfl, hb⟩; replace X := hide (X.out.below hb); replace K0 := hide (K0.out.trans (hb.mono K0.out.size)); clear hb; obtain ⟨y0, y1, y2, y3, y4, y5, y6, y7, y8, y9⟩ := box_all X.out) | (go_at_call 15; refine (FW.out _ K0.out).mono ?_; rintro e w2 ⟨rfl, hb⟩; replace X := hide (X.out.below hb); replace K0 := hide (K0.out.trans (hb.mono K0.out.size)); clear hb))
    clear y0 y1 y2 y3 y4 y5 y6 y7 y8 y9 AW FW
    go_wp2_with (first | (refine wpList_load_row rfl 25 _ rfl g rfl 25 (znC p v) (0, 0) _ X.out Try.underlying25 rfl (by kernel_rfl) ?_) | fail)
    refine (CC.out _ K0.out).mono ?_
    rintro e w3 ⟨q, v1, L1, rfl, o1, hb, zg⟩
    go_upto_region 4 with (refine wpList_store_row rfl 25 _ _ rfl w3.heap.size (znC q v1) rfl rfl 25 (znC p0 nv) (Box.new w3 25 _) (by kernel_rfl) rfl (one_zone o1.rd) ?_)
    have ee : (w3.alloc (.cells #[.int .i64 0, .int .i64 0, .int .i64 0, .int .i64 0, .int .i64 0, .slice none 0 0, .slice none 0 0, .slice none 0 0, .slice none 0 0, .slice none 0 0] 25)).setRow w3.heap.size (znC q v1) = w3.alloc (.cells (znC q v1) 25) := setRow_new w3 _ _ 25
    rw [ee]
    obtain ⟨g1, hg1⟩ : ∃ g, g = w3.heap.size := ⟨_, rfl⟩
    have M := bal (brefl w3) (.cells (znC q v1) 25)
    have X1 := hide (show Box (w3.alloc (.cells (znC q v1) 25)) g1 25 (znC q v1) by rw [hg1]; exact Box.new w3 25 _)
    have O1 := hide (o1.below M)
    replace X := hide ((X.out.below hb).below M)
    replace K0 := hide ((K0.out.trans (hb.mono K0.out.size)).trans (M.mono (Nat.le_trans K0.out.size hb.size)))
    rw [← hg1]
    clear ee M hb o1 CC
    generalize w3.alloc (.cells (znC q v1) 25) = w4 at *
    clear hg1
    go_wp2_with (first | (refine wpList_load_row rfl 25 _ rfl g rfl 25 (znC p v) (0, 0) _ X.out Try.underlying25 rfl (by kernel_rfl) ?_) | fail)
    refine (CR.out _ K0.out).mono ?_
    rintro e w5 ⟨q2, v2, L2, rfl, o2, hb2, zq⟩
    obtain ⟨e1, e2, e3⟩ := agree HPP.out zg zq (fun _ _ => Iff.rfl)
    subst e1
    go_upto_region 5 with (refine wpList_store_row rfl 25 _ _ rfl w5.heap.size (znC q v2) rfl rfl 25 (znC p0 nv) (Box.new w5 25 _) (by kernel_rfl) rfl (one_zone o2.rd) ?_)
    have ee : (w5.alloc (.cells #[.int .i64 0, .int .i64 0, .int .i64 0, .int .i64 0, .int .i64 0, .slice none 0 0, .slice none 0 0, .slice none 0 0, .slice none 0 0, .slice none 0 0] 25)).setRow w5.heap.size (znC q v2) = w5.alloc (.cells (znC q v2) 25) := setRow_new w5 _ _ 25
    rw [ee]
    obtain ⟨g2, hg2⟩ : ∃ g, g = w5.heap.size := ⟨_, rfl⟩
    have M := bal (brefl w5) (.cells (znC q v2) 25)
    have X2 := hide (show Box (w5.alloc (.cells (znC q v2) 25)) g2 25 (znC q v2) by rw [hg2]; exact Box.new w5 25 _)
    have O2 := hide (o2.below M)
    replace X1 := hide ((X1.out.below hb2).below M)
    replace O1 := hide ((O1.out.below hb2).below M)
    replace X := hide ((X.out.below hb2).below M)
    replace K0 := hide ((K0.out.trans (hb2.mono K0.out.size)).trans (M.mono (Nat.le_trans K0.out.size hb2.size)))
    rw [← hg2]
    clear ee M hb2 o2 CR zg zq HPP HSS
    generalize w5.alloc (.cells (znC q v2) 25) = w6 at *
    clear hg2
    have SM := hide (fun w' (hb : Below w6.heap.size w6 w') => same_any q v1 v2 L1 L2 w' (O1.out.rd.below hb) (O2.out.rd.below hb) e2 e3)
    clear e2 e3
    go_wp2
    refine wp_region_noPanic ?_
    refine wp_region_held_drew (S := (fun W => Box W g 25 (znC p v) ∧ Box W g1 25 (znC q v1) ∧ Box W g2 25 (znC q v2))) (by kernel_rfl) ?_ (fun hHeld => ?_)
    · exact ⟨X.out.below (below_drewN (brefl _) 1), X1.out.below (below_drewN (brefl _) 1), X2.out.below (below_drewN (brefl _) 1)⟩
    replace X := hide hHeld.1
    replace X1 := hide hHeld.2.1
    replace X2 := hide hHeld.2.2
    have D := hide (show Below w6.heap.size w6 w6.drew from below_drewN (brefl _) 1)
    replace K0 := hide (K0.out.trans (D.out.mono K0.out.size))
    replace SM := hide (SM.out _ D.out)
    clear O1 O2 D
    generalize w6.drew = w7 at *
    refine wpAnyH_take (i := 0) (oi := ⟨some 29, _, _, _, _, _⟩) (v := ?_) rfl (by kernel_rfl) (by kernel_rfl) (by kernel_rfl) (fun _ _ _ h => h) (Or.inl ⟨by kernel_rfl, ?_⟩) (by assumption) ?_
    rotate_left 1
    · (intro w hSw; (try dsimp only at hSw); go_simp) <;> (with_reducible rfl)
    (try simp only [Act.put, List.setIfInBounds_toArray, List.set_cons_succ, List.set_cons_zero])
    refine wpAnyH_take (i := 1) (oi := ⟨some 30, _, _, _, _, _⟩) (v := ?_) rfl (by kernel_rfl) (by kernel_rfl) (by kernel_rfl) (fun _ _ _ h => h) (Or.inl ⟨by kernel_rfl, ?_⟩) (by assumption) ?_
    rotate_left 1
    · (intro w hSw; (try dsimp only at hSw); go_simp) <;> (with_reducible rfl)
    (try simp only [Act.put, List.setIfInBounds_toArray, List.set_cons_succ, List.set_cons_zero])
    refine wpAnyH_take (i := 2) (oi := ⟨some 31, _, _, _, _, _⟩) (v := ?_) rfl (by kernel_rfl) (by kernel_rfl) (by kernel_rfl) (fun _ _ _ h => h) (Or.inl ⟨by kernel_rfl, ?_⟩) (by assumption) ?_
    rotate_left 1
    · (intro w hSw; (try dsimp only at hSw); go_simp) <;> (with_reducible rfl)
    (try simp only [Act.put, List.setIfInBounds_toArray, List.set_cons_succ, List.set_cons_zero])
    refine wpAnyH_take (i := 3) (oi := ⟨some 32, _, _, _, _, _⟩) (v := ?_) rfl (by kernel_rfl) (by kernel_rfl) (by kernel_rfl) (fun _ _ _ h => h) (Or.inl ⟨by kernel_rfl, ?_⟩) (by assumption) ?_
    rotate_left 1
    · (intro w hSw; (try dsimp only at hSw); go_simp) <;> (with_reducible rfl)
    (try simp only [Act.put, List.setIfInBounds_toArray, List.set_cons_succ, List.set_cons_zero])
    refine wpAnyH_take (i := 4) (oi := ⟨some 33, _, _, _, _, _⟩) (v := .agg (znC q v1)) rfl (by kernel_rfl) (by kernel_rfl) (by kernel_rfl) (fun _ _ _ h => h) (Or.inl ⟨by kernel_rfl, ?_⟩) (by assumption) ?_
    · (intro w hSw; obtain ⟨y0, y1, y2, y3, y4, y5, y6, y7, y8, y9⟩ := box_all hSw.2.1; go_simp) <;> rfl
    (try simp only [Act.put, List.setIfInBounds_toArray, List.set_cons_succ, List.set_cons_zero])
    refine wpAnyH_take (i := 5) (oi := ⟨some 34, _, _, _, _, _⟩) (v := .agg (znC q v2)) rfl (by kernel_rfl) (by kernel_rfl) (by kernel_rfl) (fun _ _ _ h => h) (Or.inl ⟨by kernel_rfl, ?_⟩) (by assumption) ?_
    · (intro w hSw; obtain ⟨y0, y1, y2, y3, y4, y5, y6, y7, y8, y9⟩ := box_all hSw.2.2; go_simp) <;> rfl
    (try simp only [Act.put, List.setIfInBounds_toArray, List.set_cons_succ, List.set_cons_zero])
    refine wpAnyH_ready (rs := [6]) (by kernel_rfl) (by simp) ?_
    refine AllReadyH.cons (o := _) rfl (fun K' hK => ?_) AllReadyH.nil
    go_simp
    refine SM.out.mono ?_
    rintro e w8 ⟨rfl, hb⟩
    replace X := hide (X.out.below hb); replace X1 := hide (X1.out.below hb); replace X2 := hide (X2.out.below hb); replace K0 := hide (K0.out.trans (hb.mono K0.out.size)); clear hb
    refine hK.out _ _ ?_ (fun hHeld => ?_)
    · exact ⟨X.out, X1.out, X2.out⟩
    clear hK K'
    (try simp only [Act.put, List.setIfInBounds_toArray, List.set_cons_succ, List.set_cons_zero])
    refine wpAnyH_take (i := 7) (oi := ⟨some 36, _, _, _, _, _⟩) (v := ?_) rfl (by kernel_rfl) (by kernel_rfl) (by kernel_rfl) (fun _ _ _ h => h) (Or.inl ⟨by kernel_rfl, ?_⟩) (by assumption) ?_
    rotate_left 1
    · (intro w hSw; (try dsimp only at hSw); go_simp) <;> (with_reducible rfl)
    (try simp only [Act.put, List.setIfInBounds_toArray, List.set_cons_succ, List.set_cons_zero])
    refine wpAnyH_take (i := 8) (oi := ⟨some 37, _, _, _, _, _⟩) (v := ?_) rfl (by kernel_rfl) (by kernel_rfl) (by kernel_rfl) (fun _ _ _ h => h) (Or.inl ⟨by kernel_rfl, ?_⟩) (by assumption) ?_
    rotate_left 1
    · (intro w hSw; (try dsimp only at hSw); go_simp) <;> (with_reducible rfl)
    (try simp only [Act.put, List.setIfInBounds_toArray, List.set_cons_succ, List.set_cons_zero])
    refine wpAnyH_take (i := 9) (oi := ⟨some 38, _, _, _, _, _⟩) (v := .agg (znC p v)) rfl (by kernel_rfl) (by kernel_rfl) (by kernel_rfl) (fun _ _ _ h => h) (Or.inl ⟨by kernel_rfl, ?_⟩) (by assumption) ?_
    · (intro w hSw; obtain ⟨y0, y1, y2, y3, y4, y5, y6, y7, y8, y9⟩ := box_all hSw.1; go_simp) <;> rfl
    (try simp only [Act.put, List.setIfInBounds_toArray, List.set_cons_succ, List.set_cons_zero])
    refine wpAnyH_take (i := 10) (oi := ⟨some 39, _, _, _, _, _⟩) (v := ?_) rfl (by kernel_rfl) (by kernel_rfl) (by kernel_rfl) (fun _ _ _ h => h) (Or.inl ⟨by kernel_rfl, ?_⟩) (by assumption) ?_
    rotate_left 1
    · (intro w hSw; (try dsimp only at hSw); go_simp) <;> (with_reducible rfl)
    (try simp only [Act.put, List.setIfInBounds_toArray, List.set_cons_succ, List.set_cons_zero])
    refine wpAnyH_take (i := 12) (oi := ⟨some 41, _, _, _, _, _⟩) (v := .agg (znC p v)) rfl (by kernel_rfl) (by kernel_rfl) (by kernel_rfl) (fun _ _ _ h => h) (Or.inl ⟨by kernel_rfl, ?_⟩) (by assumption) ?_
    · (intro w hSw; obtain ⟨y0, y1, y2, y3, y4, y5, y6, y7, y8, y9⟩ := box_all hSw.1; go_simp) <;> rfl
    (try simp only [Act.put, List.setIfInBounds_toArray, List.set_cons_succ, List.set_cons_zero])
    refine wpAnyH_take (i := 13) (oi := ⟨some 42, _, _, _, _, _⟩) (v := ?_) rfl (by kernel_rfl) (by kernel_rfl) (by kernel_rfl) (fun _ _ _ h => h) (Or.inl ⟨by kernel_rfl, ?_⟩) (by assumption) ?_
    rotate_left 1
    · (intro w hSw; (try dsimp only at hSw); go_simp) <;> (with_reducible rfl)
    (try simp only [Act.put, List.setIfInBounds_toArray, List.set_cons_succ, List.set_cons_zero])
    refine wpAnyH_ready (rs := [11]) (by kernel_rfl) (by simp) ?_
    refine AllReadyH.cons (o := _) rfl (fun K' hK => ?_) AllReadyH.nil
    go_simp
    refine (IC.out _ K0.out).mono ?_
    rintro e w8 ⟨rfl, hb⟩
    replace X := hide (X.out.below hb); replace X1 := hide (X1.out.below hb); replace X2 := hide (X2.out.below hb); replace K0 := hide (K0.out.trans (hb.mono K0.out.size)); clear hb
    refine hK.out _ _ ?_ (fun hHeld => ?_)
    · exact ⟨X.out, X1.out, X2.out⟩
    clear hK K'
    (try simp only [Act.put, List.setIfInBounds_toArray, List.set_cons_succ, List.set_cons_zero])
    refine wpAnyH_ready (rs := [14]) (by kernel_rfl) (by simp) ?_
    refine AllReadyH.cons (o := _) rfl (fun K' hK => ?_) AllReadyH.nil
    go_simp
    refine (IR.out _ K0.out).mono ?_
    rintro e w8 ⟨rfl, hb⟩
    replace X := hide (X.out.below hb); replace X1 := hide (X1.out.below hb); replace X2 := hide (X2.out.below hb); replace K0 := hide (K0.out.trans (hb.mono K0.out.size)); clear hb
    refine hK.out _ _ ?_ (fun hHeld => ?_)
    · exact ⟨X.out, X1.out, X2.out⟩
    clear hK K'
    (try simp only [Act.put, List.setIfInBounds_toArray, List.set_cons_succ, List.set_cons_zero])
    refine wpAnyH_take (i := 15) (oi := ⟨some 44, _, _, _, _, _⟩) (v := ?_) rfl (by kernel_rfl) (by kernel_rfl) (by kernel_rfl) (fun _ _ _ h => h) (Or.inl ⟨by kernel_rfl, ?_⟩) (by assumption) ?_
    rotate_left 1
    · (intro w hSw; (try dsimp only at hSw); go_simp) <;> (with_reducible rfl)
    (try simp only [Act.put, List.setIfInBounds_toArray, List.set_cons_succ, List.set_cons_zero])
    refine wpAnyH_take (i := 16) (oi := ⟨some 45, _, _, _, _, _⟩) (v := ?_) rfl (by kernel_rfl) (by kernel_rfl) (by kernel_rfl) (fun _ _ _ h => h) (Or.inl ⟨by kernel_rfl, ?_⟩) (by assumption) ?_
    rotate_left 1
    · (intro w hSw; (try dsimp only at hSw); go_simp) <;> (with_reducible rfl)
    (try simp only [Act.put, List.setIfInBounds_toArray, List.set_cons_succ, List.set_cons_zero])
    refine wpAnyH_take (i := 17) (oi := ⟨some 4, _, _, _, _, _⟩) (v := ?_) rfl (by kernel_rfl) (by kernel_rfl) (by kernel_rfl) (fun _ _ _ h => h) (Or.inl ⟨by kernel_rfl, ?_⟩) (by assumption) ?_
    rotate_left 1
    · (intro w hSw; (try dsimp only at hSw); go_simp) <;> (with_reducible rfl)
    (try simp only [Act.put, List.setIfInBounds_toArray, List.set_cons_succ, List.set_cons_zero])
    refine wpAnyH_done (by kernel_rfl) ?_ _
    refine NoPanic.normal ?_
    go_wp2
    go_ret
    exact ⟨by simp, K0.out⟩
  · rw [decide_eq_false hf] at FW
    clear hp hr hw hf
    go_enter Try.func8, Try.ntmps8
    go_upto_region 1 with fail
    rw [← hg, ← hW0]
    clear hg hW0
    go_upto_region 2 with (first | (go_at_call 14; refine (AW.out _).mono ?_; rintro e w1 ⟨rfl, hb⟩; replace X := hide (X.out.below hb); replace K0 := hide (K0.out.trans (hb.mono K0.out.size)); clear hb; obtain ⟨y0, y1, y2, y3, y4, y5, y6, y7, y8, y9⟩ := box_all X.out) | (go_at_call 15; refine (FW.out _ K0.out).mono ?_; rintro e w2 ⟨rfl, hb⟩; replace X := hide (X.out.below hb); replace K0 := hide (K0.out.trans (hb.mono K0.out.size)); clear hb))
    clear y0 y1 y2 y3 y4 y5 y6 y7 y8 y9
    go_wp2_with (go_at_call 14; refine (AW.out _).mono ?_; rintro e w3 ⟨rfl, hb⟩)
    go_ret
    exact ⟨rfl, K0.out.trans (hb.mono K0.out.size)⟩
end Go.Proofs.Ytflplldamefhoaa.Bd
