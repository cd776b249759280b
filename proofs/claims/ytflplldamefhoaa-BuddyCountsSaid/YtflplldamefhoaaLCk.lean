import Derived.Test.YtflplldamefhoaaR4
namespace Go.Proofs.Ytflplldamefhoaa.Bd
open Go Go.RowKit
set_option linter.unusedVariables false
theorem zin_few {w : World} {p : Pm} {v : Nat → Value} {L : Fl} (hp : Pr p) (hr : RdZ w v L) (hw : ∀ k, k < 5 → ∀ f ∈ L k, i64r f) (hf : few L) : ZIn w p v L := ⟨hp, hr, hw, fun k hk => by have := hf k hk; omega⟩
set_option maxRecDepth 100000 in
set_option maxHeartbeats 4000000 in
theorem law_checks (p : Pm) (v : Nat → Value) (L : Fl) (w : World) (hp : Pr p) (hr : RdZ w v L) (hw : ∀ k, k < 5 → ∀ f ∈ L k, i64r f) : Calls Try.prog 3 #[.agg (znC p v)] w fun e w' => e = .returned (.bool true) ∧ Below w.heap.size w w' := by
  have X := hide (Box.new w 25 (znC p v))
  have K0 := hide (bal (brefl w) (.cells (znC p v) 25))
  have AW := hide (fun w1 => awake_any w1)
  have FW := hide (fun w1 (hb : Below w.heap.size w w1) => few_any p v L w1 (hr.below hb))
  obtain ⟨g, hg⟩ : ∃ g, g = w.heap.size := ⟨_, rfl⟩
  obtain ⟨W0, hW0⟩ : ∃ W0, W0 = (w.alloc (.cells (znC p v) 25)) := ⟨_, rfl⟩
  rw [← hg, ← hW0] at X
  rw [← hW0] at K0
  by_cases hf : few L
  · rw [decide_eq_true hf] at FW
    have HZ := hide (zin_few hp hr hw hf)
    have CH := hide (fun w1 (hb : Below w.heap.size w w1) => check_any p v L w1 (HZ.out.below hb))
    have RC := hide (fun w1 (hb : Below w.heap.size w w1) => rcheck_any p v L w1 (HZ.out.below hb))
    generalize chk p L = ce at *
    clear hp hr hw hf
    go_enter Try.func3, Try.ntmps3
    go_upto_region 1 with fail
    rw [← hg, ← hW0]
    clear hg hW0
    go_upto_region 3 with (first | (go_at_call 14; refine (AW.out _).mono ?_; rintro e w1 ⟨rfl, hb⟩; replace X := hide (X.out.below hb); replace K0 := hide (K0.out.trans (hb.mono K0.out.size)); clear hb; obtain ⟨y0, y1, y2, y3, y4, y5, y6, y7, y8, y9⟩ := box_all X.out) | (go_at_call 15; refine (FW.out _ K0.out).mono ?_; rintro e w2 ⟨rfl, hb⟩; replace X := hide (X.out.below hb); replace K0 := hide (K0.out.trans (hb.mono K0.out.size)); clear hb))
    clear y0 y1 y2 y3 y4 y5 y6 y7 y8 y9
    go_wp2
    refine wp_region_noPanic ?_
    refine wp_region_held_drew (S := (fun W => Box W g 25 (znC p v))) (by kernel_rfl) ?_ (fun hHeld => ?_)
    · exact X.out.below (below_drewN (brefl _) 1)
    replace X := hide hHeld
    replace K0 := hide (show Below w.heap.size w w2.drew from below_drewN K0.out 1)
    generalize w2.drew = w3 at *
    refine wpAnyH_take (i := 0) (oi := ⟨some 11, _, _, _, _, _⟩) (v := .agg (znC p v)) rfl (by kernel_rfl) (by kernel_rfl) (by kernel_rfl) (fun _ _ _ h => h) (Or.inl ⟨by kernel_rfl, ?_⟩) (by assumption) ?_
    · (intro w hSw; obtain ⟨y0, y1, y2, y3, y4, y5, y6, y7, y8, y9⟩ := box_all hSw; go_simp) <;> rfl
    (try simp only [Act.put, List.setIfInBounds_toArray, List.set_cons_succ, List.set_cons_zero])
    refine wpAnyH_take (i := 2) (oi := ⟨some 13, _, _, _, _, _⟩) (v := .agg (znC p v)) rfl (by kernel_rfl) (by kernel_rfl) (by kernel_rfl) (fun _ _ _ h => h) (Or.inl ⟨by kernel_rfl, ?_⟩) (by assumption) ?_
    · (intro w hSw; obtain ⟨y0, y1, y2, y3, y4, y5, y6, y7, y8, y9⟩ := box_all hSw; go_simp) <;> rfl
    (try simp only [Act.put, List.setIfInBounds_toArray, List.set_cons_succ, List.set_cons_zero])
    refine wpAnyH_ready (rs := [1]) (by kernel_rfl) (by simp) ?_
    refine AllReadyH.cons (o := _) rfl (fun K' hK => ?_) AllReadyH.nil
    go_simp
    refine (CH.out _ K0.out).mono ?_
    rintro e w5 ⟨rfl, hb⟩
    replace X := hide (X.out.below hb)
    replace K0 := hide (K0.out.trans (hb.mono K0.out.size))
    clear hb
    refine hK.out _ _ ?_ (fun hHeld => ?_)
    · exact X.out
    clear hK K'
    (try simp only [Act.put, List.setIfInBounds_toArray, List.set_cons_succ, List.set_cons_zero])
    refine wpAnyH_ready (rs := [3]) (by kernel_rfl) (by simp) ?_
    refine AllReadyH.cons (o := _) rfl (fun K' hK => ?_) AllReadyH.nil
    go_simp
    refine (RC.out _ K0.out).mono ?_
    rintro e w6 ⟨rfl, hb⟩
    replace X := hide (X.out.below hb)
    replace K0 := hide (K0.out.trans (hb.mono K0.out.size))
    clear hb
    refine hK.out _ _ ?_ (fun hHeld => ?_)
    · exact X.out
    clear hK K'
    (try simp only [Act.put, List.setIfInBounds_toArray, List.set_cons_succ, List.set_cons_zero])
    refine wpAnyH_take (i := 4) (oi := ⟨some 15, _, _, _, _, _⟩) (v := ?_) rfl (by kernel_rfl) (by kernel_rfl) (by kernel_rfl) (fun _ _ _ h => h) (Or.inl ⟨by kernel_rfl, ?_⟩) (by assumption) ?_
    rotate_left 1
    · (intro w hSw; (try dsimp only at hSw); go_simp) <;> (with_reducible rfl)
    (try simp only [Act.put, List.setIfInBounds_toArray, List.set_cons_succ, List.set_cons_zero])
    refine wpAnyH_take (i := 5) (oi := ⟨some 2, _, _, _, _, _⟩) (v := ?_) rfl (by kernel_rfl) (by kernel_rfl) (by kernel_rfl) (fun _ _ _ h => h) (Or.inl ⟨by kernel_rfl, ?_⟩) (by assumption) ?_
    rotate_left 1
    · (intro w hSw; (try dsimp only at hSw); go_simp) <;> (with_reducible rfl)
    (try simp only [Act.put, List.setIfInBounds_toArray, List.set_cons_succ, List.set_cons_zero])
    refine wpAnyH_done (by kernel_rfl) ?_ _
    refine NoPanic.normal ?_
    go_wp2
    go_ret
    exact ⟨by simp, K0.out⟩
  · rw [decide_eq_false hf] at FW
    clear hp hr hw hf
    go_enter Try.func3, Try.ntmps3
    go_upto_region 1 with fail
    rw [← hg, ← hW0]
    clear hg hW0
    go_upto_region 2 with (first | (go_at_call 14; refine (AW.out _).mono ?_; rintro e w1 ⟨rfl, hb⟩; replace X := hide (X.out.below hb); replace K0 := hide (K0.out.trans (hb.mono K0.out.size)); clear hb; obtain ⟨y0, y1, y2, y3, y4, y5, y6, y7, y8, y9⟩ := box_all X.out) | (go_at_call 15; refine (FW.out _ K0.out).mono ?_; rintro e w2 ⟨rfl, hb⟩; replace X := hide (X.out.below hb); replace K0 := hide (K0.out.trans (hb.mono K0.out.size)); clear hb))
    clear y0 y1 y2 y3 y4 y5 y6 y7 y8 y9
    go_wp2_with (go_at_call 14; refine (AW.out _).mono ?_; rintro e w3 ⟨rfl, hb⟩)
    go_ret
    exact ⟨rfl, K0.out.trans (hb.mono K0.out.size)⟩
end Go.Proofs.Ytflplldamefhoaa.Bd
