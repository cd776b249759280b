import Derived.Test.YtkcopcmoaloecaaT14
import Derived.Test.YtkcopcmoaloecaaT17
namespace Go.Proofs.Ytkcopcmoaloecaa.Fp
open Go Go.RowKit
set_option linter.unusedVariables false
set_option linter.unusedSimpArgs false
theorem PB.lt {w : World} {g : Nat} {p : P5} (h : PB w g p) : g < w.heap.size := Box.lt h
set_option maxRecDepth 100000 in
set_option maxHeartbeats 16000000 in
theorem awake_any (w : World) : Calls Try.prog 12 #[] w fun e w' => e = .returned (.bool true) ∧ Below w.heap.size w w' := by
  have K := hide (brefl w)
  have C1 := hide (show ∀ w, Calls Try.prog 13 #[.agg #[.bool true, .bool true, .int .i64 3, .bool false, .bool false, .bool false, .bool false, .int .i64 0, .bool false, .bool false, .bool false, .bool false, .bool false, .bool false, .bool false, .bool false, .int .i64 2]] w fun e w' => e = .returned (.tuple #[.agg #[.int .i64 3, .int .i64 0, .int .i64 0, .int .i64 2, .int .i64 1], .int .i64 0]) ∧ Below w.heap.size w w' from fun w => by
    have h := plan_any true true 3 false false false false 0 false false false false false false false false 2 w
    unfold PlR at h
    rw [show plE ⟨true, true, 3, false, false, false, false, 0, false, false, false, false, false, false, false, false, 2⟩ = ⟨3, 0, 0, 2, 1⟩ by kernel_rfl, show chk ⟨true, true, 3, false, false, false, false, 0, false, false, false, false, false, false, false, false, 2⟩ = 0 by kernel_rfl] at h
    exact h)
  have C2 := hide (show ∀ w, Calls Try.prog 13 #[.agg #[.bool true, .bool true, .int .i64 3, .bool false, .bool false, .bool false, .bool false, .int .i64 1, .bool true, .bool false, .bool true, .bool true, .bool false, .bool false, .bool false, .bool false, .int .i64 0]] w fun e w' => e = .returned (.tuple #[.agg #[.int .i64 0, .int .i64 0, .int .i64 0, .int .i64 0, .int .i64 0], .int .i64 0]) ∧ Below w.heap.size w w' from fun w => by
    have h := plan_any true true 3 false false false false 1 true false true true false false false false 0 w
    unfold PlR at h
    rw [show plE ⟨true, true, 3, false, false, false, false, 1, true, false, true, true, false, false, false, false, 0⟩ = ⟨0, 0, 0, 0, 0⟩ by kernel_rfl, show chk ⟨true, true, 3, false, false, false, false, 1, true, false, true, true, false, false, false, false, 0⟩ = 0 by kernel_rfl] at h
    exact h)
  have C3 := hide (show ∀ w, Calls Try.prog 13 #[.agg #[.bool true, .bool true, .int .i64 3, .bool false, .bool true, .bool false, .bool false, .int .i64 1, .bool false, .bool false, .bool false, .bool false, .bool false, .bool false, .bool false, .bool false, .int .i64 0]] w fun e w' => e = .returned (.tuple #[.agg #[.int .i64 9, .int .i64 0, .int .i64 0, .int .i64 0, .int .i64 1], .int .i64 0]) ∧ Below w.heap.size w w' from fun w => by
    have h := plan_any true true 3 false true false false 1 false false false false false false false false 0 w
    unfold PlR at h
    rw [show plE ⟨true, true, 3, false, true, false, false, 1, false, false, false, false, false, false, false, false, 0⟩ = ⟨9, 0, 0, 0, 1⟩ by kernel_rfl, show chk ⟨true, true, 3, false, true, false, false, 1, false, false, false, false, false, false, false, false, 0⟩ = 0 by kernel_rfl] at h
    exact h)
  have C4 := hide (show ∀ w, Calls Try.prog 13 #[.agg #[.bool true, .bool true, .int .i64 3, .bool true, .bool true, .bool false, .bool false, .int .i64 1, .bool false, .bool false, .bool false, .bool false, .bool false, .bool false, .bool false, .bool false, .int .i64 0]] w fun e w' => e = .returned (.tuple #[.agg #[.int .i64 7, .int .i64 0, .int .i64 0, .int .i64 0, .int .i64 0], .int .i64 0]) ∧ Below w.heap.size w w' from fun w => by
    have h := plan_any true true 3 true true false false 1 false false false false false false false false 0 w
    unfold PlR at h
    rw [show plE ⟨true, true, 3, true, true, false, false, 1, false, false, false, false, false, false, false, false, 0⟩ = ⟨7, 0, 0, 0, 0⟩ by kernel_rfl, show chk ⟨true, true, 3, true, true, false, false, 1, false, false, false, false, false, false, false, false, 0⟩ = 0 by kernel_rfl] at h
    exact h)
  have C5 := hide (show ∀ w, Calls Try.prog 13 #[.agg #[.bool true, .bool true, .int .i64 3, .bool true, .bool true, .bool false, .bool false, .int .i64 1, .bool false, .bool false, .bool false, .bool false, .bool false, .bool false, .bool false, .bool true, .int .i64 0]] w fun e w' => e = .returned (.tuple #[.agg #[.int .i64 2, .int .i64 0, .int .i64 5, .int .i64 0, .int .i64 0], .int .i64 0]) ∧ Below w.heap.size w w' from fun w => by
    have h := plan_any true true 3 true true false false 1 false false false false false false false true 0 w
    unfold PlR at h
    rw [show plE ⟨true, true, 3, true, true, false, false, 1, false, false, false, false, false, false, false, true, 0⟩ = ⟨2, 0, 5, 0, 0⟩ by kernel_rfl, show chk ⟨true, true, 3, true, true, false, false, 1, false, false, false, false, false, false, false, true, 0⟩ = 0 by kernel_rfl] at h
    exact h)
  have C6 := hide (show ∀ w, Calls Try.prog 13 #[.agg #[.bool false, .bool true, .int .i64 1, .bool false, .bool true, .bool true, .bool false, .int .i64 0, .bool false, .bool false, .bool false, .bool false, .bool false, .bool false, .bool false, .bool false, .int .i64 0]] w fun e w' => e = .returned (.tuple #[.agg #[.int .i64 1, .int .i64 14, .int .i64 0, .int .i64 0, .int .i64 0], .int .i64 0]) ∧ Below w.heap.size w w' from fun w => by
    have h := plan_any false true 1 false true true false 0 false false false false false false false false 0 w
    unfold PlR at h
    rw [show plE ⟨false, true, 1, false, true, true, false, 0, false, false, false, false, false, false, false, false, 0⟩ = ⟨1, 14, 0, 0, 0⟩ by kernel_rfl, show chk ⟨false, true, 1, false, true, true, false, 0, false, false, false, false, false, false, false, false, 0⟩ = 0 by kernel_rfl] at h
    exact h)
  have C7 := hide (show ∀ w, Calls Try.prog 13 #[.agg #[.bool false, .bool true, .int .i64 1, .bool false, .bool true, .bool true, .bool false, .int .i64 1, .bool false, .bool false, .bool true, .bool false, .bool false, .bool false, .bool false, .bool false, .int .i64 0]] w fun e w' => e = .returned (.tuple #[.agg #[.int .i64 0, .int .i64 0, .int .i64 0, .int .i64 0, .int .i64 0], .int .i64 0]) ∧ Below w.heap.size w w' from fun w => by
    have h := plan_any false true 1 false true true false 1 false false true false false false false false 0 w
    unfold PlR at h
    rw [show plE ⟨false, true, 1, false, true, true, false, 1, false, false, true, false, false, false, false, false, 0⟩ = ⟨0, 0, 0, 0, 0⟩ by kernel_rfl, show chk ⟨false, true, 1, false, true, true, false, 1, false, false, true, false, false, false, false, false, 0⟩ = 0 by kernel_rfl] at h
    exact h)
  have C8 := hide (show ∀ w, Calls Try.prog 13 #[.agg #[.bool false, .bool false, .int .i64 0, .bool false, .bool false, .bool false, .bool false, .int .i64 4, .bool false, .bool false, .bool false, .bool false, .bool false, .bool false, .bool false, .bool false, .int .i64 0]] w fun e w' => e = .returned (.tuple #[.agg #[.int .i64 0, .int .i64 0, .int .i64 0, .int .i64 0, .int .i64 0], .int .i64 1]) ∧ Below w.heap.size w w' from fun w => by
    have h := plan_any false false 0 false false false false 4 false false false false false false false false 0 w
    unfold PlR at h
    rw [show plE ⟨false, false, 0, false, false, false, false, 4, false, false, false, false, false, false, false, false, 0⟩ = ⟨0, 0, 0, 0, 0⟩ by kernel_rfl, show chk ⟨false, false, 0, false, false, false, false, 4, false, false, false, false, false, false, false, false, 0⟩ = 1 by kernel_rfl] at h
    exact h)
  have CA := hide (show ∀ w, Calls Try.prog 15 #[.agg #[.bool true, .bool true, .int .i64 3, .bool false, .bool false, .bool false, .bool false, .int .i64 0, .bool false, .bool false, .bool false, .bool false, .bool false, .bool false, .bool false, .bool false, .int .i64 2]] w fun e w' => e = .returned (.tuple #[fV ⟨true, true, 3, false, false, false, false, 1, true, false, true, true, false, false, false, false, 0⟩, .bool false, .int .i64 0]) ∧ Below w.heap.size w w' from fun w => by
    have h := after_any true true 3 false false false false 0 false false false false false false false false 2 w
    rw [show afE ⟨true, true, 3, false, false, false, false, 0, false, false, false, false, false, false, false, false, 2⟩ = ⟨true, true, 3, false, false, false, false, 1, true, false, true, true, false, false, false, false, 0⟩ by kernel_rfl, show dnE ⟨true, true, 3, false, false, false, false, 0, false, false, false, false, false, false, false, false, 2⟩ = false by kernel_rfl, show chk ⟨true, true, 3, false, false, false, false, 0, false, false, false, false, false, false, false, false, 2⟩ = 0 by kernel_rfl] at h
    exact h)
  go_enter Try.func12, Try.ntmps12
  go_upto_region 2 with (first | (refine wpList_store_row rfl 23 _ _ rfl w.heap.size (fC ⟨true, true, 3, false, false, false, false, 0, false, false, false, false, false, false, false, false, 2⟩) rfl rfl 23 _ (Box.new w 23 _) (by kernel_rfl) rfl (by kernel_rfl) ?_))
  have M := (show Below w.heap.size w ((w.alloc (.cells #[.bool false, .bool false, .int .i64 0, .bool false, .bool false, .bool false, .bool false, .int .i64 0, .bool false, .bool false, .bool false, .bool false, .bool false, .bool false, .bool false, .bool false, .int .i64 0] 23)).setRow w.heap.size (fC ⟨true, true, 3, false, false, false, false, 0, false, false, false, false, false, false, false, false, 2⟩)) from row_below2 (bal (brefl w) _) (Nat.le_refl _))
  have K' := hide (show Below w.heap.size w ((w.alloc (.cells #[.bool false, .bool false, .int .i64 0, .bool false, .bool false, .bool false, .bool false, .int .i64 0, .bool false, .bool false, .bool false, .bool false, .bool false, .bool false, .bool false, .bool false, .int .i64 0] 23)).setRow w.heap.size (fC ⟨true, true, 3, false, false, false, false, 0, false, false, false, false, false, false, false, false, 2⟩)) from btrans K.out M)
  have B1' := hide (show CB ((w.alloc (.cells #[.bool false, .bool false, .int .i64 0, .bool false, .bool false, .bool false, .bool false, .int .i64 0, .bool false, .bool false, .bool false, .bool false, .bool false, .bool false, .bool false, .bool false, .int .i64 0] 23)).setRow w.heap.size (fC ⟨true, true, 3, false, false, false, false, 0, false, false, false, false, false, false, false, false, 2⟩)) w.heap.size ⟨true, true, 3, false, false, false, false, 0, false, false, false, false, false, false, false, false, 2⟩ from box_row (Box.new w 23 _))
  obtain ⟨v1, hv1⟩ : ∃ q, q = (w.alloc (.cells #[.bool false, .bool false, .int .i64 0, .bool false, .bool false, .bool false, .bool false, .int .i64 0, .bool false, .bool false, .bool false, .bool false, .bool false, .bool false, .bool false, .bool false, .int .i64 0] 23)).setRow w.heap.size (fC ⟨true, true, 3, false, false, false, false, 0, false, false, false, false, false, false, false, false, 2⟩) := ⟨_, rfl⟩
  rw [← hv1] at K' B1'
  obtain ⟨g1, hg1⟩ : ∃ q, q = w.heap.size := ⟨_, rfl⟩
  have Gg1 := hide (show w.heap.size ≤ g1 by rw [hg1]; exact K.out.size)
  rw [← hg1] at B1'
  rw [← hv1, ← hg1]
  clear hv1 hg1 M
  clear K  
  have K := K'
  clear K'
  have B1 := B1'
  clear B1'
  go_wp2_with (refine wpList_load_row rfl 23 _ rfl g1 rfl 23 _ (0, 0) _ B1.out Try.underlying23 rfl (by kernel_rfl) ?_)
  refine (C1.out _).mono ?_
  rintro e v2 ⟨rfl, hb⟩
  replace K := hide (btrans K.out hb)
  replace B1 := hide (B1.out.below hb)
  clear hb
  go_upto_region 3 with fail
  have M := (show Below v2.heap.size v2 (v2.alloc (.cells #[.int .i64 3, .int .i64 0, .int .i64 0, .int .i64 2, .int .i64 1] 28)) from bal (brefl v2) _)
  have K' := hide (show Below w.heap.size w (v2.alloc (.cells #[.int .i64 3, .int .i64 0, .int .i64 0, .int .i64 2, .int .i64 1] 28)) from btrans K.out M)
  have B1' := hide (show CB (v2.alloc (.cells #[.int .i64 3, .int .i64 0, .int .i64 0, .int .i64 2, .int .i64 1] 28)) g1 ⟨true, true, 3, false, false, false, false, 0, false, false, false, false, false, false, false, false, 2⟩ from B1.out.below M)
  have Q2' := hide (show PB (v2.alloc (.cells #[.int .i64 3, .int .i64 0, .int .i64 0, .int .i64 2, .int .i64 1] 28)) v2.heap.size ⟨3, 0, 0, 2, 1⟩ from Box.new v2 28 _)
  obtain ⟨v3, hv3⟩ : ∃ q, q = v2.alloc (.cells #[.int .i64 3, .int .i64 0, .int .i64 0, .int .i64 2, .int .i64 1] 28) := ⟨_, rfl⟩
  rw [← hv3] at K' B1' Q2'
  obtain ⟨g2, hg2⟩ : ∃ q, q = v2.heap.size := ⟨_, rfl⟩
  have Gg2 := hide (show w.heap.size ≤ g2 by rw [hg2]; exact K.out.size)
  have Ng1_g2 := hide (show g1 < g2 by rw [hg2]; exact B1.out.lt)
  rw [← hg2] at Q2'
  rw [← hv3, ← hg2]
  clear hv3 hg2 M
  clear K B1 
  have K := K'
  clear K'
  have B1 := B1'
  clear B1'
  have Q2 := Q2'
  clear Q2'
  go_wp2_with (refine wpList_load_row rfl 23 _ rfl g1 rfl 23 _ (0, 0) _ B1.out Try.underlying23 rfl (by kernel_rfl) ?_)
  refine (CA.out _).mono ?_
  rintro e v4 ⟨rfl, hb⟩
  replace K := hide (btrans K.out hb)
  replace B1 := hide (B1.out.below hb)
  replace Q2 := hide (Q2.out.below hb)
  clear hb
  go_upto_region 4 with (first | (refine wpList_store_row rfl 23 _ _ rfl v4.heap.size (fC ⟨true, true, 3, false, false, false, false, 1, true, false, true, true, false, false, false, false, 0⟩) rfl rfl 23 _ (Box.new v4 23 _) (by kernel_rfl) rfl (by kernel_rfl) ?_))
  have M := (show Below v4.heap.size v4 ((v4.alloc (.cells #[.bool false, .bool false, .int .i64 0, .bool false, .bool false, .bool false, .bool false, .int .i64 0, .bool false, .bool false, .bool false, .bool false, .bool false, .bool false, .bool false, .bool false, .int .i64 0] 23)).setRow v4.heap.size (fC ⟨true, true, 3, false, false, false, false, 1, true, false, true, true, false, false, false, false, 0⟩)) from row_below2 (bal (brefl v4) _) (Nat.le_refl _))
  have K' := hide (show Below w.heap.size w ((v4.alloc (.cells #[.bool false, .bool false, .int .i64 0, .bool false, .bool false, .bool false, .bool false, .int .i64 0, .bool false, .bool false, .bool false, .bool false, .bool false, .bool false, .bool false, .bool false, .int .i64 0] 23)).setRow v4.heap.size (fC ⟨true, true, 3, false, false, false, false, 1, true, false, true, true, false, false, false, false, 0⟩)) from btrans K.out M)
  have B1' := hide (show CB ((v4.alloc (.cells #[.bool false, .bool false, .int .i64 0, .bool false, .bool false, .bool false, .bool false, .int .i64 0, .bool false, .bool false, .bool false, .bool false, .bool false, .bool false, .bool false, .bool false, .int .i64 0] 23)).setRow v4.heap.size (fC ⟨true, true, 3, false, false, false, false, 1, true, false, true, true, false, false, false, false, 0⟩)) g1 ⟨true, true, 3, false, false, false, false, 0, false, false, false, false, false, false, false, false, 2⟩ from B1.out.below M)
  have Q2' := hide (show PB ((v4.alloc (.cells #[.bool false, .bool false, .int .i64 0, .bool false, .bool false, .bool false, .bool false, .int .i64 0, .bool false, .bool false, .bool false, .bool false, .bool false, .bool false, .bool false, .bool false, .int .i64 0] 23)).setRow v4.heap.size (fC ⟨true, true, 3, false, false, false, false, 1, true, false, true, true, false, false, false, false, 0⟩)) g2 ⟨3, 0, 0, 2, 1⟩ from Q2.out.below M)
  have B4' := hide (show CB ((v4.alloc (.cells #[.bool false, .bool false, .int .i64 0, .bool false, .bool false, .bool false, .bool false, .int .i64 0, .bool false, .bool false, .bool false, .bool false, .bool false, .bool false, .bool false, .bool false, .int .i64 0] 23)).setRow v4.heap.size (fC ⟨true, true, 3, false, false, false, false, 1, true, false, true, true, false, false, false, false, 0⟩)) v4.heap.size ⟨true, true, 3, false, false, false, false, 1, true, false, true, true, false, false, false, false, 0⟩ from box_row (Box.new v4 23 _))
  obtain ⟨v5, hv5⟩ : ∃ q, q = (v4.alloc (.cells #[.bool false, .bool false, .int .i64 0, .bool false, .bool false, .bool false, .bool false, .int .i64 0, .bool false, .bool false, .bool false, .bool false, .bool false, .bool false, .bool false, .bool false, .int .i64 0] 23)).setRow v4.heap.size (fC ⟨true, true, 3, false, false, false, false, 1, true, false, true, true, false, false, false, false, 0⟩) := ⟨_, rfl⟩
  rw [← hv5] at K' B1' Q2' B4'
  obtain ⟨g4, hg4⟩ : ∃ q, q = v4.heap.size := ⟨_, rfl⟩
  have Gg4 := hide (show w.heap.size ≤ g4 by rw [hg4]; exact K.out.size)
  have Ng1_g4 := hide (show g1 < g4 by rw [hg4]; exact B1.out.lt)
  have Ng2_g4 := hide (show g2 < g4 by rw [hg4]; exact Q2.out.lt)
  rw [← hg4] at B4'
  rw [← hv5, ← hg4]
  clear hv5 hg4 M
  clear K B1 Q2 
  have K := K'
  clear K'
  have B1 := B1'
  clear B1'
  have Q2 := Q2'
  clear Q2'
  have B4 := B4'
  clear B4'
  go_wp2_with (refine wpList_load_row rfl 23 _ rfl g4 rfl 23 _ (0, 0) _ B4.out Try.underlying23 rfl (by kernel_rfl) ?_)
  refine (C2.out _).mono ?_
  rintro e v6 ⟨rfl, hb⟩
  replace K := hide (btrans K.out hb)
  replace B1 := hide (B1.out.below hb)
  replace Q2 := hide (Q2.out.below hb)
  replace B4 := hide (B4.out.below hb)
  clear hb
  go_upto_region 5 with fail
  have M := (show Below v6.heap.size v6 (v6.alloc (.cells #[.int .i64 0, .int .i64 0, .int .i64 0, .int .i64 0, .int .i64 0] 28)) from bal (brefl v6) _)
  have K' := hide (show Below w.heap.size w (v6.alloc (.cells #[.int .i64 0, .int .i64 0, .int .i64 0, .int .i64 0, .int .i64 0] 28)) from btrans K.out M)
  have B1' := hide (show CB (v6.alloc (.cells #[.int .i64 0, .int .i64 0, .int .i64 0, .int .i64 0, .int .i64 0] 28)) g1 ⟨true, true, 3, false, false, false, false, 0, false, false, false, false, false, false, false, false, 2⟩ from B1.out.below M)
  have Q2' := hide (show PB (v6.alloc (.cells #[.int .i64 0, .int .i64 0, .int .i64 0, .int .i64 0, .int .i64 0] 28)) g2 ⟨3, 0, 0, 2, 1⟩ from Q2.out.below M)
  have B4' := hide (show CB (v6.alloc (.cells #[.int .i64 0, .int .i64 0, .int .i64 0, .int .i64 0, .int .i64 0] 28)) g4 ⟨true, true, 3, false, false, false, false, 1, true, false, true, true, false, false, false, false, 0⟩ from B4.out.below M)
  have Q7' := hide (show PB (v6.alloc (.cells #[.int .i64 0, .int .i64 0, .int .i64 0, .int .i64 0, .int .i64 0] 28)) v6.heap.size ⟨0, 0, 0, 0, 0⟩ from Box.new v6 28 _)
  obtain ⟨v7, hv7⟩ : ∃ q, q = v6.alloc (.cells #[.int .i64 0, .int .i64 0, .int .i64 0, .int .i64 0, .int .i64 0] 28) := ⟨_, rfl⟩
  rw [← hv7] at K' B1' Q2' B4' Q7'
  obtain ⟨g7, hg7⟩ : ∃ q, q = v6.heap.size := ⟨_, rfl⟩
  have Gg7 := hide (show w.heap.size ≤ g7 by rw [hg7]; exact K.out.size)
  have Ng1_g7 := hide (show g1 < g7 by rw [hg7]; exact B1.out.lt)
  have Ng2_g7 := hide (show g2 < g7 by rw [hg7]; exact Q2.out.lt)
  have Ng4_g7 := hide (show g4 < g7 by rw [hg7]; exact B4.out.lt)
  rw [← hg7] at Q7'
  rw [← hv7, ← hg7]
  clear hv7 hg7 M
  clear K B1 Q2 B4 
  have K := K'
  clear K'
  have B1 := B1'
  clear B1'
  have Q2 := Q2'
  clear Q2'
  have B4 := B4'
  clear B4'
  have Q7 := Q7'
  clear Q7'
  obtain ⟨p00, p01, p02, p03, p04⟩ := Q2.out.cells
  obtain ⟨p10, p11, p12, p13, p14⟩ := Q7.out.cells
  go_upto_region 7 with fail
  clear p00 p01 p02 p03 p04 p10 p11 p12 p13 p14
  go_upto_region 8 with (first | (refine wpList_store_row rfl 23 _ _ rfl v7.heap.size (fC ⟨true, true, 3, false, true, false, false, 1, false, false, false, false, false, false, false, false, 0⟩) rfl rfl 23 _ (Box.new v7 23 _) (by kernel_rfl) rfl (by kernel_rfl) ?_))
  have M := (show Below v7.heap.size v7 ((v7.alloc (.cells #[.bool false, .bool false, .int .i64 0, .bool false, .bool false, .bool false, .bool false, .int .i64 0, .bool false, .bool false, .bool false, .bool false, .bool false, .bool false, .bool false, .bool false, .int .i64 0] 23)).setRow v7.heap.size (fC ⟨true, true, 3, false, true, false, false, 1, false, false, false, false, false, false, false, false, 0⟩)) from row_below2 (bal (brefl v7) _) (Nat.le_refl _))
  have K' := hide (show Below w.heap.size w ((v7.alloc (.cells #[.bool false, .bool false, .int .i64 0, .bool false, .bool false, .bool false, .bool false, .int .i64 0, .bool false, .bool false, .bool false, .bool false, .bool false, .bool false, .bool false, .bool false, .int .i64 0] 23)).setRow v7.heap.size (fC ⟨true, true, 3, false, true, false, false, 1, false, false, false, false, false, false, false, false, 0⟩)) from btrans K.out M)
  have B1' := hide (show CB ((v7.alloc (.cells #[.bool false, .bool false, .int .i64 0, .bool false, .bool false, .bool false, .bool false, .int .i64 0, .bool false, .bool false, .bool false, .bool false, .bool false, .bool false, .bool false, .bool false, .int .i64 0] 23)).setRow v7.heap.size (fC ⟨true, true, 3, false, true, false, false, 1, false, false, false, false, false, false, false, false, 0⟩)) g1 ⟨true, true, 3, false, false, false, false, 0, false, false, false, false, false, false, false, false, 2⟩ from B1.out.below M)
  have Q2' := hide (show PB ((v7.alloc (.cells #[.bool false, .bool false, .int .i64 0, .bool false, .bool false, .bool false, .bool false, .int .i64 0, .bool false, .bool false, .bool false, .bool false, .bool false, .bool false, .bool false, .bool false, .int .i64 0] 23)).setRow v7.heap.size (fC ⟨true, true, 3, false, true, false, false, 1, false, false, false, false, false, false, false, false, 0⟩)) g2 ⟨3, 0, 0, 2, 1⟩ from Q2.out.below M)
  have B4' := hide (show CB ((v7.alloc (.cells #[.bool false, .bool false, .int .i64 0, .bool false, .bool false, .bool false, .bool false, .int .i64 0, .bool false, .bool false, .bool false, .bool false, .bool false, .bool false, .bool false, .bool false, .int .i64 0] 23)).setRow v7.heap.size (fC ⟨true, true, 3, false, true, false, false, 1, false, false, false, false, false, false, false, false, 0⟩)) g4 ⟨true, true, 3, false, false, false, false, 1, true, false, true, true, false, false, false, false, 0⟩ from B4.out.below M)
  have Q7' := hide (show PB ((v7.alloc (.cells #[.bool false, .bool false, .int .i64 0, .bool false, .bool false, .bool false, .bool false, .int .i64 0, .bool false, .bool false, .bool false, .bool false, .bool false, .bool false, .bool false, .bool false, .int .i64 0] 23)).setRow v7.heap.size (fC ⟨true, true, 3, false, true, false, false, 1, false, false, false, false, false, false, false, false, 0⟩)) g7 ⟨0, 0, 0, 0, 0⟩ from Q7.out.below M)
  have B9' := hide (show CB ((v7.alloc (.cells #[.bool false, .bool false, .int .i64 0, .bool false, .bool false, .bool false, .bool false, .int .i64 0, .bool false, .bool false, .bool false, .bool false, .bool false, .bool false, .bool false, .bool false, .int .i64 0] 23)).setRow v7.heap.size (fC ⟨true, true, 3, false, true, false, false, 1, false, false, false, false, false, false, false, false, 0⟩)) v7.heap.size ⟨true, true, 3, false, true, false, false, 1, false, false, false, false, false, false, false, false, 0⟩ from box_row (Box.new v7 23 _))
  obtain ⟨v8, hv8⟩ : ∃ q, q = (v7.alloc (.cells #[.bool false, .bool false, .int .i64 0, .bool false, .bool false, .bool false, .bool false, .int .i64 0, .bool false, .bool false, .bool false, .bool false, .bool false, .bool false, .bool false, .bool false, .int .i64 0] 23)).setRow v7.heap.size (fC ⟨true, true, 3, false, true, false, false, 1, false, false, false, false, false, false, false, false, 0⟩) := ⟨_, rfl⟩
  rw [← hv8] at K' B1' Q2' B4' Q7' B9'
  obtain ⟨g9, hg9⟩ : ∃ q, q = v7.heap.size := ⟨_, rfl⟩
  have Gg9 := hide (show w.heap.size ≤ g9 by rw [hg9]; exact K.out.size)
  have Ng1_g9 := hide (show g1 < g9 by rw [hg9]; exact B1.out.lt)
  have Ng2_g9 := hide (show g2 < g9 by rw [hg9]; exact Q2.out.lt)
  have Ng4_g9 := hide (show g4 < g9 by rw [hg9]; exact B4.out.lt)
  have Ng7_g9 := hide (show g7 < g9 by rw [hg9]; exact Q7.out.lt)
  rw [← hg9] at B9'
  rw [← hv8, ← hg9]
  clear hv8 hg9 M
  clear K B1 Q2 B4 Q7 
  have K := K'
  clear K'
  have B1 := B1'
  clear B1'
  have Q2 := Q2'
  clear Q2'
  have B4 := B4'
  clear B4'
  have Q7 := Q7'
  clear Q7'
  have B9 := B9'
  clear B9'
  go_wp2_with (refine wpList_load_row rfl 23 _ rfl g9 rfl 23 _ (0, 0) _ B9.out Try.underlying23 rfl (by kernel_rfl) ?_)
  refine (C3.out _).mono ?_
  rintro e v9 ⟨rfl, hb⟩
  replace K := hide (btrans K.out hb)
  replace B1 := hide (B1.out.below hb)
  replace Q2 := hide (Q2.out.below hb)
  replace B4 := hide (B4.out.below hb)
  replace Q7 := hide (Q7.out.below hb)
  replace B9 := hide (B9.out.below hb)
  clear hb
  go_upto_region 9 with (refine wpList_store_row rfl 28 _ _ rfl g2 (pC ⟨9, 0, 0, 0, 1⟩) rfl rfl 28 _ Q2.out (by kernel_rfl) rfl (by kernel_rfl) ?_)
  have K' := hide (show Below w.heap.size w (v9.setRow g2 (pC ⟨9, 0, 0, 0, 1⟩)) from row_below2 K.out Gg2.out)
  have M := trivial
  have B1' := hide (show CB (v9.setRow g2 (pC ⟨9, 0, 0, 0, 1⟩)) g1 ⟨true, true, 3, false, false, false, false, 0, false, false, false, false, false, false, false, false, 2⟩ from box_row_far B1.out (by have := Ng1_g2.out; omega))
  have Q2' := hide (show PB (v9.setRow g2 (pC ⟨9, 0, 0, 0, 1⟩)) g2 ⟨9, 0, 0, 0, 1⟩ from box_row Q2.out)
  have B4' := hide (show CB (v9.setRow g2 (pC ⟨9, 0, 0, 0, 1⟩)) g4 ⟨true, true, 3, false, false, false, false, 1, true, false, true, true, false, false, false, false, 0⟩ from box_row_far B4.out (by have := Ng2_g4.out; omega))
  have Q7' := hide (show PB (v9.setRow g2 (pC ⟨9, 0, 0, 0, 1⟩)) g7 ⟨0, 0, 0, 0, 0⟩ from box_row_far Q7.out (by have := Ng2_g7.out; omega))
  have B9' := hide (show CB (v9.setRow g2 (pC ⟨9, 0, 0, 0, 1⟩)) g9 ⟨true, true, 3, false, true, false, false, 1, false, false, false, false, false, false, false, false, 0⟩ from box_row_far B9.out (by have := Ng2_g9.out; omega))
  obtain ⟨v10, hv10⟩ : ∃ q, q = v9.setRow g2 (pC ⟨9, 0, 0, 0, 1⟩) := ⟨_, rfl⟩
  rw [← hv10] at K' B1' Q2' B4' Q7' B9'
  rw [← hv10]
  clear hv10 M
  clear K B1 Q2 B4 Q7 B9 
  have K := K'
  clear K'
  have B1 := B1'
  clear B1'
  have Q2 := Q2'
  clear Q2'
  have B4 := B4'
  clear B4'
  have Q7 := Q7'
  clear Q7'
  have B9 := B9'
  clear B9'
  obtain ⟨x0, x1, x2, x3, x4, x5, x6, x7, x8, x9, x10, x11, x12, x13, x14, x15, x16⟩ := B9.out.cells
  obtain ⟨y0, y1, y2, y3, y4, y5, y6, y7, y8, y9, y10, y11, y12, y13, y14, y15, y16⟩ := B9.out.free
  go_upto_region 10 with fail
  clear x0 x1 x2 x3 x4 x5 x6 x7 x8 x9 x10 x11 x12 x13 x14 x15 x16 y0 y1 y2 y3 y4 y5 y6 y7 y8 y9 y10 y11 y12 y13 y14 y15 y16
  have K' := hide (show Below w.heap.size w ((v10).setCell ⟨g9, 3, none⟩ (.bool true)) from (bset K.out Gg9.out (.bool true)))
  have M := trivial
  have B1' := hide (show CB ((v10).setCell ⟨g9, 3, none⟩ (.bool true)) g1 ⟨true, true, 3, false, false, false, false, 0, false, false, false, false, false, false, false, false, 2⟩ from (Box.far B1.out (b := g9) (i := 3) (by have := Ng1_g9.out; omega) (.bool true)))
  have Q2' := hide (show PB ((v10).setCell ⟨g9, 3, none⟩ (.bool true)) g2 ⟨9, 0, 0, 0, 1⟩ from (Box.far Q2.out (b := g9) (i := 3) (by have := Ng2_g9.out; omega) (.bool true)))
  have B4' := hide (show CB ((v10).setCell ⟨g9, 3, none⟩ (.bool true)) g4 ⟨true, true, 3, false, false, false, false, 1, true, false, true, true, false, false, false, false, 0⟩ from (Box.far B4.out (b := g9) (i := 3) (by have := Ng4_g9.out; omega) (.bool true)))
  have Q7' := hide (show PB ((v10).setCell ⟨g9, 3, none⟩ (.bool true)) g7 ⟨0, 0, 0, 0, 0⟩ from (Box.far Q7.out (b := g9) (i := 3) (by have := Ng7_g9.out; omega) (.bool true)))
  have B9' := hide (show CB ((v10).setCell ⟨g9, 3, none⟩ (.bool true)) g9 ⟨true, true, 3, true, true, false, false, 1, false, false, false, false, false, false, false, false, 0⟩ from (Box.put B9.out 3 (.bool true)))
  obtain ⟨v11, hv11⟩ : ∃ q, q = (v10).setCell ⟨g9, 3, none⟩ (.bool true) := ⟨_, rfl⟩
  rw [← hv11] at K' B1' Q2' B4' Q7' B9'
  rw [← hv11]
  clear hv11 M
  clear K B1 Q2 B4 Q7 B9 
  have K := K'
  clear K'
  have B1 := B1'
  clear B1'
  have Q2 := Q2'
  clear Q2'
  have B4 := B4'
  clear B4'
  have Q7 := Q7'
  clear Q7'
  have B9 := B9'
  clear B9'
  go_wp2_with (refine wpList_load_row rfl 23 _ rfl g9 rfl 23 _ (0, 0) _ B9.out Try.underlying23 rfl (by kernel_rfl) ?_)
  refine (C4.out _).mono ?_
  rintro e v12 ⟨rfl, hb⟩
  replace K := hide (btrans K.out hb)
  replace B1 := hide (B1.out.below hb)
  replace Q2 := hide (Q2.out.below hb)
  replace B4 := hide (B4.out.below hb)
  replace Q7 := hide (Q7.out.below hb)
  replace B9 := hide (B9.out.below hb)
  clear hb
  go_upto_region 11 with (refine wpList_store_row rfl 28 _ _ rfl g7 (pC ⟨7, 0, 0, 0, 0⟩) rfl rfl 28 _ Q7.out (by kernel_rfl) rfl (by kernel_rfl) ?_)
  have K' := hide (show Below w.heap.size w (v12.setRow g7 (pC ⟨7, 0, 0, 0, 0⟩)) from row_below2 K.out Gg7.out)
  have M := trivial
  have B1' := hide (show CB (v12.setRow g7 (pC ⟨7, 0, 0, 0, 0⟩)) g1 ⟨true, true, 3, false, false, false, false, 0, false, false, false, false, false, false, false, false, 2⟩ from box_row_far B1.out (by have := Ng1_g7.out; omega))
  have Q2' := hide (show PB (v12.setRow g7 (pC ⟨7, 0, 0, 0, 0⟩)) g2 ⟨9, 0, 0, 0, 1⟩ from box_row_far Q2.out (by have := Ng2_g7.out; omega))
  have B4' := hide (show CB (v12.setRow g7 (pC ⟨7, 0, 0, 0, 0⟩)) g4 ⟨true, true, 3, false, false, false, false, 1, true, false, true, true, false, false, false, false, 0⟩ from box_row_far B4.out (by have := Ng4_g7.out; omega))
  have Q7' := hide (show PB (v12.setRow g7 (pC ⟨7, 0, 0, 0, 0⟩)) g7 ⟨7, 0, 0, 0, 0⟩ from box_row Q7.out)
  have B9' := hide (show CB (v12.setRow g7 (pC ⟨7, 0, 0, 0, 0⟩)) g9 ⟨true, true, 3, true, true, false, false, 1, false, false, false, false, false, false, false, false, 0⟩ from box_row_far B9.out (by have := Ng7_g9.out; omega))
  obtain ⟨v13, hv13⟩ : ∃ q, q = v12.setRow g7 (pC ⟨7, 0, 0, 0, 0⟩) := ⟨_, rfl⟩
  rw [← hv13] at K' B1' Q2' B4' Q7' B9'
  rw [← hv13]
  clear hv13 M
  clear K B1 Q2 B4 Q7 B9 
  have K := K'
  clear K'
  have B1 := B1'
  clear B1'
  have Q2 := Q2'
  clear Q2'
  have B4 := B4'
  clear B4'
  have Q7 := Q7'
  clear Q7'
  have B9 := B9'
  clear B9'
  obtain ⟨x0, x1, x2, x3, x4, x5, x6, x7, x8, x9, x10, x11, x12, x13, x14, x15, x16⟩ := B9.out.cells
  obtain ⟨y0, y1, y2, y3, y4, y5, y6, y7, y8, y9, y10, y11, y12, y13, y14, y15, y16⟩ := B9.out.free
  go_upto_region 12 with fail
  clear x0 x1 x2 x3 x4 x5 x6 x7 x8 x9 x10 x11 x12 x13 x14 x15 x16 y0 y1 y2 y3 y4 y5 y6 y7 y8 y9 y10 y11 y12 y13 y14 y15 y16
  have K' := hide (show Below w.heap.size w ((v13).setCell ⟨g9, 15, none⟩ (.bool true)) from (bset K.out Gg9.out (.bool true)))
  have M := trivial
  have B1' := hide (show CB ((v13).setCell ⟨g9, 15, none⟩ (.bool true)) g1 ⟨true, true, 3, false, false, false, false, 0, false, false, false, false, false, false, false, false, 2⟩ from (Box.far B1.out (b := g9) (i := 15) (by have := Ng1_g9.out; omega) (.bool true)))
  have Q2' := hide (show PB ((v13).setCell ⟨g9, 15, none⟩ (.bool true)) g2 ⟨9, 0, 0, 0, 1⟩ from (Box.far Q2.out (b := g9) (i := 15) (by have := Ng2_g9.out; omega) (.bool true)))
  have B4' := hide (show CB ((v13).setCell ⟨g9, 15, none⟩ (.bool true)) g4 ⟨true, true, 3, false, false, false, false, 1, true, false, true, true, false, false, false, false, 0⟩ from (Box.far B4.out (b := g9) (i := 15) (by have := Ng4_g9.out; omega) (.bool true)))
  have Q7' := hide (show PB ((v13).setCell ⟨g9, 15, none⟩ (.bool true)) g7 ⟨7, 0, 0, 0, 0⟩ from (Box.far Q7.out (b := g9) (i := 15) (by have := Ng7_g9.out; omega) (.bool true)))
  have B9' := hide (show CB ((v13).setCell ⟨g9, 15, none⟩ (.bool true)) g9 ⟨true, true, 3, true, true, false, false, 1, false, false, false, false, false, false, false, true, 0⟩ from (Box.put B9.out 15 (.bool true)))
  obtain ⟨v14, hv14⟩ : ∃ q, q = (v13).setCell ⟨g9, 15, none⟩ (.bool true) := ⟨_, rfl⟩
  rw [← hv14] at K' B1' Q2' B4' Q7' B9'
  rw [← hv14]
  clear hv14 M
  clear K B1 Q2 B4 Q7 B9 
  have K := K'
  clear K'
  have B1 := B1'
  clear B1'
  have Q2 := Q2'
  clear Q2'
  have B4 := B4'
  clear B4'
  have Q7 := Q7'
  clear Q7'
  have B9 := B9'
  clear B9'
  go_wp2_with (refine wpList_load_row rfl 23 _ rfl g9 rfl 23 _ (0, 0) _ B9.out Try.underlying23 rfl (by kernel_rfl) ?_)
  refine (C5.out _).mono ?_
  rintro e v15 ⟨rfl, hb⟩
  replace K := hide (btrans K.out hb)
  replace B1 := hide (B1.out.below hb)
  replace Q2 := hide (Q2.out.below hb)
  replace B4 := hide (B4.out.below hb)
  replace Q7 := hide (Q7.out.below hb)
  replace B9 := hide (B9.out.below hb)
  clear hb
  go_upto_region 13 with fail
  have M := (show Below v15.heap.size v15 (v15.alloc (.cells #[.int .i64 2, .int .i64 0, .int .i64 5, .int .i64 0, .int .i64 0] 28)) from bal (brefl v15) _)
  have K' := hide (show Below w.heap.size w (v15.alloc (.cells #[.int .i64 2, .int .i64 0, .int .i64 5, .int .i64 0, .int .i64 0] 28)) from btrans K.out M)
  have B1' := hide (show CB (v15.alloc (.cells #[.int .i64 2, .int .i64 0, .int .i64 5, .int .i64 0, .int .i64 0] 28)) g1 ⟨true, true, 3, false, false, false, false, 0, false, false, false, false, false, false, false, false, 2⟩ from B1.out.below M)
  have Q2' := hide (show PB (v15.alloc (.cells #[.int .i64 2, .int .i64 0, .int .i64 5, .int .i64 0, .int .i64 0] 28)) g2 ⟨9, 0, 0, 0, 1⟩ from Q2.out.below M)
  have B4' := hide (show CB (v15.alloc (.cells #[.int .i64 2, .int .i64 0, .int .i64 5, .int .i64 0, .int .i64 0] 28)) g4 ⟨true, true, 3, false, false, false, false, 1, true, false, true, true, false, false, false, false, 0⟩ from B4.out.below M)
  have Q7' := hide (show PB (v15.alloc (.cells #[.int .i64 2, .int .i64 0, .int .i64 5, .int .i64 0, .int .i64 0] 28)) g7 ⟨7, 0, 0, 0, 0⟩ from Q7.out.below M)
  have B9' := hide (show CB (v15.alloc (.cells #[.int .i64 2, .int .i64 0, .int .i64 5, .int .i64 0, .int .i64 0] 28)) g9 ⟨true, true, 3, true, true, false, false, 1, false, false, false, false, false, false, false, true, 0⟩ from B9.out.below M)
  have Q10' := hide (show PB (v15.alloc (.cells #[.int .i64 2, .int .i64 0, .int .i64 5, .int .i64 0, .int .i64 0] 28)) v15.heap.size ⟨2, 0, 5, 0, 0⟩ from Box.new v15 28 _)
  obtain ⟨v16, hv16⟩ : ∃ q, q = v15.alloc (.cells #[.int .i64 2, .int .i64 0, .int .i64 5, .int .i64 0, .int .i64 0] 28) := ⟨_, rfl⟩
  rw [← hv16] at K' B1' Q2' B4' Q7' B9' Q10'
  obtain ⟨g10, hg10⟩ : ∃ q, q = v15.heap.size := ⟨_, rfl⟩
  have Gg10 := hide (show w.heap.size ≤ g10 by rw [hg10]; exact K.out.size)
  have Ng1_g10 := hide (show g1 < g10 by rw [hg10]; exact B1.out.lt)
  have Ng10_g2 := hide (show g2 < g10 by rw [hg10]; exact Q2.out.lt)
  have Ng10_g4 := hide (show g4 < g10 by rw [hg10]; exact B4.out.lt)
  have Ng10_g7 := hide (show g7 < g10 by rw [hg10]; exact Q7.out.lt)
  have Ng10_g9 := hide (show g9 < g10 by rw [hg10]; exact B9.out.lt)
  rw [← hg10] at Q10'
  rw [← hv16, ← hg10]
  clear hv16 hg10 M
  clear K B1 Q2 B4 Q7 B9 
  have K := K'
  clear K'
  have B1 := B1'
  clear B1'
  have Q2 := Q2'
  clear Q2'
  have B4 := B4'
  clear B4'
  have Q7 := Q7'
  clear Q7'
  have B9 := B9'
  clear B9'
  have Q10 := Q10'
  clear Q10'
  obtain ⟨p00, p01, p02, p03, p04⟩ := Q2.out.cells
  obtain ⟨p10, p11, p12, p13, p14⟩ := Q7.out.cells
  obtain ⟨p20, p21, p22, p23, p24⟩ := Q10.out.cells
  go_upto_region 15 with fail
  clear p00 p01 p02 p03 p04 p10 p11 p12 p13 p14 p20 p21 p22 p23 p24
  go_upto_region 16 with (first | (refine wpList_store_row rfl 23 _ _ rfl v16.heap.size (fC ⟨false, true, 1, false, true, true, false, 0, false, false, false, false, false, false, false, false, 0⟩) rfl rfl 23 _ (Box.new v16 23 _) (by kernel_rfl) rfl (by kernel_rfl) ?_))
  have M := (show Below v16.heap.size v16 ((v16.alloc (.cells #[.bool false, .bool false, .int .i64 0, .bool false, .bool false, .bool false, .bool false, .int .i64 0, .bool false, .bool false, .bool false, .bool false, .bool false, .bool false, .bool false, .bool false, .int .i64 0] 23)).setRow v16.heap.size (fC ⟨false, true, 1, false, true, true, false, 0, false, false, false, false, false, false, false, false, 0⟩)) from row_below2 (bal (brefl v16) _) (Nat.le_refl _))
  have K' := hide (show Below w.heap.size w ((v16.alloc (.cells #[.bool false, .bool false, .int .i64 0, .bool false, .bool false, .bool false, .bool false, .int .i64 0, .bool false, .bool false, .bool false, .bool false, .bool false, .bool false, .bool false, .bool false, .int .i64 0] 23)).setRow v16.heap.size (fC ⟨false, true, 1, false, true, true, false, 0, false, false, false, false, false, false, false, false, 0⟩)) from btrans K.out M)
  have B1' := hide (show CB ((v16.alloc (.cells #[.bool false, .bool false, .int .i64 0, .bool false, .bool false, .bool false, .bool false, .int .i64 0, .bool false, .bool false, .bool false, .bool false, .bool false, .bool false, .bool false, .bool false, .int .i64 0] 23)).setRow v16.heap.size (fC ⟨false, true, 1, false, true, true, false, 0, false, false, false, false, false, false, false, false, 0⟩)) g1 ⟨true, true, 3, false, false, false, false, 0, false, false, false, false, false, false, false, false, 2⟩ from B1.out.below M)
  have Q2' := hide (show PB ((v16.alloc (.cells #[.bool false, .bool false, .int .i64 0, .bool false, .bool false, .bool false, .bool false, .int .i64 0, .bool false, .bool false, .bool false, .bool false, .bool false, .bool false, .bool false, .bool false, .int .i64 0] 23)).setRow v16.heap.size (fC ⟨false, true, 1, false, true, true, false, 0, false, false, false, false, false, false, false, false, 0⟩)) g2 ⟨9, 0, 0, 0, 1⟩ from Q2.out.below M)
  have B4' := hide (show CB ((v16.alloc (.cells #[.bool false, .bool false, .int .i64 0, .bool false, .bool false, .bool false, .bool false, .int .i64 0, .bool false, .bool false, .bool false, .bool false, .bool false, .bool false, .bool false, .bool false, .int .i64 0] 23)).setRow v16.heap.size (fC ⟨false, true, 1, false, true, true, false, 0, false, false, false, false, false, false, false, false, 0⟩)) g4 ⟨true, true, 3, false, false, false, false, 1, true, false, true, true, false, false, false, false, 0⟩ from B4.out.below M)
  have Q7' := hide (show PB ((v16.alloc (.cells #[.bool false, .bool false, .int .i64 0, .bool false, .bool false, .bool false, .bool false, .int .i64 0, .bool false, .bool false, .bool false, .bool false, .bool false, .bool false, .bool false, .bool false, .int .i64 0] 23)).setRow v16.heap.size (fC ⟨false, true, 1, false, true, true, false, 0, false, false, false, false, false, false, false, false, 0⟩)) g7 ⟨7, 0, 0, 0, 0⟩ from Q7.out.below M)
  have B9' := hide (show CB ((v16.alloc (.cells #[.bool false, .bool false, .int .i64 0, .bool false, .bool false, .bool false, .bool false, .int .i64 0, .bool false, .bool false, .bool false, .bool false, .bool false, .bool false, .bool false, .bool false, .int .i64 0] 23)).setRow v16.heap.size (fC ⟨false, true, 1, false, true, true, false, 0, false, false, false, false, false, false, false, false, 0⟩)) g9 ⟨true, true, 3, true, true, false, false, 1, false, false, false, false, false, false, false, true, 0⟩ from B9.out.below M)
  have Q10' := hide (show PB ((v16.alloc (.cells #[.bool false, .bool false, .int .i64 0, .bool false, .bool false, .bool false, .bool false, .int .i64 0, .bool false, .bool false, .bool false, .bool false, .bool false, .bool false, .bool false, .bool false, .int .i64 0] 23)).setRow v16.heap.size (fC ⟨false, true, 1, false, true, true, false, 0, false, false, false, false, false, false, false, false, 0⟩)) g10 ⟨2, 0, 5, 0, 0⟩ from Q10.out.below M)
  have B11' := hide (show CB ((v16.alloc (.cells #[.bool false, .bool false, .int .i64 0, .bool false, .bool false, .bool false, .bool false, .int .i64 0, .bool false, .bool false, .bool false, .bool false, .bool false, .bool false, .bool false, .bool false, .int .i64 0] 23)).setRow v16.heap.size (fC ⟨false, true, 1, false, true, true, false, 0, false, false, false, false, false, false, false, false, 0⟩)) v16.heap.size ⟨false, true, 1, false, true, true, false, 0, false, false, false, false, false, false, false, false, 0⟩ from box_row (Box.new v16 23 _))
  obtain ⟨v17, hv17⟩ : ∃ q, q = (v16.alloc (.cells #[.bool false, .bool false, .int .i64 0, .bool false, .bool false, .bool false, .bool false, .int .i64 0, .bool false, .bool false, .bool false, .bool false, .bool false, .bool false, .bool false, .bool false, .int .i64 0] 23)).setRow v16.heap.size (fC ⟨false, true, 1, false, true, true, false, 0, false, false, false, false, false, false, false, false, 0⟩) := ⟨_, rfl⟩
  rw [← hv17] at K' B1' Q2' B4' Q7' B9' Q10' B11'
  obtain ⟨g11, hg11⟩ : ∃ q, q = v16.heap.size := ⟨_, rfl⟩
  have Gg11 := hide (show w.heap.size ≤ g11 by rw [hg11]; exact K.out.size)
  have Ng1_g11 := hide (show g1 < g11 by rw [hg11]; exact B1.out.lt)
  have Ng11_g2 := hide (show g2 < g11 by rw [hg11]; exact Q2.out.lt)
  have Ng11_g4 := hide (show g4 < g11 by rw [hg11]; exact B4.out.lt)
  have Ng11_g7 := hide (show g7 < g11 by rw [hg11]; exact Q7.out.lt)
  have Ng11_g9 := hide (show g9 < g11 by rw [hg11]; exact B9.out.lt)
  have Ng10_g11 := hide (show g10 < g11 by rw [hg11]; exact Q10.out.lt)
  rw [← hg11] at B11'
  rw [← hv17, ← hg11]
  clear hv17 hg11 M
  clear K B1 Q2 B4 Q7 B9 Q10 
  have K := K'
  clear K'
  have B1 := B1'
  clear B1'
  have Q2 := Q2'
  clear Q2'
  have B4 := B4'
  clear B4'
  have Q7 := Q7'
  clear Q7'
  have B9 := B9'
  clear B9'
  have Q10 := Q10'
  clear Q10'
  have B11 := B11'
  clear B11'
  go_wp2_with (refine wpList_load_row rfl 23 _ rfl g11 rfl 23 _ (0, 0) _ B11.out Try.underlying23 rfl (by kernel_rfl) ?_)
  refine (C6.out _).mono ?_
  rintro e v18 ⟨rfl, hb⟩
  replace K := hide (btrans K.out hb)
  replace B1 := hide (B1.out.below hb)
  replace Q2 := hide (Q2.out.below hb)
  replace B4 := hide (B4.out.below hb)
  replace Q7 := hide (Q7.out.below hb)
  replace B9 := hide (B9.out.below hb)
  replace Q10 := hide (Q10.out.below hb)
  replace B11 := hide (B11.out.below hb)
  clear hb
  go_upto_region 17 with (refine wpList_store_row rfl 28 _ _ rfl g2 (pC ⟨1, 14, 0, 0, 0⟩) rfl rfl 28 _ Q2.out (by kernel_rfl) rfl (by kernel_rfl) ?_)
  have K' := hide (show Below w.heap.size w (v18.setRow g2 (pC ⟨1, 14, 0, 0, 0⟩)) from row_below2 K.out Gg2.out)
  have M := trivial
  have B1' := hide (show CB (v18.setRow g2 (pC ⟨1, 14, 0, 0, 0⟩)) g1 ⟨true, true, 3, false, false, false, false, 0, false, false, false, false, false, false, false, false, 2⟩ from box_row_far B1.out (by have := Ng1_g2.out; omega))
  have Q2' := hide (show PB (v18.setRow g2 (pC ⟨1, 14, 0, 0, 0⟩)) g2 ⟨1, 14, 0, 0, 0⟩ from box_row Q2.out)
  have B4' := hide (show CB (v18.setRow g2 (pC ⟨1, 14, 0, 0, 0⟩)) g4 ⟨true, true, 3, false, false, false, false, 1, true, false, true, true, false, false, false, false, 0⟩ from box_row_far B4.out (by have := Ng2_g4.out; omega))
  have Q7' := hide (show PB (v18.setRow g2 (pC ⟨1, 14, 0, 0, 0⟩)) g7 ⟨7, 0, 0, 0, 0⟩ from box_row_far Q7.out (by have := Ng2_g7.out; omega))
  have B9' := hide (show CB (v18.setRow g2 (pC ⟨1, 14, 0, 0, 0⟩)) g9 ⟨true, true, 3, true, true, false, false, 1, false, false, false, false, false, false, false, true, 0⟩ from box_row_far B9.out (by have := Ng2_g9.out; omega))
  have Q10' := hide (show PB (v18.setRow g2 (pC ⟨1, 14, 0, 0, 0⟩)) g10 ⟨2, 0, 5, 0, 0⟩ from box_row_far Q10.out (by have := Ng10_g2.out; omega))
  have B11' := hide (show CB (v18.setRow g2 (pC ⟨1, 14, 0, 0, 0⟩)) g11 ⟨false, true, 1, false, true, true, false, 0, false, false, false, false, false, false, false, false, 0⟩ from box_row_far B11.out (by have := Ng11_g2.out; omega))
  obtain ⟨v19, hv19⟩ : ∃ q, q = v18.setRow g2 (pC ⟨1, 14, 0, 0, 0⟩) := ⟨_, rfl⟩
  rw [← hv19] at K' B1' Q2' B4' Q7' B9' Q10' B11'
  rw [← hv19]
  clear hv19 M
  clear K B1 Q2 B4 Q7 B9 Q10 B11 
  have K := K'
  clear K'
  have B1 := B1'
  clear B1'
  have Q2 := Q2'
  clear Q2'
  have B4 := B4'
  clear B4'
  have Q7 := Q7'
  clear Q7'
  have B9 := B9'
  clear B9'
  have Q10 := Q10'
  clear Q10'
  have B11 := B11'
  clear B11'
  obtain ⟨x0, x1, x2, x3, x4, x5, x6, x7, x8, x9, x10, x11, x12, x13, x14, x15, x16⟩ := B11.out.cells
  obtain ⟨y0, y1, y2, y3, y4, y5, y6, y7, y8, y9, y10, y11, y12, y13, y14, y15, y16⟩ := B11.out.free
  go_upto_region 18 with fail
  clear x0 x1 x2 x3 x4 x5 x6 x7 x8 x9 x10 x11 x12 x13 x14 x15 x16 y0 y1 y2 y3 y4 y5 y6 y7 y8 y9 y10 y11 y12 y13 y14 y15 y16
  have K' := hide (show Below w.heap.size w (((v19).setCell ⟨g11, 7, none⟩ (.int .i64 1)).setCell ⟨g11, 10, none⟩ (.bool true)) from (bset (bset K.out Gg11.out (.int .i64 1)) Gg11.out (.bool true)))
  have M := trivial
  have B1' := hide (show CB (((v19).setCell ⟨g11, 7, none⟩ (.int .i64 1)).setCell ⟨g11, 10, none⟩ (.bool true)) g1 ⟨true, true, 3, false, false, false, false, 0, false, false, false, false, false, false, false, false, 2⟩ from (Box.far (Box.far B1.out (b := g11) (i := 7) (by have := Ng1_g11.out; omega) (.int .i64 1)) (b := g11) (i := 10) (by have := Ng1_g11.out; omega) (.bool true)))
  have Q2' := hide (show PB (((v19).setCell ⟨g11, 7, none⟩ (.int .i64 1)).setCell ⟨g11, 10, none⟩ (.bool true)) g2 ⟨1, 14, 0, 0, 0⟩ from (Box.far (Box.far Q2.out (b := g11) (i := 7) (by have := Ng11_g2.out; omega) (.int .i64 1)) (b := g11) (i := 10) (by have := Ng11_g2.out; omega) (.bool true)))
  have B4' := hide (show CB (((v19).setCell ⟨g11, 7, none⟩ (.int .i64 1)).setCell ⟨g11, 10, none⟩ (.bool true)) g4 ⟨true, true, 3, false, false, false, false, 1, true, false, true, true, false, false, false, false, 0⟩ from (Box.far (Box.far B4.out (b := g11) (i := 7) (by have := Ng11_g4.out; omega) (.int .i64 1)) (b := g11) (i := 10) (by have := Ng11_g4.out; omega) (.bool true)))
  have Q7' := hide (show PB (((v19).setCell ⟨g11, 7, none⟩ (.int .i64 1)).setCell ⟨g11, 10, none⟩ (.bool true)) g7 ⟨7, 0, 0, 0, 0⟩ from (Box.far (Box.far Q7.out (b := g11) (i := 7) (by have := Ng11_g7.out; omega) (.int .i64 1)) (b := g11) (i := 10) (by have := Ng11_g7.out; omega) (.bool true)))
  have B9' := hide (show CB (((v19).setCell ⟨g11, 7, none⟩ (.int .i64 1)).setCell ⟨g11, 10, none⟩ (.bool true)) g9 ⟨true, true, 3, true, true, false, false, 1, false, false, false, false, false, false, false, true, 0⟩ from (Box.far (Box.far B9.out (b := g11) (i := 7) (by have := Ng11_g9.out; omega) (.int .i64 1)) (b := g11) (i := 10) (by have := Ng11_g9.out; omega) (.bool true)))
  have Q10' := hide (show PB (((v19).setCell ⟨g11, 7, none⟩ (.int .i64 1)).setCell ⟨g11, 10, none⟩ (.bool true)) g10 ⟨2, 0, 5, 0, 0⟩ from (Box.far (Box.far Q10.out (b := g11) (i := 7) (by have := Ng10_g11.out; omega) (.int .i64 1)) (b := g11) (i := 10) (by have := Ng10_g11.out; omega) (.bool true)))
  have B11' := hide (show CB (((v19).setCell ⟨g11, 7, none⟩ (.int .i64 1)).setCell ⟨g11, 10, none⟩ (.bool true)) g11 ⟨false, true, 1, false, true, true, false, 1, false, false, true, false, false, false, false, false, 0⟩ from (Box.put (Box.put B11.out 7 (.int .i64 1)) 10 (.bool true)))
  obtain ⟨v20, hv20⟩ : ∃ q, q = ((v19).setCell ⟨g11, 7, none⟩ (.int .i64 1)).setCell ⟨g11, 10, none⟩ (.bool true) := ⟨_, rfl⟩
  rw [← hv20] at K' B1' Q2' B4' Q7' B9' Q10' B11'
  rw [← hv20]
  clear hv20 M
  clear K B1 Q2 B4 Q7 B9 Q10 B11 
  have K := K'
  clear K'
  have B1 := B1'
  clear B1'
  have Q2 := Q2'
  clear Q2'
  have B4 := B4'
  clear B4'
  have Q7 := Q7'
  clear Q7'
  have B9 := B9'
  clear B9'
  have Q10 := Q10'
  clear Q10'
  have B11 := B11'
  clear B11'
  go_wp2_with (refine wpList_load_row rfl 23 _ rfl g11 rfl 23 _ (0, 0) _ B11.out Try.underlying23 rfl (by kernel_rfl) ?_)
  refine (C7.out _).mono ?_
  rintro e v21 ⟨rfl, hb⟩
  replace K := hide (btrans K.out hb)
  replace B1 := hide (B1.out.below hb)
  replace Q2 := hide (Q2.out.below hb)
  replace B4 := hide (B4.out.below hb)
  replace Q7 := hide (Q7.out.below hb)
  replace B9 := hide (B9.out.below hb)
  replace Q10 := hide (Q10.out.below hb)
  replace B11 := hide (B11.out.below hb)
  clear hb
  go_upto_region 19 with (refine wpList_store_row rfl 28 _ _ rfl g7 (pC ⟨0, 0, 0, 0, 0⟩) rfl rfl 28 _ Q7.out (by kernel_rfl) rfl (by kernel_rfl) ?_)
  have K' := hide (show Below w.heap.size w (v21.setRow g7 (pC ⟨0, 0, 0, 0, 0⟩)) from row_below2 K.out Gg7.out)
  have M := trivial
  have B1' := hide (show CB (v21.setRow g7 (pC ⟨0, 0, 0, 0, 0⟩)) g1 ⟨true, true, 3, false, false, false, false, 0, false, false, false, false, false, false, false, false, 2⟩ from box_row_far B1.out (by have := Ng1_g7.out; omega))
  have Q2' := hide (show PB (v21.setRow g7 (pC ⟨0, 0, 0, 0, 0⟩)) g2 ⟨1, 14, 0, 0, 0⟩ from box_row_far Q2.out (by have := Ng2_g7.out; omega))
  have B4' := hide (show CB (v21.setRow g7 (pC ⟨0, 0, 0, 0, 0⟩)) g4 ⟨true, true, 3, false, false, false, false, 1, true, false, true, true, false, false, false, false, 0⟩ from box_row_far B4.out (by have := Ng4_g7.out; omega))
  have Q7' := hide (show PB (v21.setRow g7 (pC ⟨0, 0, 0, 0, 0⟩)) g7 ⟨0, 0, 0, 0, 0⟩ from box_row Q7.out)
  have B9' := hide (show CB (v21.setRow g7 (pC ⟨0, 0, 0, 0, 0⟩)) g9 ⟨true, true, 3, true, true, false, false, 1, false, false, false, false, false, false, false, true, 0⟩ from box_row_far B9.out (by have := Ng7_g9.out; omega))
  have Q10' := hide (show PB (v21.setRow g7 (pC ⟨0, 0, 0, 0, 0⟩)) g10 ⟨2, 0, 5, 0, 0⟩ from box_row_far Q10.out (by have := Ng10_g7.out; omega))
  have B11' := hide (show CB (v21.setRow g7 (pC ⟨0, 0, 0, 0, 0⟩)) g11 ⟨false, true, 1, false, true, true, false, 1, false, false, true, false, false, false, false, false, 0⟩ from box_row_far B11.out (by have := Ng11_g7.out; omega))
  obtain ⟨v22, hv22⟩ : ∃ q, q = v21.setRow g7 (pC ⟨0, 0, 0, 0, 0⟩) := ⟨_, rfl⟩
  rw [← hv22] at K' B1' Q2' B4' Q7' B9' Q10' B11'
  rw [← hv22]
  clear hv22 M
  clear K B1 Q2 B4 Q7 B9 Q10 B11 
  have K := K'
  clear K'
  have B1 := B1'
  clear B1'
  have Q2 := Q2'
  clear Q2'
  have B4 := B4'
  clear B4'
  have Q7 := Q7'
  clear Q7'
  have B9 := B9'
  clear B9'
  have Q10 := Q10'
  clear Q10'
  have B11 := B11'
  clear B11'
  go_wp2_with fail
  refine (C8.out _).mono ?_
  rintro e v23 ⟨rfl, hb⟩
  replace K := hide (btrans K.out hb)
  replace B1 := hide (B1.out.below hb)
  replace Q2 := hide (Q2.out.below hb)
  replace B4 := hide (B4.out.below hb)
  replace Q7 := hide (Q7.out.below hb)
  replace B9 := hide (B9.out.below hb)
  replace Q10 := hide (Q10.out.below hb)
  replace B11 := hide (B11.out.below hb)
  clear hb
  obtain ⟨p00, p01, p02, p03, p04⟩ := Q2.out.cells
  obtain ⟨p10, p11, p12, p13, p14⟩ := Q7.out.cells
  go_wp2
  go_ret
  exact ⟨rfl, K.out⟩
end Go.Proofs.Ytkcopcmoaloecaa.Fp
