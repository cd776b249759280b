import Derived.Test.YthoeolaleeogbaaPteREnc
namespace Go.Proofs.Ythoeolaleeogbaa.Pt
open Go Go.RowKit
set_option linter.unusedVariables false
theorem uk_bd (W : Int) : 0 ≤ uk W ∧ uk W < 8 := by unfold uk; omega
theorem un_bd (W : Int) : 0 ≤ un W ∧ un W ≤ 4294967295 := by unfold un; omega
theorem unpack_any (W : Int) (w : World) (h0 : 0 ≤ W) (h1 : W < 18446744073709551616) :
    Calls Try.prog 59 #[.int .u64 W] w fun e w' => e = .returned (.agg #[.int .i64 (uk W), .int .i64 (un W), .bool (f3 W), .bool (f4 W), .bool (f5 W), .bool (f6 W)]) ∧ Below w.heap.size w w' := by
  have a1 := tk W h0 h1
  have a2 := tn W h0 h1
  have a3 := (t8 W h0 h1).1
  have a4 := (t16 W h0 h1).1
  have a5 := (t32 W h0 h1).1
  have a6 := (t64 W h0 h1).1
  have b1 := uk_bd W
  have b2 := un_bd W
  go_enter Try.func59, Try.ntmps59
  go_wp2
  exact bodyPost_ret (v := .agg #[.int .i64 (uk W), .int .i64 (un W), .bool (f3 W), .bool (f4 W), .bool (f5 W), .bool (f6 W)]) (by simp [results, Try.results59, go_sem]) rfl ⟨rfl, bal (brefl _) _⟩
theorem enc_good (W : Int) (w : World) (f : Nat) (h : good W = true) (hc : Calls Try.prog f #[.agg #[.int .i64 (uk W), .int .i64 (un W), .bool (f3 W), .bool (f4 W), .bool (f5 W), .bool (f6 W)]] w (Enc (uk W) (un W) (f3 W) (f4 W) (f5 W) (f6 W) w)) :
    Calls Try.prog f #[.agg #[.int .i64 (uk W), .int .i64 (un W), .bool (f3 W), .bool (f4 W), .bool (f5 W), .bool (f6 W)]] w fun e w' => e = .returned (.tuple #[.int .u64 W, .int .i64 0]) ∧ Below w.heap.size w w' := by
  obtain ⟨h1, h2⟩ := good_iff.1 h
  refine hc.mono fun e w' ⟨he, hb⟩ => ⟨?_, hb⟩
  rw [he, h1]
  unfold word
  rw [if_pos h1, h2]
theorem enc_bad (W : Int) (w : World) (f : Nat) (h : good W = false) (hc : Calls Try.prog f #[.agg #[.int .i64 (uk W), .int .i64 (un W), .bool (f3 W), .bool (f4 W), .bool (f5 W), .bool (f6 W)]] w (Enc (uk W) (un W) (f3 W) (f4 W) (f5 W) (f6 W) w)) :
    Calls Try.prog f #[.agg #[.int .i64 (uk W), .int .i64 (un W), .bool (f3 W), .bool (f4 W), .bool (f5 W), .bool (f6 W)]] w fun e w' => ∃ x y : Int, e = .returned (.tuple #[.int .u64 x, .int .i64 y]) ∧ ((y != 0) || (x != W)) = true ∧ Below w.heap.size w w' := by
  refine hc.mono fun e w' ⟨he, hb⟩ => ⟨_, _, he, ?_, hb⟩
  by_cases h1 : err (uk W) (un W) (f3 W) (f4 W) (f5 W) (f6 W) = 0
  · have h2 : word (uk W) (un W) (f3 W) (f4 W) (f5 W) (f6 W) ≠ W := fun h2 => by
      unfold word at h2
      rw [if_pos h1] at h2
      rw [good_iff.2 ⟨h1, h2⟩] at h
      cases h
    simp [h2]
  · simp [h1]
set_option maxHeartbeats 1000000 in
theorem dec_good (W : Int) (w : World) (h0 : 0 ≤ W) (h1 : W < 18446744073709551616) (h : good W = true) :
    Calls Try.prog 55 #[.int .u64 W] w fun e w' => e = .returned (.tuple #[.agg #[.int .i64 (uk W), .int .i64 (un W), .bool (f3 W), .bool (f4 W), .bool (f5 W), .bool (f6 W)], .int .i64 0]) ∧ Below w.heap.size w w' := by
  have H := hide h
  clear h
  go_enter Try.func55, Try.ntmps55
  go_wp2_with fail
  refine (unpack_any W _ h0 h1).mono ?_
  rintro e w1 ⟨rfl, hb1⟩
  have K := hide (btrans (bal (brefl w) (.cells #[.int .i64 0, .int .i64 0, .bool false, .bool false, .bool false, .bool false] 70)) hb1)
  have R := hide ((Ent.new w 0 0 false false false false).below hb1)
  have L := hide (Ent.lt R.out)
  clear hb1
  go_wp2_with fail
  refine (enc_good W _ 60 H.out (enc_any _ _ _ _ _ _ _)).mono ?_
  rintro e w2 ⟨rfl, hb2⟩
  replace R := hide ((Ent.below R.out (bal (brefl w1) (.cells #[.int .i64 (uk W), .int .i64 (un W), .bool (f3 W), .bool (f4 W), .bool (f5 W), .bool (f6 W)] 70))).below hb2)
  have X := hide ((Ent.new w1 (uk W) (un W) (f3 W) (f4 W) (f5 W) (f6 W)).below hb2)
  have y := L.out
  have x := Ent.cells X.out
  have r := Ent.cells R.out
  have q := Ent.free R.out
  obtain ⟨x0, x1, x2, x3, x4, x5⟩ := x
  obtain ⟨r0, r1, r2, r3, r4, r5⟩ := r
  obtain ⟨q0, q1, q2, q3, q4, q5⟩ := q
  go_wp2_with fail
  exact ret_ent Try.results55 rfl rfl rfl (Ent.put R.out) ⟨rfl, bset (bset (bset (bset (bset (bset (btrans (bal K.out _) hb2) (by simp) _) (by simp) _) (by simp) _) (by simp) _) (by simp) _) (by simp) _⟩
set_option maxHeartbeats 1000000 in
theorem dec_bad (W : Int) (w : World) (h0 : 0 ≤ W) (h1 : W < 18446744073709551616) (h : good W = false) :
    Calls Try.prog 55 #[.int .u64 W] w fun e w' => e = .returned (.tuple #[.agg #[.int .i64 0, .int .i64 0, .bool false, .bool false, .bool false, .bool false], .int .i64 3]) ∧ Below w.heap.size w w' := by
  have H := hide h
  clear h
  go_enter Try.func55, Try.ntmps55
  go_wp2_with fail
  refine (unpack_any W _ h0 h1).mono ?_
  rintro e w1 ⟨rfl, hb1⟩
  have K := hide (btrans (bal (brefl w) (.cells #[.int .i64 0, .int .i64 0, .bool false, .bool false, .bool false, .bool false] 70)) hb1)
  have R := hide ((Ent.new w 0 0 false false false false).below hb1)
  have L := hide (Ent.lt R.out)
  clear hb1
  go_wp2_with fail
  refine (enc_bad W _ 60 H.out (enc_any _ _ _ _ _ _ _)).mono ?_
  rintro e w2 ⟨a, b, rfl, hab, hb2⟩
  replace R := hide ((Ent.below R.out (bal (brefl w1) (.cells #[.int .i64 (uk W), .int .i64 (un W), .bool (f3 W), .bool (f4 W), .bool (f5 W), .bool (f6 W)] 70))).below hb2)
  have X := hide ((Ent.new w1 (uk W) (un W) (f3 W) (f4 W) (f5 W) (f6 W)).below hb2)
  have y := L.out
  have x := Ent.cells X.out
  have r := Ent.cells R.out
  have q := Ent.free R.out
  obtain ⟨x0, x1, x2, x3, x4, x5⟩ := x
  obtain ⟨r0, r1, r2, r3, r4, r5⟩ := r
  obtain ⟨q0, q1, q2, q3, q4, q5⟩ := q
  cases hb : (b != 0)
  · have ha : (a != W) = true := by rw [hb] at hab; simpa using hab
    clear hab
    go_wp2_with fail
    exact ret_ent Try.results55 rfl rfl rfl (Ent.put R.out) ⟨rfl, bset (bset (bset (bset (bset (bset (btrans (bal K.out _) hb2) (by simp) _) (by simp) _) (by simp) _) (by simp) _) (by simp) _) (by simp) _⟩
  · clear hab
    go_wp2_with fail
    exact ret_ent Try.results55 rfl rfl rfl (Ent.put R.out) ⟨rfl, bset (bset (bset (bset (bset (bset (btrans (bal K.out _) hb2) (by simp) _) (by simp) _) (by simp) _) (by simp) _) (by simp) _) (by simp) _⟩
set_option maxHeartbeats 1000000 in
theorem rdec_good (W : Int) (w : World) (h0 : 0 ≤ W) (h1 : W < 18446744073709551616) (h : good W = true) :
    Calls Try.prog 58 #[.int .u64 W] w fun e w' => e = .returned (.tuple #[.agg #[.int .i64 (uk W), .int .i64 (un W), .bool (f3 W), .bool (f4 W), .bool (f5 W), .bool (f6 W)], .int .i64 0]) ∧ Below w.heap.size w w' := by
  have H := hide h
  clear h
  have a1 := tk W h0 h1
  have a2 := tn W h0 h1
  have a3 := (t8 W h0 h1).2
  have a4 := (t16 W h0 h1).2
  have a5 := (t32 W h0 h1).2
  have a6 := (t64 W h0 h1).2
  have b1 := uk_bd W
  have b2 := un_bd W
  go_enter Try.func58, Try.ntmps58
  go_wp2_with fail
  obtain ⟨w1, hw1⟩ : ∃ w1, w1 = w.alloc (.cells #[.int .i64 0, .int .i64 0, .bool false, .bool false, .bool false, .bool false] 70) := ⟨_, rfl⟩
  have K := hide (hw1 ▸ bal (brefl w) (.cells #[.int .i64 0, .int .i64 0, .bool false, .bool false, .bool false, .bool false] 70) : Below w.heap.size w w1)
  have R := hide (hw1 ▸ Ent.new w 0 0 false false false false : Ent w1 w.heap.size 0 0 false false false false)
  have L := hide (Ent.lt R.out)
  have S := hide (show w1.heap.size = w.heap.size + 1 by rw [hw1]; simp)
  rw [← hw1, ← S.out]
  clear hw1 a1 a2 a3 a4 a5 a6
  refine (enc_good W _ 61 H.out (renc_any _ _ _ _ _ _ _)).mono ?_
  rintro e w2 ⟨rfl, hb2⟩
  replace R := hide ((Ent.below R.out (bal (brefl w1) (.cells #[.int .i64 (uk W), .int .i64 (un W), .bool (f3 W), .bool (f4 W), .bool (f5 W), .bool (f6 W)] 70))).below hb2)
  have X := hide ((Ent.new w1 (uk W) (un W) (f3 W) (f4 W) (f5 W) (f6 W)).below hb2)
  have y := L.out
  have x := Ent.cells X.out
  have r := Ent.cells R.out
  have q := Ent.free R.out
  obtain ⟨x0, x1, x2, x3, x4, x5⟩ := x
  obtain ⟨r0, r1, r2, r3, r4, r5⟩ := r
  obtain ⟨q0, q1, q2, q3, q4, q5⟩ := q
  go_wp2_with fail
  exact ret_ent Try.results58 rfl rfl rfl (Ent.put R.out) ⟨rfl, bset (bset (bset (bset (bset (bset (btrans (bal K.out _) hb2) (by simp) _) (by simp) _) (by simp) _) (by simp) _) (by simp) _) (by simp) _⟩
set_option maxHeartbeats 1000000 in
theorem rdec_bad (W : Int) (w : World) (h0 : 0 ≤ W) (h1 : W < 18446744073709551616) (h : good W = false) :
    Calls Try.prog 58 #[.int .u64 W] w fun e w' => e = .returned (.tuple #[.agg #[.int .i64 0, .int .i64 0, .bool false, .bool false, .bool false, .bool false], .int .i64 3]) ∧ Below w.heap.size w w' := by
  have H := hide h
  clear h
  have a1 := tk W h0 h1
  have a2 := tn W h0 h1
  have a3 := (t8 W h0 h1).2
  have a4 := (t16 W h0 h1).2
  have a5 := (t32 W h0 h1).2
  have a6 := (t64 W h0 h1).2
  have b1 := uk_bd W
  have b2 := un_bd W
  go_enter Try.func58, Try.ntmps58
  go_wp2_with fail
  obtain ⟨w1, hw1⟩ : ∃ w1, w1 = w.alloc (.cells #[.int .i64 0, .int .i64 0, .bool false, .bool false, .bool false, .bool false] 70) := ⟨_, rfl⟩
  have K := hide (hw1 ▸ bal (brefl w) (.cells #[.int .i64 0, .int .i64 0, .bool false, .bool false, .bool false, .bool false] 70) : Below w.heap.size w w1)
  have R := hide (hw1 ▸ Ent.new w 0 0 false false false false : Ent w1 w.heap.size 0 0 false false false false)
  have L := hide (Ent.lt R.out)
  have S := hide (show w1.heap.size = w.heap.size + 1 by rw [hw1]; simp)
  rw [← hw1, ← S.out]
  clear hw1 a1 a2 a3 a4 a5 a6
  refine (enc_bad W _ 61 H.out (renc_any _ _ _ _ _ _ _)).mono ?_
  rintro e w2 ⟨a, b, rfl, hab, hb2⟩
  replace R := hide ((Ent.below R.out (bal (brefl w1) (.cells #[.int .i64 (uk W), .int .i64 (un W), .bool (f3 W), .bool (f4 W), .bool (f5 W), .bool (f6 W)] 70))).below hb2)
  have X := hide ((Ent.new w1 (uk W) (un W) (f3 W) (f4 W) (f5 W) (f6 W)).below hb2)
  have y := L.out
  have x := Ent.cells X.out
  have r := Ent.cells R.out
  have q := Ent.free R.out
  obtain ⟨x0, x1, x2, x3, x4, x5⟩ := x
  obtain ⟨r0, r1, r2, r3, r4, r5⟩ := r
  obtain ⟨q0, q1, q2, q3, q4, q5⟩ := q
  cases hb : (b != 0)
  · have ha : (a != W) = true := by rw [hb] at hab; simpa using hab
    clear hab
    go_wp2_with fail
    exact ret_ent Try.results58 rfl rfl rfl (Ent.put R.out) ⟨rfl, bset (bset (bset (bset (bset (bset (btrans (bal K.out _) hb2) (by simp) _) (by simp) _) (by simp) _) (by simp) _) (by simp) _) (by simp) _⟩
  · clear hab
    go_wp2_with fail
    exact ret_ent Try.results58 rfl rfl rfl (Ent.put R.out) ⟨rfl, bset (bset (bset (bset (bset (bset (btrans (bal K.out _) hb2) (by simp) _) (by simp) _) (by simp) _) (by simp) _) (by simp) _) (by simp) _⟩
end Go.Proofs.Ythoeolaleeogbaa.Pt
