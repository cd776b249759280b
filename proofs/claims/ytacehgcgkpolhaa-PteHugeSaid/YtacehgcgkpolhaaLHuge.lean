import Derived.Test.YtacehgcgkpolhaaJn
namespace Go.Proofs.Ytacehgcgkpolhaa.Pt
open Go Go.RowKit
set_option linter.unusedVariables false
/-- the parts of a huge page -/
def pw (W : Int) (j : Nat) : Int := word0 (uk W) (un W + j) (f3 W) (f4 W) (f5 W) false
theorem pw_err {W : Int} (h : good W = true) (hu : f6 W = true) {j : Nat} (hj : j < 8) : err (uk W) (un W + j) (f3 W) (f4 W) (f5 W) false = 0 := err_part h hu (by omega) (by omega)
theorem pw_good {W : Int} (h : good W = true) (hu : f6 W = true) : all8 (goodAt (pw W)) = true := all8_t fun k hk => good_word (pw_err h hu hk)
theorem pw_f {W : Int} (h : good W = true) (hu : f6 W = true) {j : Nat} (hj : j < 8) : uk (pw W j) = uk W ∧ un (pw W j) = un W + j ∧ f3 (pw W j) = f3 W ∧ f4 (pw W j) = f4 W ∧ f5 (pw W j) = f5 W ∧ f6 (pw W j) = false := unword (pw_err h hu hj)
theorem pw_chk {W : Int} (h : good W = true) (hu : f6 W = true) : chkR (pw W) = 0 := by
  refine (chkR_0 (all8_t fun k hk => ?_) (all8_t fun k hk => ?_) (all8_t fun k hk => ?_)).symm
  · obtain ⟨a1, a2, a3, a4, a5, a6⟩ := pw_f h hu hk
    unfold chk1
    rw [a1, a6, huge_kind h hu]
    rfl
  · obtain ⟨a1, a2, a3, a4, a5, a6⟩ := pw_f h hu hk
    obtain ⟨b1, b2, b3, b4, b5, b6⟩ := pw_f h hu (show 0 < 8 by omega)
    unfold chk2
    rw [a2, b2]
    simp
  · obtain ⟨a1, a2, a3, a4, a5, a6⟩ := pw_f h hu hk
    obtain ⟨b1, b2, b3, b4, b5, b6⟩ := pw_f h hu (show 0 < 8 by omega)
    unfold chk3
    rw [a3, b3]
    simp
theorem orUp_const {p : Nat → Bool} {b : Bool} (h : ∀ k, k < 8 → p k = b) : orUp p 8 = b := by
  unfold orUp
  rw [h 0 (by omega)]
  cases b
  · simp; intro x hx; exact h x hx
  · simp
theorem pw_join {W : Int} (h : good W = true) (hu : f6 W = true) : joinW (pw W) = W ∧ joinE (pw W) = 0 := by
  obtain ⟨e1, e2⟩ := join_ok (pw_good h hu) (pw_chk h hu)
  obtain ⟨b1, b2, b3, b4, b5, b6⟩ := pw_f h hu (show 0 < 8 by omega)
  have o4 : orUp (f4at (pw W)) 8 = f4 W := orUp_const fun k hk => (pw_f h hu hk).2.2.2.1
  have o5 : orUp (f5at (pw W)) 8 = f5 W := orUp_const fun k hk => (pw_f h hu hk).2.2.2.2.1
  have e0 := good_err h
  rw [o4, o5, b1, b2, b3] at e1 e2
  simp only [Int.natCast_zero, Int.add_zero] at e1 e2
  rw [hu] at e0
  have w0 := W_eq h
  rw [hu] at w0
  refine ⟨?_, e2.trans e0⟩
  rw [e1]
  unfold word
  rw [if_pos e0]
  exact w0.symm
theorem pw_in {W : Int} (h : good W = true) (hu : f6 W = true) : In64 (pw W) := fun k hk => by
  obtain ⟨a, b, _⟩ := word_bd (pw_err h hu hk)
  exact ⟨a, by unfold pw; omega⟩
theorem wd_upd (b : Nat → Int) (k : Nat) (x : Int) (hk : k < 8) : (wdCells b).setIfInBounds k (.int .u64 x) = wdCells (upd b k x) := by
  rcases (by omega : k = 0 ∨ k = 1 ∨ k = 2 ∨ k = 3 ∨ k = 4 ∨ k = 5 ∨ k = 6 ∨ k = 7) with rfl | rfl | rfl | rfl | rfl | rfl | rfl | rfl <;> rfl
theorem Wd.put {w : World} {g k : Nat} {a : Nat → Int} (h : Wd w g a) (hk : k < 8) (x : Int) : Wd (w.setCell ⟨g, k, none⟩ (.int .u64 x)) g (upd a k x) := by
  unfold Wd at h ⊢
  rw [heap_setCell_same w g k _ 37 _ h, wd_upd a k x hk]
theorem Wd.free {w : World} {g : Nat} {a : Nat → Int} (h : Wd w g a) (o : Nat) : w.frozen? ⟨g, o, none⟩ = false := frozen_of_row w g o _ _ h
theorem upto_w8 (a : Nat → Int) : wdCells (upto a 8) = wdCells a := rfl
set_option maxRecDepth 100000 in
set_option maxHeartbeats 1000000 in
theorem huge_bad (W : Int) (w : World) (h0 : 0 ≤ W) (h1 : W < 18446744073709551616) (h : good W = false) : Calls Try.prog 11 #[.int .u64 W] w (True1 w) := by
  have H := hide h
  clear h
  go_enter Try.func11, Try.ntmps11
  go_wp2_with fail
  refine (dec_bad W _ h0 h1 H.out).mono ?_
  rintro en w1 ⟨rfl, hb1⟩
  have K := hide hb1
  clear hb1
  go_wp2_with fail
  refine (awake _).mono ?_
  rintro en w2 ⟨rfl, hb1⟩
  replace K := hide (btrans (bal K.out _) hb1)
  clear hb1
  go_wp2_with fail
  go_ret
  exact ⟨rfl, K.out⟩
set_option maxRecDepth 100000 in
set_option maxHeartbeats 1000000 in
theorem huge_kind0 (W : Int) (w : World) (h0 : 0 ≤ W) (h1 : W < 18446744073709551616) (h : good W = true) (hk : uk W ≠ 1) : Calls Try.prog 11 #[.int .u64 W] w (True1 w) := by
  have H := hide h
  have hk1 : (uk W != 1) = true := by simpa using hk
  clear hk
  clear h
  go_enter Try.func11, Try.ntmps11
  go_wp2_with fail
  refine (dec_good W _ h0 h1 H.out).mono ?_
  rintro en w1 ⟨rfl, hb1⟩
  have K := hide hb1
  clear hb1
  go_wp2_with fail
  refine (awake _).mono ?_
  rintro en w2 ⟨rfl, hb1⟩
  replace K := hide (btrans (bal K.out _) hb1)
  clear hb1
  go_wp2_with fail
  go_ret
  exact ⟨rfl, K.out⟩
set_option maxRecDepth 100000 in
set_option maxHeartbeats 1000000 in
theorem huge_flat (W : Int) (w : World) (h0 : 0 ≤ W) (h1 : W < 18446744073709551616) (h : good W = true) (hk : uk W = 1) (hu : f6 W = false) : Calls Try.prog 11 #[.int .u64 W] w (True1 w) := by
  have H := hide h
  have hk1 : (uk W != 1) = false := by simpa using hk
  clear hk
  clear h
  go_enter Try.func11, Try.ntmps11
  go_wp2_with fail
  refine (dec_good W _ h0 h1 H.out).mono ?_
  rintro en w1 ⟨rfl, hb1⟩
  have K := hide hb1
  clear hb1
  go_wp2_with fail
  refine (awake _).mono ?_
  rintro en w2 ⟨rfl, hb1⟩
  replace K := hide (btrans (bal K.out _) hb1)
  clear hb1
  go_wp2_with fail
  go_ret
  exact ⟨rfl, K.out⟩
set_option maxRecDepth 100000 in
set_option maxHeartbeats 4000000 in
theorem huge_yes (W : Int) (w : World) (h0 : 0 ≤ W) (h1 : W < 18446744073709551616) (h : good W = true) (hu : f6 W = true) : Calls Try.prog 11 #[.int .u64 W] w (True1 w) := by
  have H := hide h
  have HU := hide hu
  have hk1 : (uk W != 1) = false := by simpa using huge_kind h hu
  obtain ⟨n0, n1⟩ := huge_num h hu
  clear h
  go_enter Try.func11, Try.ntmps11
  go_wp2_with fail
  refine (dec_good W _ h0 h1 H.out).mono ?_
  rintro en w1 ⟨rfl, hb1⟩
  have K0 := hide hb1
  have XX := hide (Ent.below (Ent.new w1 (uk W) (un W) (f3 W) (f4 W) (f5 W) true) (bal (brefl _) (.cells (wdCells (fun _ => 0)) 37)))
  have W0 := Wd.new (w1.alloc (.cells #[.int .i64 (uk W), .int .i64 (un W), .bool (f3 W), .bool (f4 W), .bool (f5 W), .bool true] 23)) (fun _ => 0)
  rw [show (w1.alloc (.cells #[.int .i64 (uk W), .int .i64 (un W), .bool (f3 W), .bool (f4 W), .bool (f5 W), .bool true] 23)).heap.size = w1.heap.size + 1 by simp] at W0
  have WW := hide (show Wd ((w1.alloc (.cells #[.int .i64 (uk W), .int .i64 (un W), .bool (f3 W), .bool (f4 W), .bool (f5 W), .bool true] 23)).alloc (.cells (wdCells (fun _ => 0)) 37)) (w1.heap.size + 1) (upto (pw W) 0) from W0)
  have KK := hide (bal (bal K0.out (.cells #[.int .i64 (uk W), .int .i64 (un W), .bool (f3 W), .bool (f4 W), .bool (f5 W), .bool true] 23)) (.cells (wdCells (fun _ => 0)) 37))
  have G3 := hide (Nat.le_succ_of_le K0.out.size : w.heap.size ≤ w1.heap.size + 1)
  have G4 := hide (Nat.ne_of_lt (Nat.lt_succ_self w1.heap.size) : w1.heap.size ≠ w1.heap.size + 1)
  clear hb1 W0
  rw [show wdCells (fun _ => 0) = #[.int .u64 0, .int .u64 0, .int .u64 0, .int .u64 0, .int .u64 0, .int .u64 0, .int .u64 0, .int .u64 0] from rfl] at XX WW KK
  go_wp2_with fail
  go_loopw [6, 7, 8, 9, 10, 11, 31] (fun _ _ _ _ _ _ i wr => ∃ k : Nat, k ≤ 8 ∧ i = .int .i64 k ∧ Hid (Below w.heap.size w wr) ∧ Hid (Ent wr w1.heap.size (uk W) (un W) (f3 W) (f4 W) (f5 W) true) ∧ Hid (Wd wr (w1.heap.size + 1) (upto (pw W) k))) (fun _ _ _ _ _ _ i _ => 8 - (intOf i).toNat)
  case atStart => exact ⟨0, by omega, rfl, KK, XX, WW⟩
  case round =>
    clear KK XX WW
    obtain ⟨k, hk, rfl, KB, XB, WB⟩ := hrel
    by_cases hlt : k < 8
    · have e := pw_err H.out HU.out hlt
      have P := hide (part_ok W k h0 h1 H.out HU.out (by omega) (by omega))
      have D := hide (fun w => dec_word e w)
      have HS := hide (upto_step (pw W) k)
      rw [show pw W k = word0 (uk W) (un W + k) (f3 W) (f4 W) (f5 W) false from rfl] at HS
      generalize word0 (uk W) (un W + k) (f3 W) (f4 W) (f5 W) false = v at *
      clear e
      go_wp2_with fail
      refine (P.out _).mono ?_
      rintro en w2 ⟨rfl, hb2⟩
      have K2 := hide (btrans KB.out hb2)
      have X2 := hide (XB.out.below hb2)
      have W2 := hide (Wd.below WB.out hb2)
      clear hb2
      go_wp2_with fail
      refine (D.out _).mono ?_
      rintro en w3 ⟨rfl, hb3⟩
      have K3 := hide (btrans K2.out hb3)
      have X3 := hide (X2.out.below hb3)
      have W3 := hide (Wd.below W2.out hb3)
      have lx := Ent.lt X3.out
      have lw := Wd.lt W3.out
      clear hb3
      obtain ⟨x0, x1, x2, x3, x4, x5⟩ := Ent.cells X3.out
      have wc := Wd.cell W3.out hlt
      have wf := Wd.free W3.out k
      go_wp2
      go_roundw
      case rel => exact ⟨k + 1, by omega, by go_num, hide (bal (bal (bset K3.out G3.out _) _) _), hide ((X3.out.far G4.out _).below (bal (bal (brefl _) _) _)), hide (Wd.below (by rw [← HS.out]; exact Wd.put W3.out hlt v) (bal (bal (brefl _) _) _))⟩
      case measure => simp [intOf]; omega
    · obtain rfl : k = 8 := by omega
      have W9 := hide (show Wd wr (w1.heap.size + 1) (pw W) from WB.out)
      obtain ⟨j1, j2⟩ := pw_join H.out HU.out
      have JT := hide ((join_two (pw W) (pw_in H.out HU.out)).as j1 j2)
      clear j1 j2
      go_wp2_with (refine wpList_load_row rfl 37 _ rfl (w1.heap.size + 1) rfl 37 (wdCells (pw W)) (0, 0) _ W9.out Try.underlying37 rfl (by kernel_rfl) ?_)
      refine (JT.out _).mono ?_
      rintro en w4 ⟨rfl, hb4⟩
      have K4 := hide (btrans KB.out hb4)
      clear hb4
      go_wp2_with fail
      refine (awake _).mono ?_
      rintro en w5 ⟨rfl, hb5⟩
      have K5 := hide (btrans K4.out hb5)
      clear hb5
      go_wp2_with fail
      go_ret
      exact ⟨rfl, K5.out⟩
theorem law_huge (W : Int) (w : World) (h0 : 0 ≤ W) (h1 : W < 18446744073709551616) : Calls Try.prog 11 #[.int .u64 W] w (True1 w) := by
  cases h : good W
  · exact huge_bad W w h0 h1 h
  by_cases hk : uk W = 1
  · cases hu : f6 W
    · exact huge_flat W w h0 h1 h hk hu
    · exact huge_yes W w h0 h1 h hu
  · exact huge_kind0 W w h0 h1 h hk
end Go.Proofs.Ytacehgcgkpolhaa.Pt
