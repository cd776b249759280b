import Derived.Test.YthoeolaleeogbaaIdx
namespace Go.Proofs.Ythoeolaleeogbaa.Tb
open Go Go.RowKit Go.Proofs.Ythoeolaleeogbaa.Pt
set_option linter.unusedVariables false
def szB (n : Int) : Bool := decide (1 ≤ n ∧ n ≤ 16)
def spB (n : Int) : Bool := decide (0 ≤ n ∧ n < 8)
def pgB (n : Int) : Bool := decide (0 ≤ n ∧ n < 512)
theorem okSP_eq (s p : Int) : okSP s p = (spB s && pgB p) := rfl
theorem size_any (n : Int) (w : World) : Calls Try.prog 30 #[.int .i64 n] w fun e w' => e = .returned (.bool (szB n)) ∧ w = w' := by
  go_enter Try.func30, Try.ntmps30
  go_wp2
  all_goals go_ret
  all_goals exact ⟨ret_bool (by unfold szB; rw [Bool.eq_iff_iff]; simp <;> omega), rfl⟩
theorem space_any (n : Int) (w : World) : Calls Try.prog 50 #[.int .i64 n] w fun e w' => e = .returned (.bool (spB n)) ∧ w = w' := by
  go_enter Try.func50, Try.ntmps50
  go_wp2
  all_goals go_ret
  all_goals exact ⟨ret_bool (by unfold spB; rw [Bool.eq_iff_iff]; simp <;> omega), rfl⟩
theorem page_any (n : Int) (w : World) : Calls Try.prog 52 #[.int .i64 n] w fun e w' => e = .returned (.bool (pgB n)) ∧ w = w' := by
  go_enter Try.func52, Try.ntmps52
  go_wp2
  all_goals go_ret
  all_goals exact ⟨ret_bool (by unfold pgB; rw [Bool.eq_iff_iff]; simp <;> omega), rfl⟩
theorem rspace_any (n : Int) (w : World) : Calls Try.prog 45 #[.int .i64 n] w fun e w' => e = .returned (.bool (spB n)) ∧ w = w' := by
  go_enter Try.func45, Try.ntmps45
  go_wp2
  all_goals go_ret
  all_goals exact ⟨ret_bool (by unfold spB; rw [Bool.eq_iff_iff]; simp <;> omega), rfl⟩
theorem rpage_any (n : Int) (w : World) : Calls Try.prog 46 #[.int .i64 n] w fun e w' => e = .returned (.bool (pgB n)) ∧ w = w' := by
  go_enter Try.func46, Try.ntmps46
  go_wp2
  all_goals go_ret
  all_goals exact ⟨ret_bool (by unfold pgB; rw [Bool.eq_iff_iff]; simp <;> omega), rfl⟩
theorem pred_ovl54 (e : Te) (g : Nat) (w : World) (L : List Te) (hX : Box w g 47 #[.int .i64 e.1, .int .i64 e.2.1, .int .u64 e.2.2]) (hp : inP e.2.1) (hW : inW e.2.2) (hL : ∀ o ∈ L, inP o.2.1 ∧ inW o.2.2) :
    PredT 54 #[.pointer (some ⟨g, 0, none⟩)] (fun o => ovl o e) w L := by
  intro W x hx hb
  have C := hide (fun w => ovl_any x e w (hL x hx).1 (hL x hx).2 hp hW)
  obtain ⟨x0, x1, x2⟩ := box3_cells hX hb
  have hg := Nat.lt_of_lt_of_le hX.lt hb.size
  unfold tv at *
  show Calls Try.prog 54 #[.agg #[.int .i64 x.1, .int .i64 x.2.1, .int .u64 x.2.2], .pointer (some ⟨g, 0, none⟩)] W fun r w' => r = .returned (.bool (ovl x e)) ∧ Below W.heap.size W w'
  clear hb hL hx hX hp hW
  generalize ovl x e = y at *
  obtain ⟨a0, a1, a2⟩ := e
  obtain ⟨b0, b1, b2⟩ := x
  simp only at *
  go_enter Try.func54, Try.ntmps54
  go_wp2_with fail
  refine (C.out _).mono ?_
  rintro e w1 ⟨rfl, hb1⟩
  have K := hide hb1
  clear hb1
  go_wp2
  go_ret
  exact ⟨rfl, btrans (bal (brefl _) _) K.out⟩
theorem pred_ovl42 (e : Te) (g : Nat) (w : World) (L : List Te) (hX : Box w g 47 #[.int .i64 e.1, .int .i64 e.2.1, .int .u64 e.2.2]) (hp : inP e.2.1) (hW : inW e.2.2) (hL : ∀ o ∈ L, inP o.2.1 ∧ inW o.2.2) :
    PredT 42 #[.pointer (some ⟨g, 0, none⟩)] (fun o => ovl o e) w L := by
  intro W x hx hb
  have C := hide (fun w => ovl_any x e w (hL x hx).1 (hL x hx).2 hp hW)
  obtain ⟨x0, x1, x2⟩ := box3_cells hX hb
  have hg := Nat.lt_of_lt_of_le hX.lt hb.size
  unfold tv at *
  show Calls Try.prog 42 #[.agg #[.int .i64 x.1, .int .i64 x.2.1, .int .u64 x.2.2], .pointer (some ⟨g, 0, none⟩)] W fun r w' => r = .returned (.bool (ovl x e)) ∧ Below W.heap.size W w'
  clear hb hL hx hX hp hW
  generalize ovl x e = y at *
  obtain ⟨a0, a1, a2⟩ := e
  obtain ⟨b0, b1, b2⟩ := x
  simp only at *
  go_enter Try.func42, Try.ntmps42
  go_wp2_with fail
  refine (C.out _).mono ?_
  rintro e w1 ⟨rfl, hb1⟩
  have K := hide hb1
  clear hb1
  go_wp2
  go_ret
  exact ⟨rfl, btrans (bal (brefl _) _) K.out⟩
theorem pred_cov35 (s p : Int) (g h : Nat) (w : World) (L : List Te) (hX : Box w g 3 #[.int .i64 s]) (hY : Box w h 3 #[.int .i64 p]) (hp : inP p) (hL : ∀ o ∈ L, inW o.2.2) :
    PredT 35 #[.pointer (some ⟨g, 0, none⟩), .pointer (some ⟨h, 0, none⟩)] (fun o => cov o s p) w L := by
  intro W x hx hb
  have C := hide (fun w => cov_any x s p w hp (hL x hx))
  have x0 := (hX.below hb).cell 0
  have y0 := (hY.below hb).cell 0
  have hg := Nat.lt_of_lt_of_le hX.lt hb.size
  have hh := Nat.lt_of_lt_of_le hY.lt hb.size
  unfold tv at *
  show Calls Try.prog 35 #[.agg #[.int .i64 x.1, .int .i64 x.2.1, .int .u64 x.2.2], .pointer (some ⟨g, 0, none⟩), .pointer (some ⟨h, 0, none⟩)] W fun r w' => r = .returned (.bool (cov x s p)) ∧ Below W.heap.size W w'
  clear hb hL hx hX hY hp
  generalize cov x s p = y at *
  obtain ⟨b0, b1, b2⟩ := x
  simp at x0 y0
  simp only at *
  go_enter Try.func35, Try.ntmps35
  go_wp2_with fail
  refine (C.out _).mono ?_
  rintro e w1 ⟨rfl, hb1⟩
  have K := hide hb1
  clear hb1
  go_wp2
  go_ret
  exact ⟨rfl, btrans (bal (brefl _) _) K.out⟩
theorem pred_cov49 (s p : Int) (g h : Nat) (w : World) (L : List Te) (hX : Box w g 3 #[.int .i64 s]) (hY : Box w h 3 #[.int .i64 p]) (hp : inP p) (hL : ∀ o ∈ L, inW o.2.2) :
    PredT 49 #[.pointer (some ⟨g, 0, none⟩), .pointer (some ⟨h, 0, none⟩)] (fun o => cov o s p) w L := by
  intro W x hx hb
  have C := hide (fun w => cov_any x s p w hp (hL x hx))
  have x0 := (hX.below hb).cell 0
  have y0 := (hY.below hb).cell 0
  have hg := Nat.lt_of_lt_of_le hX.lt hb.size
  have hh := Nat.lt_of_lt_of_le hY.lt hb.size
  unfold tv at *
  show Calls Try.prog 49 #[.agg #[.int .i64 x.1, .int .i64 x.2.1, .int .u64 x.2.2], .pointer (some ⟨g, 0, none⟩), .pointer (some ⟨h, 0, none⟩)] W fun r w' => r = .returned (.bool (cov x s p)) ∧ Below W.heap.size W w'
  clear hb hL hx hX hY hp
  generalize cov x s p = y at *
  obtain ⟨b0, b1, b2⟩ := x
  simp at x0 y0
  simp only at *
  go_enter Try.func49, Try.ntmps49
  go_wp2_with fail
  refine (C.out _).mono ?_
  rintro e w1 ⟨rfl, hb1⟩
  have K := hide hb1
  clear hb1
  go_wp2
  go_ret
  exact ⟨rfl, btrans (bal (brefl _) _) K.out⟩
theorem pred_sp51 (s : Int) (g : Nat) (w : World) (L : List Te) (hX : Box w g 3 #[.int .i64 s]) :
    PredT 51 #[.pointer (some ⟨g, 0, none⟩)] (fun o => o.1 == s) w L := by
  intro W x hx hb
  have x0 := (hX.below hb).cell 0
  have hg := Nat.lt_of_lt_of_le hX.lt hb.size
  unfold tv at *
  show Calls Try.prog 51 #[.agg #[.int .i64 x.1, .int .i64 x.2.1, .int .u64 x.2.2], .pointer (some ⟨g, 0, none⟩)] W fun r w' => r = .returned (.bool (x.1 == s)) ∧ Below W.heap.size W w'
  clear hb hx hX
  obtain ⟨b0, b1, b2⟩ := x
  simp at x0
  simp only at *
  go_enter Try.func51, Try.ntmps51
  go_wp2
  go_ret
  exact ⟨rfl, bal (brefl _) _⟩
theorem enters54 : Enters 54 := Go.Proofs.enters_of Try.func54 (by kernel_rfl) rfl
theorem enters42 : Enters 42 := Go.Proofs.enters_of Try.func42 (by kernel_rfl) rfl
theorem enters35 : Enters 35 := Go.Proofs.enters_of Try.func35 (by kernel_rfl) rfl
theorem enters49 : Enters 49 := Go.Proofs.enters_of Try.func49 (by kernel_rfl) rfl
theorem enters51 : Enters 51 := Go.Proofs.enters_of Try.func51 (by kernel_rfl) rfl
end Go.Proofs.Ythoeolaleeogbaa.Tb
