import Derived.Test.YtiopfeleaifpbaaSo
import Derived.Test.YtiopfeleaifpbaaNd
namespace Go.Proofs.Ytiopfeleaifpbaa.Bd
open Go Go.RowKit Go.Sort Go.Lib
set_option linter.unusedVariables false
/-- which of two numbers is the smaller one -/
def c3 (x y : Int) : Int := if x < y then -1 else if y < x then 1 else 0
theorem isnan_any (x : Int) (w : World) : Calls Try.prog 45 #[.int .i64 x] w fun e w' => e = .returned (.bool false) ∧ w = w' := by
  go_enter Try.func45, Try.ntmps45
  go_wp2
  go_ret
  exact ⟨ret_bool (by simp), rfl⟩
theorem cmp_any (x y : Int) (w : World) : Calls Try.prog 29 #[.int .i64 x, .int .i64 y] w fun e w' => e = .returned (.int .i64 (c3 x y)) ∧ w = w' := by
  by_cases h : x < y
  · have E := hide (show c3 x y = -1 from if_pos h)
    go_enter Try.func29, Try.ntmps29
    go_wp2_with (go_at_call 45; refine (isnan_any _ _).mono ?_; rintro e w' ⟨rfl, rfl⟩)
    go_ret
    exact ⟨ret_int E.out.symm, rfl⟩
  · by_cases h2 : y < x
    · have E := hide (show c3 x y = 1 by unfold c3; rw [if_neg h, if_pos h2])
      go_enter Try.func29, Try.ntmps29
      go_wp2_with (go_at_call 45; refine (isnan_any _ _).mono ?_; rintro e w' ⟨rfl, rfl⟩)
      go_ret
      exact ⟨ret_int E.out.symm, rfl⟩
    · have E := hide (show c3 x y = 0 by unfold c3; rw [if_neg h, if_neg h2])
      go_enter Try.func29, Try.ntmps29
      go_wp2_with (go_at_call 45; refine (isnan_any _ _).mono ?_; rintro e w' ⟨rfl, rfl⟩)
      go_ret
      exact ⟨ret_int E.out.symm, rfl⟩
/-- of two nodes, which one is nearer to n -/
def cN (n x y : Int) : Int := c3 (ds x n) (ds y n)
set_option maxHeartbeats 2000000 in
theorem cmpn_any (g : Nat) (n x y : Int) (hn : 0 ≤ n ∧ n < 4) (hx : 0 ≤ x ∧ x < 4) (hy : 0 ≤ y ∧ y < 4) (w : World) (hX : w.cell? ⟨g, 0, none⟩ = some (.int .i64 n)) :
    Calls Try.prog 28 #[.int .i64 x, .int .i64 y, .pointer (some ⟨g, 0, none⟩)] w fun e w' => e = .returned (.int .i64 (cN n x y)) ∧ ∃ q, w' = w.drewN q := by
  have D := hide (fun (z : Int) (hz : 0 ≤ z ∧ z < 4) w => dist_any z n hz hn w)
  have C := hide (fun a b w => cmp_any a b w)
  have E := hide (show cN n x y = c3 (ds x n) (ds y n) from rfl)
  have HX := hide hx
  have HY := hide hy
  clear hx hy hn
  go_enter Try.func28, Try.ntmps28
  go_wp2
  go_quiet (first
    | (go_at_call 30; exact quiet_left (D.out _ (by first | exact HX.out | exact HY.out) _))
    | (go_at_call 29; exact quiet_left (C.out _ _ _)))
  go_wp2
  go_ret
  exact ⟨ret_int E.out.symm, _, rfl⟩
end Go.Proofs.Ytiopfeleaifpbaa.Bd
