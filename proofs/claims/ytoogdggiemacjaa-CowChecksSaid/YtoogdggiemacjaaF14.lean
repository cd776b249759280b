import Derived.Test.YtoogdggiemacjaaMem3
namespace Go.Proofs.Ytoogdggiemacjaa.Cw
open Go Go.RowKit
set_option linter.unusedVariables false
set_option linter.unusedSimpArgs false
theorem u64_wrap (n : Nat) (h : n ≤ 4294967295) : IntKind.u64.wrap (n : Int) = (n : Int) := by
  have : IntKind.u64.wrap (n : Int) = (n : Int) % 18446744073709551616 := rfl
  rw [this]; omega
theorem and_low (n : Nat) (h : n ≤ 4294967295) : bits .and .u64 (n : Int) 4294967295 = (n : Int) := by
  have t : n &&& 4294967295 = n := by
    have := Nat.and_two_pow_sub_one_eq_mod n 32
    rw [show (2 ^ 32 - 1 : Nat) = 4294967295 from rfl] at this
    rw [this]
    exact Nat.mod_eq_of_lt (by omega)
  have e1 : n % 2 ^ IntKind.u64.bits = n := Nat.mod_eq_of_lt (by show n < 2 ^ 64; omega)
  have e2 : 4294967295 % 2 ^ IntKind.u64.bits = 4294967295 := by decide
  simp only [bits, Int.toNat_natCast]
  simp [e1, e2, t]
  exact u64_wrap n h
set_option maxRecDepth 100000 in
theorem mul_any (n : Nat) (hn : n ≤ 512) (w : World) : Calls Try.prog 56 #[.int .u64 1, .int .u64 (n : Int)] w fun e w' => e = .returned (.tuple #[.int .u64 0, .int .u64 (n : Int)]) ∧ w = w' := by
  have a1 : bits .and .u64 1 4294967295 = 1 := by decide
  have a2 := and_low n (by omega)
  have a3 : bits .and .u64 0 4294967295 = 0 := by decide
  have a4 : (n : Int) / 4294967296 = 0 := by omega
  have a5 := u64_wrap n (by omega)
  have a6 : IntKind.u64.wrap 0 = 0 := by decide
  go_enter Try.func56, Try.ntmps56
  go_wp2
  go_ret2
  exact ⟨rfl, rfl⟩
end Go.Proofs.Ytoogdggiemacjaa.Cw
