import Derived.Test.YtncdilkcblakhaaMem
namespace Go.Proofs.Ytncdilkcblakhaa.In
open Go Go.RowKit
set_option linter.unusedVariables false
set_option linter.unusedSimpArgs false
theorem issize_any (n : Int) (w : World) : Calls Try.prog 36 #[.int .i64 n] w fun e w' => e = .returned (.bool (decide (0 ≤ n ∧ n ≤ 16))) ∧ w = w' := by
  by_cases h1 : 0 ≤ n
  · by_cases h2 : n ≤ 16
    · rw [decide_eq_true (show 0 ≤ n ∧ n ≤ 16 from ⟨h1, h2⟩)]
      go_enter Try.func36, Try.ntmps36
      go_wp2
      go_ret
      exact ⟨rfl, rfl⟩
    · rw [decide_eq_false (show ¬ (0 ≤ n ∧ n ≤ 16) from fun h => h2 h.2)]
      go_enter Try.func36, Try.ntmps36
      go_wp2
      go_ret
      exact ⟨rfl, rfl⟩
  · rw [decide_eq_false (show ¬ (0 ≤ n ∧ n ≤ 16) from fun h => h1 h.1)]
    go_enter Try.func36, Try.ntmps36
    go_wp2
    go_ret
    exact ⟨rfl, rfl⟩
theorem nocap_any (n : Int) (w : World) : Calls Try.prog 41 #[.int .i64 n] w fun e w' => e = .returned (.bool (decide (¬ (1 ≤ n ∧ n ≤ 16)))) ∧ w = w' := by
  by_cases h1 : n < 1
  · rw [decide_eq_true (show ¬ (1 ≤ n ∧ n ≤ 16) by omega)]
    go_enter Try.func41, Try.ntmps41
    go_wp2
    go_ret
    exact ⟨rfl, rfl⟩
  · by_cases h2 : 16 < n
    · rw [decide_eq_true (show ¬ (1 ≤ n ∧ n ≤ 16) by omega)]
      go_enter Try.func41, Try.ntmps41
      go_wp2
      go_ret
      exact ⟨rfl, rfl⟩
    · rw [decide_eq_false (show ¬ ¬ (1 ≤ n ∧ n ≤ 16) by omega)]
      go_enter Try.func41, Try.ntmps41
      go_wp2
      go_ret
      exact ⟨rfl, rfl⟩
theorem ismask_any (m n : Int) (w : World) (hn : 0 ≤ n ∧ n ≤ 16) : Calls Try.prog 37 #[.int .i64 m, .int .i64 n] w fun e w' => e = .returned (.bool (decide (0 ≤ m ∧ m < 2 ^ n.toNat))) ∧ w = w' := by
  have hp := pw_le hn
  have hn1 : n ≤ 64 := by omega
  have hn0 := hn.1
  obtain ⟨q, hq⟩ : ∃ q : Int, q = 2 ^ n.toNat := ⟨_, rfl⟩
  have hq2 := hq.symm
  rw [hq2] at hp ⊢
  have wq : IntKind.i64.wrap (1 * 2 ^ n.toNat) = q := by rw [hq2, IntKind.wrap_i64]; omega
  have wq' : IntKind.i64.wrap (2 ^ n.toNat) = q := by rw [hq2, IntKind.wrap_i64]; omega
  clear hq hn
  by_cases h1 : 0 ≤ m
  · by_cases h2 : m < q
    · rw [decide_eq_true (show 0 ≤ m ∧ m < q from ⟨h1, h2⟩)]
      go_enter Try.func37, Try.ntmps37
      go_wp2
      go_ret
      exact ⟨rfl, rfl⟩
    · rw [decide_eq_false (show ¬ (0 ≤ m ∧ m < q) from fun h => h2 h.2)]
      go_enter Try.func37, Try.ntmps37
      go_wp2
      go_ret
      exact ⟨rfl, rfl⟩
  · rw [decide_eq_false (show ¬ (0 ≤ m ∧ m < q) from fun h => h1 h.1)]
    go_enter Try.func37, Try.ntmps37
    go_wp2
    go_ret
    exact ⟨rfl, rfl⟩
theorem rismask_any (m n : Int) (w : World) (hn : 0 ≤ n ∧ n ≤ 16) : Calls Try.prog 39 #[.int .i64 m, .int .i64 n] w fun e w' => e = .returned (.bool (decide (0 ≤ m ∧ m < 2 ^ n.toNat))) ∧ w = w' := by
  have hp := pw_le hn
  have hn1 : n ≤ 64 := by omega
  have hn0 := hn.1
  have wn : IntKind.u64.wrap n = n := by rw [IntKind.wrap_u64]; omega
  obtain ⟨q, hq⟩ : ∃ q : Int, q = 2 ^ n.toNat := ⟨_, rfl⟩
  have hq2 := hq.symm
  rw [hq2] at hp ⊢
  have wq : IntKind.i64.wrap (1 * 2 ^ n.toNat) = q := by rw [hq2, IntKind.wrap_i64]; omega
  have wq' : IntKind.i64.wrap (2 ^ n.toNat) = q := by rw [hq2, IntKind.wrap_i64]; omega
  clear hq hn
  by_cases h1 : 0 ≤ m
  · by_cases h2 : m < q
    · rw [decide_eq_true (show 0 ≤ m ∧ m < q from ⟨h1, h2⟩)]
      go_enter Try.func39, Try.ntmps39
      go_wp2
      go_ret
      exact ⟨rfl, rfl⟩
    · rw [decide_eq_false (show ¬ (0 ≤ m ∧ m < q) from fun h => h2 h.2)]
      go_enter Try.func39, Try.ntmps39
      go_wp2
      go_ret
      exact ⟨rfl, rfl⟩
  · rw [decide_eq_false (show ¬ (0 ≤ m ∧ m < q) from fun h => h1 h.1)]
    go_enter Try.func39, Try.ntmps39
    go_wp2
    go_ret
    exact ⟨rfl, rfl⟩
end Go.Proofs.Ytncdilkcblakhaa.In
