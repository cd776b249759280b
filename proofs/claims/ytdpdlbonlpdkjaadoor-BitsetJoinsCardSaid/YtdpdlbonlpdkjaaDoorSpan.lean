import Derived.Test.YtdpdlbonlpdkjaaDoorRows
import Derived.Test.YtdpdlbonlpdkjaaDoorMath
import Derived.WalkKit
import Derived.WalkSpells
import Derived.WalkLawsBesides
import Derived.Deep.QuietTactic
import Derived.BigQuiet
import Derived.Outline
import Derived.Below
import Derived.Laws.BitsAllLaws
namespace Go.Proofs.YtdpdlbonlpdkjaaDoor.Bs
open Go Go.RowKit
theorem hide {p : Prop} (h : p) : Hid p := h
theorem ret_int {k : IntKind} {a b : Int} (h : a = b) : Ending.returned (.int k a) = .returned (.int k b) := by rw [h]
theorem ret_bool {a b : Bool} (h : a = b) : Ending.returned (.bool a) = .returned (.bool b) := by rw [h]
theorem isRange (s f t : Int) (A : Option Addr) (n c : Nat) (w : World) :
    Calls Tryd.prog 38 #[.agg #[.int .i64 s, .slice A n c], .int .i64 f, .int .i64 t] w fun e w' => e = .returned (.bool (decide (0 ≤ f ∧ f ≤ t ∧ t ≤ s))) ∧ Below w.heap.size w w' := by
  go_enter Tryd.func38, Tryd.ntmps38
  go_wp2
  all_goals go_ret
  all_goals refine ⟨ret_bool ?_, (Below.refl _ _).alloc (Nat.le_refl _) _⟩
  all_goals rw [Bool.eq_iff_iff]; simp; try omega
theorem shl_all (lo : Nat) (h : lo ≤ 63) : IntKind.u64.wrap (18446744073709551615 * 2 ^ lo) = ((2 ^ 64 - 2 ^ lo : Nat) : Int) := by
  have hw : ∀ n : Int, IntKind.u64.wrap n = n % 18446744073709551616 := fun n => by simp [IntKind.wrap, IntKind.bits, IntKind.signed]
  rw [hw]
  have h1 : 2 ^ lo ≤ 2 ^ 63 := Nat.pow_le_pow_right (by omega) h
  have h0 : 0 < 2 ^ lo := Nat.two_pow_pos lo
  have e : ((2 : Int) ^ lo) = ((2 ^ lo : Nat) : Int) := by rw [Int.natCast_pow]; rfl
  rw [e]
  generalize 2 ^ lo = p at *
  omega
theorem shr_all (hi : Nat) (h : hi ≤ 64) : (18446744073709551615 : Int) / 2 ^ (64 - hi) = ((2 ^ hi - 1 : Nat) : Int) := by
  have e : ((2 : Int) ^ (64 - hi)) = ((2 ^ (64 - hi) : Nat) : Int) := by rw [Int.natCast_pow]; rfl
  rw [e]
  have hm : 2 ^ (64 - hi) * 2 ^ hi = 18446744073709551616 := by rw [← Nat.pow_add]; have : 64 - hi + hi = 64 := by omega
                                                                rw [this]
  have h0 : 0 < 2 ^ hi := Nat.two_pow_pos hi
  have h1 : 0 < 2 ^ (64 - hi) := Nat.two_pow_pos _
  have : 18446744073709551615 / 2 ^ (64 - hi) = 2 ^ hi - 1 := by
    apply Nat.div_eq_of_lt_le
    · rw [Nat.sub_mul, Nat.mul_comm, hm]; omega
    · rw [show 2 ^ hi - 1 + 1 = 2 ^ hi by omega, Nat.mul_comm, hm]; omega
  rw [← this, Int.natCast_ediv]; rfl
theorem span_close (lo hi : Nat) (h : lo < hi) (h2 : hi ≤ 64) :
    bits .and .u64 (IntKind.u64.wrap (18446744073709551615 * 2 ^ lo)) (18446744073709551615 / 2 ^ (64 - hi)) = ((mask lo hi : Nat) : Int) := by
  have hp := Nat.two_pow_pos lo
  rw [shl_all lo (by omega), shr_all hi h2, u64_and_nat _ _ (by omega) (by have : 2 ^ hi ≤ 2 ^ 64 := Nat.pow_le_pow_right (by omega) h2; omega), span_words lo hi h h2]
theorem shl_zero : IntKind.u64.wrap (18446744073709551615 * 2 ^ 0) = 18446744073709551615 := by rw [shl_all 0 (by omega)]; rfl
theorem shr_zero : (18446744073709551615 : Int) / 2 ^ (64 - 64) = 18446744073709551615 := by rw [shr_all 64 (by omega)]; rfl
theorem span_zero (k f t : Nat) (w : World) (h0 : k ≤ 64) (h1 : f ≤ 8192) (h2 : t ≤ 8192) (hz : min (t - k * 64) 64 ≤ f - k * 64) :
    Calls Tryd.prog 34 #[.int .i64 k, .int .i64 f, .int .i64 t] w fun e w' => e = .returned (.int .u64 (spanN k f t)) ∧ ∃ q, w' = w.drewN q := by
  rw [spanN_zero k f t hz]
  by_cases c1 : f < k * 64 <;> by_cases c2 : 64 + k * 64 < t
  · omega
  all_goals
    go_enter Tryd.func34, Tryd.ntmps34
    go_wp2
    all_goals go_ret
    all_goals exact ⟨rfl, 0, rfl⟩
theorem span_some (k f t : Nat) (w : World) (h0 : k ≤ 64) (h1 : f ≤ 8192) (h2 : t ≤ 8192) (hz : ¬ min (t - k * 64) 64 ≤ f - k * 64) :
    Calls Tryd.prog 34 #[.int .i64 k, .int .i64 f, .int .i64 t] w fun e w' => e = .returned (.int .u64 (spanN k f t)) ∧ ∃ q, w' = w.drewN q := by
  have hc := span_close (f - k * 64) (min (t - k * 64) 64) (by omega) (by omega)
  have HC := hide hc
  clear hc
  by_cases c1 : f < k * 64 <;> by_cases c2 : 64 + k * 64 < t
  all_goals
    go_enter Tryd.func34, Tryd.ntmps34
    go_wp2
    go_quiet (fail)
    go_wp2
    go_ret
    refine ⟨ret_int ?_, _, rfl⟩
    have hc := HC.out
    unfold spanN
    rw [← hc]
    try rw [show f - k * 64 = 0 by omega, shl_zero]
    first | rw [show min (t - k * 64) 64 = 64 by omega, shr_zero] | rw [show min (t - k * 64) 64 = t - k * 64 by omega]
theorem span_any (k f t : Nat) (w : World) (h0 : k ≤ 64) (h1 : f ≤ 8192) (h2 : t ≤ 8192) :
    Calls Tryd.prog 34 #[.int .i64 k, .int .i64 f, .int .i64 t] w fun e w' => e = .returned (.int .u64 (spanN k f t)) ∧ ∃ q, w' = w.drewN q := by
  by_cases hz : min (t - k * 64) 64 ≤ f - k * 64
  · exact span_zero k f t w h0 h1 h2 hz
  · exact span_some k f t w h0 h1 h2 hz
end Go.Proofs.YtdpdlbonlpdkjaaDoor.Bs
