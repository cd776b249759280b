import Derived.Test.YthoeolaleeogbaaPteMath
import Derived.Laws.BitsAllLaws
namespace Go.Proofs.Ythoeolaleeogbaa.Pt
open Go
set_option linter.unusedVariables false
theorem and_mask (W : Int) (m i : Nat) (h0 : 0 ≤ W) (h1 : W < 18446744073709551616) (hm : m = 2 ^ i - 1) (hm2 : m < 18446744073709551616) : bits .and .u64 W (m : Int) = W % ((2 ^ i : Nat) : Int) := by
  obtain ⟨A, rfl⟩ := Int.eq_ofNat_of_zero_le h0
  rw [u64_and_nat A m (by omega) hm2, hm, Nat.and_two_pow_sub_one_eq_mod, Int.natCast_emod]
theorem and7 (W : Int) (h0 : 0 ≤ W) (h1 : W < 18446744073709551616) : bits .and .u64 W 7 = W % 8 := and_mask W 7 3 h0 h1 rfl (by omega)
theorem andN (W : Int) (h0 : 0 ≤ W) (h1 : W < 18446744073709551616) : bits .and .u64 W 4294967295 = W % 4294967296 := and_mask W 4294967295 32 h0 h1 rfl (by omega)
theorem and_bit (W : Int) (i : Nat) (h0 : 0 ≤ W) (h1 : W < 18446744073709551616) (hi : i < 64) : bits .and .u64 W ((2 ^ i : Nat) : Int) = W / ((2 ^ i : Nat) : Int) % 2 * ((2 ^ i : Nat) : Int) := by
  obtain ⟨A, rfl⟩ := Int.eq_ofNat_of_zero_le h0
  have hp : 2 ^ i < 2 ^ 64 := Nat.pow_lt_pow_right (by omega) hi
  rw [u64_and_nat A _ (by omega) (by omega), nat_bit, Int.natCast_mul, Int.natCast_emod, Int.natCast_ediv]
  rfl
theorem and8 (W : Int) (h0 : 0 ≤ W) (h1 : W < 18446744073709551616) : bits .and .u64 W 8 = 8 * (W / 8 % 2) := by have := and_bit W 3 h0 h1 (by omega); simp at this; omega
theorem and16 (W : Int) (h0 : 0 ≤ W) (h1 : W < 18446744073709551616) : bits .and .u64 W 16 = 16 * (W / 16 % 2) := by have := and_bit W 4 h0 h1 (by omega); simp at this; omega
theorem and32 (W : Int) (h0 : 0 ≤ W) (h1 : W < 18446744073709551616) : bits .and .u64 W 32 = 32 * (W / 32 % 2) := by have := and_bit W 5 h0 h1 (by omega); simp at this; omega
theorem and64 (W : Int) (h0 : 0 ≤ W) (h1 : W < 18446744073709551616) : bits .and .u64 W 64 = 64 * (W / 64 % 2) := by have := and_bit W 6 h0 h1 (by omega); simp at this; omega
theorem low_or (a m : Nat) (ha : a < 64) (hm : m = 16 ∨ m = 32 ∨ m = 48) : a ||| m = a + (if m = 16 ∨ m = 48 then 16 * (1 - a / 16 % 2) else 0) + (if m = 32 ∨ m = 48 then 32 * (1 - a / 32 % 2) else 0) := by
  rcases hm with rfl | rfl | rfl
  · revert a; decide
  · revert a; decide
  · revert a; decide
theorem nat_or (A m : Nat) (hm : m = 16 ∨ m = 32 ∨ m = 48) : A ||| m = A + (if m = 16 ∨ m = 48 then 16 * (1 - A / 16 % 2) else 0) + (if m = 32 ∨ m = 48 then 32 * (1 - A / 32 % 2) else 0) := by
  have hd : (A ||| m) / 2 ^ 6 = A / 2 ^ 6 := by
    rw [Nat.or_div_two_pow]
    have : m / 2 ^ 6 = 0 := by omega
    rw [this, Nat.or_zero]
  have hr : (A ||| m) % 2 ^ 6 = A % 2 ^ 6 ||| m := by
    rw [Nat.or_mod_two_pow]
    have : m % 2 ^ 6 = m := by omega
    rw [this]
  have hl := low_or (A % 2 ^ 6) m (by omega) hm
  have e1 : A % 2 ^ 6 / 16 % 2 = A / 16 % 2 := by omega
  have e2 : A % 2 ^ 6 / 32 % 2 = A / 32 % 2 := by omega
  rw [e1, e2, ← hr] at hl
  generalize (A ||| m) = R at *
  rcases hm with rfl | rfl | rfl <;> simp at hl ⊢ <;> omega
theorem or16 (W : Int) (h0 : 0 ≤ W) (h1 : W < 18446744073709551616) : bits .or .u64 W 16 = W + 16 * (1 - W / 16 % 2) := by
  obtain ⟨A, rfl⟩ := Int.eq_ofNat_of_zero_le h0
  have h := u64_or_nat A 16 (by omega) (by omega)
  rw [nat_or A 16 (.inl rfl)] at h
  simp at h
  omega
theorem or32 (W : Int) (h0 : 0 ≤ W) (h1 : W < 18446744073709551616) : bits .or .u64 W 32 = W + 32 * (1 - W / 32 % 2) := by
  obtain ⟨A, rfl⟩ := Int.eq_ofNat_of_zero_le h0
  have h := u64_or_nat A 32 (by omega) (by omega)
  rw [nat_or A 32 (.inr (.inl rfl))] at h
  simp at h
  omega
theorem or48 (W : Int) (h0 : 0 ≤ W) (h1 : W < 18446744073709551616) : bits .or .u64 W 48 = W + 16 * (1 - W / 16 % 2) + 32 * (1 - W / 32 % 2) := by
  obtain ⟨A, rfl⟩ := Int.eq_ofNat_of_zero_le h0
  have h := u64_or_nat A 48 (by omega) (by omega)
  rw [nat_or A 48 (.inr (.inr rfl))] at h
  simp at h
  omega
theorem low_not (a m : Nat) (ha : a < 32) (hm : m = 8 ∨ m = 16) : a &&& (31 - m) = a - m * (a / m % 2) := by
  rcases hm with rfl | rfl
  · revert a; decide
  · revert a; decide
theorem nat_not (A m : Nat) (hA : A < 18446744073709551616) (hm : m = 8 ∨ m = 16) : A &&& (18446744073709551615 - m) = A - m * (A / m % 2) := by
  have hd : (A &&& (18446744073709551615 - m)) / 2 ^ 5 = A / 2 ^ 5 := by
    rw [Nat.and_div_two_pow]
    have : (18446744073709551615 - m) / 2 ^ 5 = 2 ^ 59 - 1 := by omega
    rw [this, Nat.and_two_pow_sub_one_eq_mod]
    omega
  have hr : (A &&& (18446744073709551615 - m)) % 2 ^ 5 = A % 2 ^ 5 &&& (31 - m) := by
    rw [Nat.and_mod_two_pow]
    have : (18446744073709551615 - m) % 2 ^ 5 = 31 - m := by omega
    rw [this]
  have hl := low_not (A % 2 ^ 5) m (by omega) hm
  rw [← hr] at hl
  generalize (A &&& (18446744073709551615 - m)) = R at *
  rcases hm with rfl | rfl <;> omega
theorem not8 (W : Int) (h0 : 0 ≤ W) (h1 : W < 18446744073709551616) : bits .andNot .u64 W 8 = W - 8 * (W / 8 % 2) := by
  obtain ⟨A, rfl⟩ := Int.eq_ofNat_of_zero_le h0
  have h := u64_andNot_nat A 8 (by omega) (by omega)
  rw [nat_not A 8 (by omega) (.inl rfl)] at h
  simp at h
  omega
theorem not16 (W : Int) (h0 : 0 ≤ W) (h1 : W < 18446744073709551616) : bits .andNot .u64 W 16 = W - 16 * (W / 16 % 2) := by
  obtain ⟨A, rfl⟩ := Int.eq_ofNat_of_zero_le h0
  have h := u64_andNot_nat A 16 (by omega) (by omega)
  rw [nat_not A 16 (by omega) (.inr rfl)] at h
  simp at h
  omega
/-- The bits of an entry joined to its number. -/
theorem or_num (y n : Int) (h0 : 0 ≤ y) (h1 : y < 256) (h2 : 0 ≤ n) (h3 : n ≤ 4294967295) : bits .or .u64 y (256 * n) = y + 256 * n := by
  obtain ⟨Y, rfl⟩ := Int.eq_ofNat_of_zero_le h0
  obtain ⟨N, rfl⟩ := Int.eq_ofNat_of_zero_le h2
  have h := u64_or_nat Y (256 * N) (by omega) (by omega)
  have e : Y ||| 256 * N = 256 * N + Y := by
    rw [Nat.or_comm]
    exact nat_join 8 (256 * N) Y (by omega) (by omega)
  rw [e] at h
  have e2 : ((256 * N : Nat) : Int) = 256 * (N : Int) := by omega
  rw [e2] at h
  rw [h]
  omega
def low8 (k : Int) (wr ac di hu : Bool) : Int := k + 8 * b2 wr + 16 * b2 ac + 32 * b2 di + 64 * b2 hu
theorem low_a (k : Int) (wr ac di hu : Bool) (h0 : 0 ≤ k) (h1 : k ≤ 4) : bits .or .u64 k (bits .or .u64 (bits .or .u64 (bits .or .u64 (b2 wr * 8) (b2 ac * 16)) (b2 di * 32)) (b2 hu * 64)) = low8 k wr ac di hu := by
  rcases (by omega : k = 0 ∨ k = 1 ∨ k = 2 ∨ k = 3 ∨ k = 4) with rfl | rfl | rfl | rfl | rfl <;> cases wr <;> cases ac <;> cases di <;> cases hu <;> decide
theorem low_b (k : Int) (wr ac di hu : Bool) (h0 : 0 ≤ k) (h1 : k ≤ 4) : bits .or .u64 (bits .or .u64 (bits .or .u64 (bits .or .u64 k (b2 wr * 8)) (b2 ac * 16)) (b2 di * 32)) (b2 hu * 64) = low8 k wr ac di hu := by
  rcases (by omega : k = 0 ∨ k = 1 ∨ k = 2 ∨ k = 3 ∨ k = 4) with rfl | rfl | rfl | rfl | rfl <;> cases wr <;> cases ac <;> cases di <;> cases hu <;> decide
theorem low8_bd (k : Int) (wr ac di hu : Bool) (h0 : 0 ≤ k) (h1 : k ≤ 4) : 0 ≤ low8 k wr ac di hu ∧ low8 k wr ac di hu < 256 := by
  have a1 := b2_bd wr
  have a2 := b2_bd ac
  have a3 := b2_bd di
  have a4 := b2_bd hu
  unfold low8; omega
theorem low8_word (k n : Int) (wr ac di hu : Bool) : low8 k wr ac di hu + 256 * n = word0 k n wr ac di hu := by unfold low8 word0; omega
theorem pack_a (k n : Int) (wr ac di hu : Bool) (h0 : 0 ≤ k) (h1 : k ≤ 4) (h2 : 0 ≤ n) (h3 : n ≤ 4294967295) :
    bits .or .u64 (bits .or .u64 k (bits .or .u64 (bits .or .u64 (bits .or .u64 (b2 wr * 8) (b2 ac * 16)) (b2 di * 32)) (b2 hu * 64))) (n * 256) = word0 k n wr ac di hu := by
  obtain ⟨a, b⟩ := low8_bd k wr ac di hu h0 h1
  rw [low_a k wr ac di hu h0 h1, Int.mul_comm n 256, or_num _ n a b h2 h3, low8_word]
theorem pack_b (k n : Int) (wr ac di hu : Bool) (h0 : 0 ≤ k) (h1 : k ≤ 4) (h2 : 0 ≤ n) (h3 : n ≤ 4294967295) :
    bits .or .u64 (bits .or .u64 (bits .or .u64 (bits .or .u64 (bits .or .u64 k (b2 wr * 8)) (b2 ac * 16)) (b2 di * 32)) (b2 hu * 64)) (n * 256) = word0 k n wr ac di hu := by
  obtain ⟨a, b⟩ := low8_bd k wr ac di hu h0 h1
  rw [low_b k wr ac di hu h0 h1, Int.mul_comm n 256, or_num _ n a b h2 h3, low8_word]
-- THE TESTS OF FLAGS
theorem t8 (W : Int) (h0 : 0 ≤ W) (h1 : W < 18446744073709551616) : (bits .and .u64 W 8 != 0) = f3 W ∧ decide (0 < bits .and .u64 W 8) = f3 W := by
  rw [and8 W h0 h1]; unfold f3; constructor <;> (rw [Bool.eq_iff_iff]; simp; omega)
theorem t16 (W : Int) (h0 : 0 ≤ W) (h1 : W < 18446744073709551616) : (bits .and .u64 W 16 != 0) = f4 W ∧ decide (0 < bits .and .u64 W 16) = f4 W := by
  rw [and16 W h0 h1]; unfold f4; constructor <;> (rw [Bool.eq_iff_iff]; simp; omega)
theorem t32 (W : Int) (h0 : 0 ≤ W) (h1 : W < 18446744073709551616) : (bits .and .u64 W 32 != 0) = f5 W ∧ decide (0 < bits .and .u64 W 32) = f5 W := by
  rw [and32 W h0 h1]; unfold f5; constructor <;> (rw [Bool.eq_iff_iff]; simp; omega)
theorem t64 (W : Int) (h0 : 0 ≤ W) (h1 : W < 18446744073709551616) : (bits .and .u64 W 64 != 0) = f6 W ∧ decide (0 < bits .and .u64 W 64) = f6 W := by
  rw [and64 W h0 h1]; unfold f6; constructor <;> (rw [Bool.eq_iff_iff]; simp; omega)
theorem tk (W : Int) (h0 : 0 ≤ W) (h1 : W < 18446744073709551616) : bits .and .u64 W 7 = uk W := and7 W h0 h1
theorem tn (W : Int) (h0 : 0 ≤ W) (h1 : W < 18446744073709551616) : bits .and .u64 (W / 256) 4294967295 = un W := andN _ (by omega) (by omega)
end Go.Proofs.Ythoeolaleeogbaa.Pt
