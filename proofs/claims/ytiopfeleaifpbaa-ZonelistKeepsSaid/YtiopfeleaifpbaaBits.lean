import Derived.Test.YtiopfeleaifpbaaMath
import Derived.Laws.Bits128
import Derived.Laws.BitsAllLaws
namespace Go.Proofs.Ytiopfeleaifpbaa.Bd
open Go
set_option linter.unusedVariables false
def i64r (x : Int) : Prop := -9223372036854775808 ≤ x ∧ x ≤ 9223372036854775807
theorem toNat_ofInt (x : Int) : ((BitVec.ofInt 64 x).toNat : Int) = x % 18446744073709551616 := by
  rw [BitVec.toNat_ofInt]
  have : (0 : Int) ≤ x % 18446744073709551616 := Int.emod_nonneg _ (by decide)
  simp only [Nat.reducePow]
  omega
theorem nat_andNot (A k : Nat) (hA : A < 2 ^ 64) (hk : k ≤ 4) : A &&& (18446744073709551615 - (2 ^ k - 1)) = A - A % 2 ^ k := by
  have hd : (A &&& (18446744073709551615 - (2 ^ k - 1))) / 2 ^ k = A / 2 ^ k := by
    rw [Nat.and_div_two_pow]
    have : (18446744073709551615 - (2 ^ k - 1)) / 2 ^ k = 2 ^ (64 - k) - 1 := by
      rcases (by omega : k = 0 ∨ k = 1 ∨ k = 2 ∨ k = 3 ∨ k = 4) with rfl | rfl | rfl | rfl | rfl <;> decide
    rw [this, Nat.and_two_pow_sub_one_eq_mod]
    refine Nat.mod_eq_of_lt ?_
    rcases (by omega : k = 0 ∨ k = 1 ∨ k = 2 ∨ k = 3 ∨ k = 4) with rfl | rfl | rfl | rfl | rfl <;> simp only [Nat.reducePow, Nat.reduceSub] at * <;> omega
  have hr : (A &&& (18446744073709551615 - (2 ^ k - 1))) % 2 ^ k = 0 := by
    rw [Nat.and_mod_two_pow]
    have : (18446744073709551615 - (2 ^ k - 1)) % 2 ^ k = 0 := by
      rcases (by omega : k = 0 ∨ k = 1 ∨ k = 2 ∨ k = 3 ∨ k = 4) with rfl | rfl | rfl | rfl | rfl <;> decide
    rw [this, Nat.and_zero]
  generalize (A &&& (18446744073709551615 - (2 ^ k - 1))) = R at *
  rcases (by omega : k = 0 ∨ k = 1 ∨ k = 2 ∨ k = 3 ∨ k = 4) with rfl | rfl | rfl | rfl | rfl <;> simp only [Nat.reducePow] at * <;> omega
theorem bw_nat {k : Nat} (hk : k < 5) : bw k = ((2 ^ k : Nat) : Int) := by
  rcases cases5 hk with rfl | rfl | rfl | rfl | rfl <;> rfl
theorem andNot_dn {k : Nat} (hk : k < 5) (x : Int) (h : i64r x) : bits .andNot .i64 x (bw k - 1) = dn k x := by
  obtain ⟨h1, h2⟩ := h
  show IntKind.i64.wrap ((BitVec.ofInt 64 x &&& ~~~(BitVec.ofInt 64 (bw k - 1))).toNat : Nat) = dn k x
  rw [BitVec.toNat_and]
  have e1 : (~~~(BitVec.ofInt 64 (bw k - 1))).toNat = 18446744073709551615 - (2 ^ k - 1) := by
    rcases cases5 hk with rfl | rfl | rfl | rfl | rfl <;> decide
  have hx := toNat_ofInt x
  have hlt := (BitVec.ofInt 64 x).isLt
  rw [e1, nat_andNot _ k hlt (by omega), IntKind.wrap_i64]
  generalize (BitVec.ofInt 64 x).toNat = A at *
  unfold dn
  rcases cases5 hk with rfl | rfl | rfl | rfl | rfl <;> simp only [bw, Nat.reducePow] at * <;> omega
theorem nat_xor (A k : Nat) : A ^^^ 2 ^ k = if A / 2 ^ k % 2 = 0 then A + 2 ^ k else A - 2 ^ k := by
  have h1 : (A ^^^ 2 ^ k) % 2 ^ k = A % 2 ^ k := by rw [Nat.xor_mod_two_pow, Nat.mod_self, Nat.xor_zero]
  have h2 : (A ^^^ 2 ^ k) / 2 ^ k = A / 2 ^ k ^^^ 1 := by rw [Nat.xor_div_two_pow, Nat.div_self (Nat.two_pow_pos k)]
  have h3 : ∀ B : Nat, B ^^^ 1 = if B % 2 = 0 then B + 1 else B - 1 := fun B => by
    have a : (B ^^^ 1) / 2 = B / 2 := by have := @Nat.xor_div_two_pow B 1 1; simpa using this
    have b : (B ^^^ 1) % 2 = (B % 2 + 1) % 2 := by
      have := @Nat.xor_mod_two_pow B 1 1
      simp only [Nat.pow_one] at this
      rw [this]
      rcases Nat.mod_two_eq_zero_or_one B with e | e <;> (rw [e]; decide)
    split <;> omega
  rw [h3] at h2
  have e1 := Nat.div_add_mod (A ^^^ 2 ^ k) (2 ^ k)
  have e2 := Nat.div_add_mod A (2 ^ k)
  rw [h1, h2] at e1
  rcases Nat.mod_two_eq_zero_or_one (A / 2 ^ k) with e | e
  · rw [if_pos e] at e1 ⊢
    have : 2 ^ k * (A / 2 ^ k + 1) = 2 ^ k * (A / 2 ^ k) + 2 ^ k := by rw [Nat.mul_add, Nat.mul_one]
    rw [this] at e1
    clear this h1 h2 h3 e
    generalize 2 ^ k * (A / 2 ^ k) = M at *
    generalize A % 2 ^ k = S at *
    generalize A ^^^ 2 ^ k = R at *
    generalize 2 ^ k = P at *
    omega
  · have e' : ¬ (A / 2 ^ k % 2 = 0) := by rw [e]; decide
    rw [if_neg e'] at e1 ⊢
    have hp : 0 < A / 2 ^ k := Nat.pos_of_ne_zero fun h => by rw [h] at e; exact absurd e (by decide)
    have h4 : 2 ^ k * (A / 2 ^ k - 1) = 2 ^ k * (A / 2 ^ k) - 2 ^ k := by rw [Nat.mul_sub, Nat.mul_one]
    have h5 : 2 ^ k ≤ 2 ^ k * (A / 2 ^ k) := Nat.le_mul_of_pos_right _ hp
    rw [h4] at e1
    clear h4 h1 h2 h3 e e' hp
    generalize 2 ^ k * (A / 2 ^ k) = M at *
    generalize A % 2 ^ k = S at *
    generalize A ^^^ 2 ^ k = R at *
    generalize 2 ^ k = P at *
    omega
theorem xor_bud {k : Nat} (hk : k < 4) (x : Int) (h0 : 0 ≤ x) (h1 : x ≤ 1000) (hm : x % bw k = 0) : bits .xor .i64 x (bw k) = bud k x := by
  obtain ⟨A, rfl⟩ := Int.eq_ofNat_of_zero_le h0
  show IntKind.i64.wrap ((BitVec.ofInt 64 A ^^^ BitVec.ofInt 64 (bw k)).toNat : Nat) = bud k A
  rw [BitVec.toNat_xor]
  have e1 : (BitVec.ofInt 64 (bw k)).toNat = 2 ^ k := by
    rcases cases4 hk with rfl | rfl | rfl | rfl <;> decide
  have hx := toNat_ofInt A
  have e2 : (BitVec.ofInt 64 (A : Int)).toNat = A := by omega
  rw [e1, e2, nat_xor, IntKind.wrap_i64]
  unfold bud
  rcases cases4 hk with rfl | rfl | rfl | rfl <;> simp only [bw, Nat.reducePow] at * <;> repeat' split <;> omega
end Go.Proofs.Ytiopfeleaifpbaa.Bd
