/-
  Plain mathematics on lists of words: one bit put. No program text.
-/
import Derived.Test.YtdpdlbonlpdkjaaDoorMath4
namespace Go.Proofs.YtdpdlbonlpdkjaaDoor.Bs
def putW (on : Bool) (x j : Nat) : Nat := if on then x ||| 2 ^ j else x &&& (18446744073709551615 - 2 ^ j)
theorem putW_lt {on : Bool} {x j : Nat} (hx : x < 2 ^ 64) (hj : j < 64) : putW on x j < 2 ^ 64 := by
  have h2 : 2 ^ j < 2 ^ 64 := Nat.pow_lt_pow_right (by omega) hj
  unfold putW
  split
  · exact Nat.or_lt_two_pow hx h2
  · exact Nat.lt_of_le_of_lt Nat.and_le_left hx
theorem testBit_putW {on : Bool} {x j i : Nat} (hj : j < 64) (hi : i < 64) : (putW on x j).testBit i = if i = j then on else x.testBit i := by
  have h2 : 2 ^ j < 2 ^ 64 := Nat.pow_lt_pow_right (by omega) hj
  unfold putW
  cases on
  · rw [if_neg (by simp), Nat.testBit_and]
    have hc := testBit_compl (2 ^ j) i h2 hi
    rw [show (18446744073709551615 : Nat) = 2 ^ 64 - 1 by rfl, hc, Nat.testBit_two_pow]
    by_cases h : i = j
    · subst h; simp
    · have : ¬ j = i := fun e => h e.symm
      simp [h, this]
  · rw [if_pos rfl, Nat.testBit_or, Nat.testBit_two_pow]
    by_cases h : i = j
    · subst h; simp
    · have : ¬ j = i := fun e => h e.symm
      simp [h, this]
theorem bitAt_put {zs : List Nat} {on : Bool} {i : Nat} (hi : i / 64 < zs.length) (j : Nat) : bitAt (zs.set (i / 64) (putW on (zs.getD (i / 64) 0) (i % 64))) j = if j = i then on else bitAt zs j := by
  rw [bitAt_set _ _ _ _ hi]
  by_cases h : j / 64 = i / 64
  · rw [if_pos h, testBit_putW (by omega) (by omega)]
    by_cases h2 : j = i
    · subst h2; simp
    · rw [if_neg (by omega), if_neg h2]
      unfold bitAt
      rw [h]
  · rw [if_neg h, if_neg (fun e => h (by rw [e]))]
theorem filled_start {ws : List Nat} {lo : Nat} {on : Bool} (hw : ∀ x ∈ ws, x < 2 ^ 64) : filled ws ws lo lo on :=
  ⟨rfl, hw, fun i => by rw [if_neg (by omega)]⟩
theorem filled_put {ws zs : List Nat} {lo k : Nat} {on : Bool} (h : filled ws zs lo k on) (hlo : lo ≤ k) (hk : k / 64 < ws.length) : filled ws (zs.set (k / 64) (putW on (zs.getD (k / 64) 0) (k % 64))) lo (k + 1) on := by
  obtain ⟨h1, h2, h3⟩ := h
  refine ⟨by rw [List.length_set, h1], mem_set_lt h2 (putW_lt (getD_lt' h2 _) (by omega)), fun i => ?_⟩
  rw [bitAt_put (by omega), h3 i]
  by_cases c : i = k
  · rw [if_pos c, if_pos (by omega)]
  · rw [if_neg c]
    have : (lo ≤ i ∧ i < k + 1) ↔ (lo ≤ i ∧ i < k) := by omega
    simp only [this]
/-- zs is ws with the bits below k as v says -/
def putAll (ws zs : List Nat) (v : Nat → Bool) (k : Nat) : Prop :=
  zs.length = ws.length ∧ (∀ x ∈ zs, x < 2 ^ 64) ∧ ∀ i, bitAt zs i = if i < k then v i else bitAt ws i
theorem putAll_start {ws : List Nat} {v : Nat → Bool} (hw : ∀ x ∈ ws, x < 2 ^ 64) : putAll ws ws v 0 := ⟨rfl, hw, fun i => by rw [if_neg (by omega)]⟩
theorem putAll_step {ws zs : List Nat} {v : Nat → Bool} {k : Nat} (h : putAll ws zs v k) (hk : k / 64 < ws.length) : putAll ws (zs.set (k / 64) (putW (v k) (zs.getD (k / 64) 0) (k % 64))) v (k + 1) := by
  obtain ⟨h1, h2, h3⟩ := h
  refine ⟨by rw [List.length_set, h1], mem_set_lt h2 (putW_lt (getD_lt' h2 _) (by omega)), fun i => ?_⟩
  rw [bitAt_put (by omega), h3 i]
  by_cases c : i = k
  · rw [if_pos c, if_pos (by omega), c]
  · rw [if_neg c]
    have : (i < k + 1) ↔ (i < k) := by omega
    simp only [this]
theorem putAll_one {ws xs ys : List Nat} {v : Nat → Bool} {k : Nat} (h : putAll ws xs v k) (g : putAll ws ys v k) : xs = ys :=
  words_ext (h.1.trans g.1.symm) h.2.1 g.2.1 fun i _ => by rw [h.2.2 i, g.2.2 i]
end Go.Proofs.YtdpdlbonlpdkjaaDoor.Bs
