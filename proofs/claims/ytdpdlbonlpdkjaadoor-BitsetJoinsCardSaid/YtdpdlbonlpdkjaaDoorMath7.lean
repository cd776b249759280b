/-
  Plain mathematics on lists of words: joined and turned. No program text.
-/
import Derived.Test.YtdpdlbonlpdkjaaDoorMath6
namespace Go.Proofs.YtdpdlbonlpdkjaaDoor.Bs
set_option linter.unusedVariables false
/-- zs is ws with the bits of the first k words as v says -/
def wordTo (ws zs : List Nat) (v : Nat → Bool) (k : Nat) : Prop :=
  zs.length = ws.length ∧ (∀ x ∈ zs, x < 2 ^ 64) ∧ ∀ i, bitAt zs i = if i < 64 * k then v i else bitAt ws i
theorem wordTo_start {ws : List Nat} {v : Nat → Bool} (hw : ∀ x ∈ ws, x < 2 ^ 64) : wordTo ws ws v 0 := ⟨rfl, hw, fun i => by rw [if_neg (by omega)]⟩
theorem wordTo_step {ws zs : List Nat} {v : Nat → Bool} {k x : Nat} (h : wordTo ws zs v k) (hk : k < ws.length) (hx : x < 2 ^ 64) (hb : ∀ j, j < 64 → x.testBit j = v (64 * k + j)) : wordTo ws (zs.set k x) v (k + 1) := by
  obtain ⟨h1, h2, h3⟩ := h
  refine ⟨by rw [List.length_set, h1], mem_set_lt h2 hx, fun i => ?_⟩
  rw [bitAt_set _ _ _ _ (by omega)]
  by_cases c : i / 64 = k
  · rw [if_pos c, if_pos (by omega), hb _ (by omega)]
    congr 1; omega
  · rw [if_neg c, h3 i]
    have : (i < 64 * (k + 1)) ↔ (i < 64 * k) := by omega
    simp only [this]
/-- zs has the bits that v says, below its end -/
def bitsAre (n : Nat) (zs : List Nat) (v : Nat → Bool) : Prop := zs.length = n ∧ (∀ x ∈ zs, x < 2 ^ 64) ∧ ∀ i, i < 64 * n → bitAt zs i = v i
theorem wordTo_end {ws zs : List Nat} {v : Nat → Bool} (h : wordTo ws zs v ws.length) : bitsAre ws.length zs v :=
  ⟨h.1, h.2.1, fun i hi => by rw [h.2.2 i, if_pos hi]⟩
theorem bitsAre.one {n : Nat} {xs ys : List Nat} {v : Nat → Bool} (h : bitsAre n xs v) (g : bitsAre n ys v) : xs = ys :=
  words_ext (h.1.trans g.1.symm) h.2.1 g.2.1 fun i hi => by rw [h.2.2 i (by rw [← h.1]; exact hi), g.2.2 i (by rw [← h.1]; exact hi)]
theorem bitsAre.congr {n : Nat} {xs : List Nat} {v u : Nat → Bool} (h : bitsAre n xs v) (e : ∀ i, i < 64 * n → v i = u i) : bitsAre n xs u :=
  ⟨h.1, h.2.1, fun i hi => by rw [h.2.2 i hi, e i hi]⟩
theorem bitAt_nat (ws : List Nat) (k j : Nat) (hj : j < 64) : bitAt ws (64 * k + j) = (ws.getD k 0).testBit j := by
  unfold bitAt
  have e1 : (64 * k + j) / 64 = k := by omega
  have e2 : (64 * k + j) % 64 = j := by omega
  rw [e1, e2]
/-- the word of a complement -/
def notW (S : Nat) (ws : List Nat) (k : Nat) : Nat := (2 ^ 64 - 1 - ws.getD k 0) &&& spanN k 0 S
theorem notW_lt (S : Nat) (ws : List Nat) (k : Nat) : notW S ws k < 2 ^ 64 := Nat.lt_of_le_of_lt Nat.and_le_right (spanN_lt _ _ _)
theorem testBit_notW {S : Nat} {ws : List Nat} (hw : ∀ x ∈ ws, x < 2 ^ 64) (k j : Nat) (hj : j < 64) : (notW S ws k).testBit j = (!bitAt ws (64 * k + j) && decide (64 * k + j < S)) := by
  unfold notW
  rw [Nat.testBit_and, testBit_compl _ _ (getD_lt' hw k) hj, testBit_spanN _ _ _ _ hj, bitAt_nat _ _ _ hj, Nat.mul_comm k 64]
  simp
theorem wordTo_read {ws zs : List Nat} {v : Nat → Bool} {k : Nat} (h : wordTo ws zs v k) (hw : ∀ x ∈ ws, x < 2 ^ 64) : zs.getD k 0 = ws.getD k 0 := by
  apply word_ext (getD_lt' h.2.1 k) (getD_lt' hw k)
  intro j hj
  have := h.2.2 (64 * k + j)
  rw [if_neg (by omega), bitAt_nat _ _ _ hj, bitAt_nat _ _ _ hj] at this
  exact this
end Go.Proofs.YtdpdlbonlpdkjaaDoor.Bs
