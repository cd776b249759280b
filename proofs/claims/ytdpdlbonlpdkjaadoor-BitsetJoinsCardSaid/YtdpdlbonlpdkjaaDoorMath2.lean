/-
  Plain mathematics on lists of words: filling, putting, joining. No program text.
-/
import Derived.Test.YtdpdlbonlpdkjaaDoorMath
namespace Go.Proofs.YtdpdlbonlpdkjaaDoor.Bs

theorem bitAt_set (zs : List Nat) (k x i : Nat) (hk : k < zs.length) : bitAt (zs.set k x) i = if i / 64 = k then x.testBit (i % 64) else bitAt zs i := by
  unfold bitAt
  by_cases h : i / 64 = k
  · subst h
    simp [List.getD_eq_getElem?_getD, hk]
  · have h' : k ≠ i / 64 := fun e => h e.symm
    simp [List.getD_eq_getElem?_getD, h, List.getElem?_set_ne h']
theorem mem_set_lt {zs : List Nat} {k x : Nat} (hz : ∀ y ∈ zs, y < 2 ^ 64) (hx : x < 2 ^ 64) : ∀ y ∈ zs.set k x, y < 2 ^ 64 := by
  intro y hy
  rcases List.mem_or_eq_of_mem_set hy with h | h
  · exact hz y h
  · rw [h]; exact hx
theorem getD_lt' {ws : List Nat} (hw : ∀ x ∈ ws, x < 2 ^ 64) (i : Nat) : ws.getD i 0 < 2 ^ 64 := by
  rw [List.getD_eq_getElem?_getD]
  by_cases h : i < ws.length
  · rw [List.getElem?_eq_getElem h]; exact hw _ (List.getElem_mem h)
  · rw [List.getElem?_eq_none (by omega)]; decide

/-- zs is ws with the bits lo .. hi-1 of the first k words set to on -/
def fillTo (ws zs : List Nat) (lo hi : Nat) (on : Bool) (k : Nat) : Prop :=
  zs.length = ws.length ∧ (∀ x ∈ zs, x < 2 ^ 64) ∧ ∀ i, bitAt zs i = if i < 64 * k ∧ lo ≤ i ∧ i < hi then on else bitAt ws i
/-- zs is ws with the bits lo .. hi-1 set to on -/
def filled (ws zs : List Nat) (lo hi : Nat) (on : Bool) : Prop :=
  zs.length = ws.length ∧ (∀ x ∈ zs, x < 2 ^ 64) ∧ ∀ i, bitAt zs i = if lo ≤ i ∧ i < hi then on else bitAt ws i
theorem fillTo_start {ws : List Nat} {lo hi : Nat} {on : Bool} (hw : ∀ x ∈ ws, x < 2 ^ 64) : fillTo ws ws lo hi on 0 :=
  ⟨rfl, hw, fun i => by simp⟩
theorem fillTo_end {ws zs : List Nat} {lo hi : Nat} {on : Bool} (h : fillTo ws zs lo hi on ws.length) (hh : hi ≤ 64 * ws.length) : filled ws zs lo hi on :=
  ⟨h.1, h.2.1, fun i => by
    rw [h.2.2 i]
    by_cases c : lo ≤ i ∧ i < hi
    · rw [if_pos c, if_pos ⟨by omega, c⟩]
    · rw [if_neg c, if_neg (fun hc => c hc.2)]⟩
theorem fillTo_on {ws zs : List Nat} {lo hi k : Nat} (h : fillTo ws zs lo hi true k) (hk : k < ws.length) : fillTo ws (zs.set k (zs.getD k 0 ||| spanN k lo hi)) lo hi true (k + 1) := by
  obtain ⟨h1, h2, h3⟩ := h
  have hx : zs.getD k 0 ||| spanN k lo hi < 2 ^ 64 := Nat.or_lt_two_pow (getD_lt' h2 k) (spanN_lt _ _ _)
  refine ⟨by rw [List.length_set, h1], mem_set_lt h2 hx, fun i => ?_⟩
  rw [bitAt_set _ _ _ _ (by omega)]
  by_cases c : i / 64 = k
  · rw [if_pos c, Nat.testBit_or, testBit_spanN _ _ _ _ (by omega)]
    have e : k * 64 + i % 64 = i := by omega
    rw [e]
    have hb : (zs.getD k 0).testBit (i % 64) = bitAt zs i := by unfold bitAt; rw [c]
    rw [hb, h3 i, if_neg (by omega)]
    by_cases c2 : lo ≤ i ∧ i < hi
    · rw [if_pos (by omega)]; simp [c2.1, c2.2]
    · rw [if_neg (by omega)]
      have : (decide (lo ≤ i) && decide (i < hi)) = false := by simpa using fun a => by omega
      rw [this, Bool.or_false]
  · rw [if_neg c, h3 i]
    have : (i < 64 * (k + 1) ∧ lo ≤ i ∧ i < hi) ↔ (i < 64 * k ∧ lo ≤ i ∧ i < hi) := by omega
    simp only [this]
theorem fillTo_off {ws zs : List Nat} {lo hi k : Nat} (h : fillTo ws zs lo hi false k) (hk : k < ws.length) : fillTo ws (zs.set k (zs.getD k 0 &&& (18446744073709551615 - spanN k lo hi))) lo hi false (k + 1) := by
  obtain ⟨h1, h2, h3⟩ := h
  have hx : zs.getD k 0 &&& (18446744073709551615 - spanN k lo hi) < 2 ^ 64 := Nat.lt_of_le_of_lt Nat.and_le_left (getD_lt' h2 k)
  refine ⟨by rw [List.length_set, h1], mem_set_lt h2 hx, fun i => ?_⟩
  rw [bitAt_set _ _ _ _ (by omega)]
  by_cases c : i / 64 = k
  · have hc := testBit_compl (spanN k lo hi) (i % 64) (spanN_lt _ _ _) (by omega)
    rw [if_pos c, Nat.testBit_and, show (18446744073709551615 : Nat) = 2 ^ 64 - 1 by rfl, hc, testBit_spanN _ _ _ _ (by omega)]
    have e : k * 64 + i % 64 = i := by omega
    rw [e]
    have hb : (zs.getD k 0).testBit (i % 64) = bitAt zs i := by unfold bitAt; rw [c]
    rw [hb, h3 i, if_neg (by omega)]
    by_cases c2 : lo ≤ i ∧ i < hi
    · rw [if_pos (by omega)]; simp [c2.1, c2.2]
    · rw [if_neg (by omega)]
      have : (decide (lo ≤ i) && decide (i < hi)) = false := by simpa using fun a => by omega
      rw [this]; simp
  · rw [if_neg c, h3 i]
    have : (i < 64 * (k + 1) ∧ lo ≤ i ∧ i < hi) ↔ (i < 64 * k ∧ lo ≤ i ∧ i < hi) := by omega
    simp only [this]
/-- the list that is filled is one only -/
theorem filled_one {ws xs ys : List Nat} {lo hi : Nat} {on : Bool} (h : filled ws xs lo hi on) (k : filled ws ys lo hi on) : xs = ys :=
  words_ext (h.1.trans k.1.symm) h.2.1 k.2.1 fun i _ => by rw [h.2.2 i, k.2.2 i]
end Go.Proofs.YtdpdlbonlpdkjaaDoor.Bs
