/-
  Plain mathematics on words and bits: lists of naturals below 2^64 as sets of bits. No program text.
-/
namespace Go.Proofs.YtdpdlbonlpdkjaaDoor.Bs

/-- Word limit. -/
def lim : Nat := 2 ^ 64

/-- bit i of a list of words -/
def bitAt (ws : List Nat) (i : Nat) : Bool := (ws.getD (i / 64) 0).testBit (i % 64)

/-- the mask with the bits lo .. hi-1 -/
def mask (lo hi : Nat) : Nat := (2 ^ (hi - lo) - 1) <<< lo

theorem testBit_mask (lo hi j : Nat) : (mask lo hi).testBit j = (decide (lo ≤ j) && decide (j < hi)) := by
  unfold mask
  rw [Nat.testBit_shiftLeft, Nat.testBit_two_pow_sub_one]
  by_cases h : lo ≤ j
  · have : (j - lo < hi - lo) ↔ j < hi := by omega
    simp [h, this]
  · simp [h]

/-- what span answers -/
def spanN (w frm to_ : Nat) : Nat := mask (frm - w * 64) (min (to_ - w * 64) 64)

theorem testBit_spanN (w frm to_ j : Nat) (hj : j < 64) : (spanN w frm to_).testBit j = (decide (frm ≤ w * 64 + j) && decide (w * 64 + j < to_)) := by
  unfold spanN
  rw [testBit_mask]
  have h1 : (frm - w * 64 ≤ j) ↔ frm ≤ w * 64 + j := by omega
  have h2 : (j < min (to_ - w * 64) 64) ↔ w * 64 + j < to_ := by omega
  simp [h1, h2]

theorem mask_lt (lo hi : Nat) (h : hi ≤ 64) : mask lo hi < 2 ^ 64 := by
  apply Nat.lt_pow_two_of_testBit
  intro i hi'
  rw [testBit_mask]
  have : ¬ i < hi := by omega
  simp [this]

theorem spanN_lt (w frm to_ : Nat) : spanN w frm to_ < 2 ^ 64 := mask_lt _ _ (Nat.min_le_right _ _)

theorem spanN_zero (w frm to_ : Nat) (h : min (to_ - w * 64) 64 ≤ frm - w * 64) : spanN w frm to_ = 0 := by
  unfold spanN mask
  have : min (to_ - w * 64) 64 - (frm - w * 64) = 0 := by omega
  rw [this]; simp

/-- two words alike in each bit are alike -/
theorem word_ext {a b : Nat} (ha : a < 2 ^ 64) (hb : b < 2 ^ 64) (h : ∀ j, j < 64 → a.testBit j = b.testBit j) : a = b := by
  apply Nat.eq_of_testBit_eq
  intro i
  by_cases hi : i < 64
  · exact h i hi
  · rw [Nat.testBit_lt_two_pow (Nat.lt_of_lt_of_le ha (Nat.pow_le_pow_right (by omega) (by omega))), Nat.testBit_lt_two_pow (Nat.lt_of_lt_of_le hb (Nat.pow_le_pow_right (by omega) (by omega)))]

/-- the complement in 64 bits -/
theorem testBit_compl (b j : Nat) (hb : b < 2 ^ 64) (hj : j < 64) : (2 ^ 64 - 1 - b).testBit j = !b.testBit j := by
  have h := Nat.testBit_two_pow_sub_succ hb j
  have e : 2 ^ 64 - (b + 1) = 2 ^ 64 - 1 - b := by omega
  rw [e] at h
  rw [h]; simp [hj]

theorem compl_lt (b : Nat) : 2 ^ 64 - 1 - b < 2 ^ 64 := by omega

/-- the word with only the lowest bits -/
theorem span_words (lo hi : Nat) (h : lo < hi) (h2 : hi ≤ 64) : (2 ^ 64 - 2 ^ lo) &&& (2 ^ hi - 1) = mask lo hi := by
  have hp : 2 ^ lo ≤ 2 ^ 64 := Nat.pow_le_pow_right (by omega) (by omega)
  have hp0 : 0 < 2 ^ lo := Nat.two_pow_pos lo
  apply word_ext
  · exact Nat.lt_of_le_of_lt (Nat.and_le_left) (by omega)
  · exact mask_lt _ _ h2
  · intro j hj
    rw [Nat.testBit_and, Nat.testBit_two_pow_sub_one, testBit_mask]
    have e : 2 ^ 64 - 2 ^ lo = 2 ^ 64 - ((2 ^ lo - 1) + 1) := by omega
    rw [e, Nat.testBit_two_pow_sub_succ (by omega), Nat.testBit_two_pow_sub_one]
    simp only [hj, decide_true, Bool.true_and]
    by_cases h3 : j < lo
    · have : ¬ lo ≤ j := by omega
      simp [h3, this]
    · have : lo ≤ j := by omega
      simp [h3, this]

/-- lists of words alike in each bit are alike -/
theorem words_ext {as bs : List Nat} (hl : as.length = bs.length) (ha : ∀ x ∈ as, x < 2 ^ 64) (hb : ∀ x ∈ bs, x < 2 ^ 64)
    (h : ∀ i, i < 64 * as.length → bitAt as i = bitAt bs i) : as = bs := by
  apply List.ext_getElem hl
  intro w h1 h2
  apply word_ext (ha _ (List.getElem_mem h1)) (hb _ (List.getElem_mem h2))
  intro j hj
  have := h (64 * w + j) (by omega)
  unfold bitAt at this
  have e1 : (64 * w + j) / 64 = w := by omega
  have e2 : (64 * w + j) % 64 = j := by omega
  rw [e1, e2] at this
  simpa [List.getD_eq_getElem?_getD, h1, h2] using this

theorem bitAt_far (ws : List Nat) (i : Nat) (h : 64 * ws.length ≤ i) : bitAt ws i = false := by
  unfold bitAt
  have : ws.length ≤ i / 64 := by omega
  simp [List.getD_eq_getElem?_getD, List.getElem?_eq_none this]

/-- the number of words -/
def nw (s : Nat) : Nat := (s + 63) / 64

/-- a set of bits is valid: its words fit and no bit is set from its size on -/
def valid (s : Int) (ws : List Nat) : Prop := 0 ≤ s ∧ s ≤ 4096 ∧ ws.length = nw s.toNat ∧ ∀ i, s.toNat ≤ i → bitAt ws i = false

/-- no bit from S on -/
def hiClear (S : Nat) (ws : List Nat) : Bool := (List.range (64 * ws.length)).all fun i => decide (i < S) || !bitAt ws i
theorem hiClear_iff {S : Nat} {ws : List Nat} : hiClear S ws = true ↔ ∀ i, S ≤ i → bitAt ws i = false := by
  unfold hiClear
  rw [List.all_eq_true]
  constructor
  · intro h i hi
    by_cases hf : i < 64 * ws.length
    · have := h i (List.mem_range.2 hf)
      have h2 : ¬ i < S := by omega
      simpa [h2] using this
    · exact bitAt_far ws i (by omega)
  · intro h i _
    by_cases h2 : i < S
    · simp [h2]
    · simp [h i (by omega)]

/-- what Check answers: OK 0, ErrRange 2, ErrForm 3 -/
def chk (s : Int) (ws : List Nat) : Int :=
  if s < 0 ∨ 4096 < s then 2 else if ws.length ≠ nw s.toNat then 3 else if hiClear s.toNat ws = true then 0 else 3

theorem chk_ok {s : Int} {ws : List Nat} : chk s ws = 0 ↔ valid s ws := by
  unfold chk valid
  by_cases h1 : s < 0 ∨ 4096 < s
  · rw [if_pos h1]
    constructor
    · intro h; omega
    · rintro ⟨a, b, _⟩; omega
  · rw [if_neg h1]
    by_cases h2 : ws.length = nw s.toNat
    · rw [if_neg (by simpa using h2)]
      by_cases h3 : hiClear s.toNat ws = true
      · rw [if_pos h3]; exact ⟨fun _ => ⟨by omega, by omega, h2, hiClear_iff.1 h3⟩, fun _ => rfl⟩
      · rw [if_neg h3]; exact ⟨fun h => by omega, fun h => absurd (hiClear_iff.2 h.2.2.2) h3⟩
    · rw [if_pos h2]; exact ⟨fun h => by omega, fun h => absurd h.2.2.1 h2⟩

/-- the last word's unused bits: how the program asks -/
theorem last_word {s : Nat} {ws : List Nat} (hl : ws.length = nw s) (hn : 0 < ws.length) (hw : ∀ x ∈ ws, x < 2 ^ 64) :
    (ws.getD (ws.length - 1) 0 &&& (2 ^ 64 - 1 - spanN (ws.length - 1) 0 s) = 0) ↔ ∀ i, s ≤ i → bitAt ws i = false := by
  have hlast : ws.getD (ws.length - 1) 0 < 2 ^ 64 := by
    rw [List.getD_eq_getElem?_getD, List.getElem?_eq_getElem (by omega)]
    exact hw _ (List.getElem_mem _)
  have hnw : nw s = ws.length := hl.symm
  unfold nw at hnw
  constructor
  · intro h i hi
    by_cases hfar : 64 * ws.length ≤ i
    · exact bitAt_far ws i hfar
    · have e : i / 64 = ws.length - 1 := by omega
      have := congrArg (fun x => x.testBit (i % 64)) h
      simp only [Nat.testBit_and, Nat.zero_testBit] at this
      rw [testBit_compl _ _ (spanN_lt _ _ _) (by omega), testBit_spanN _ _ _ _ (by omega)] at this
      unfold bitAt
      rw [e]
      have h2 : ¬ ((ws.length - 1) * 64 + i % 64 < s) := by omega
      simpa [h2] using this
  · intro h
    apply word_ext
    · exact Nat.lt_of_le_of_lt Nat.and_le_left hlast
    · omega
    · intro j hj
      rw [Nat.testBit_and, testBit_compl _ _ (spanN_lt _ _ _) hj, testBit_spanN _ _ _ _ hj]
      by_cases h2 : (ws.length - 1) * 64 + j < s
      · simp [h2]
      · have := h ((ws.length - 1) * 64 + j) (by omega)
        unfold bitAt at this
        have e1 : ((ws.length - 1) * 64 + j) / 64 = ws.length - 1 := by omega
        have e2 : ((ws.length - 1) * 64 + j) % 64 = j := by omega
        rw [e1, e2] at this
        rw [this]; simp
end Go.Proofs.YtdpdlbonlpdkjaaDoor.Bs
