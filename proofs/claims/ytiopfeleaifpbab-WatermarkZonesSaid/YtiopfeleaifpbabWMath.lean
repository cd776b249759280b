import Derived.Test.YtiopfeleaifpbabMem
namespace Go.Proofs.Ytiopfeleaifpbab.Bd
open Go Go.RowKit
set_option linter.unusedVariables false
-- WATERMARKS, as numbers
def inC (n : Int) : Prop := 0 ≤ n ∧ n ≤ 4096
instance (n : Int) : Decidable (inC n) := by unfold inC; infer_instance
structure Mk where
  lo : Int
  md : Int
  hi : Int
def mkC (m : Mk) : Array Value := #[.int .i64 m.lo, .int .i64 m.md, .int .i64 m.hi]
structure MkR (m : Mk) : Prop where
  lo : i64r m.lo
  md : i64r m.md
  hi : i64r m.hi
/-- the error of watermarks -/
def chkM (m : Mk) : Int := if inC m.lo ∧ inC m.md ∧ inC m.hi then (if m.lo ≤ m.md ∧ m.md ≤ m.hi then 0 else 10) else 2
def okM (m : Mk) : Prop := (inC m.lo ∧ inC m.md ∧ inC m.hi) ∧ m.lo ≤ m.md ∧ m.md ≤ m.hi
instance (m : Mk) : Decidable (okM m) := by unfold okM; infer_instance
theorem chkM_zero {m : Mk} : chkM m = 0 ↔ okM m := by
  unfold chkM okM
  split <;> rename_i h
  · split <;> rename_i h2
    · exact ⟨fun _ => ⟨h, h2⟩, fun _ => rfl⟩
    · exact ⟨fun x => absurd x (by decide), fun x => absurd x.2 h2⟩
  · exact ⟨fun x => absurd x (by decide), fun x => absurd x.1 h⟩
def lvE (c n : Int) : Int := if inC c ∧ 0 ≤ n ∧ n ≤ c then 0 else 2
def lvM (c n : Int) : Mk := if inC c ∧ 0 ≤ n ∧ n ≤ c then ⟨n, min c (n + (n + 3) / 4), min c (n + (n + 1) / 2)⟩ else ⟨0, 0, 0⟩
def flM (m : Mk) (x : Int) : Int := if okM m then (if x = 0 then m.lo else if x = 1 then m.lo / 2 else if x = 2 then 0 else -1) else -1
theorem flM_bd {m : Mk} {x : Int} : -1 ≤ flM m x ∧ flM m x ≤ 4096 := by
  by_cases h : okM m
  · have h0 := h.1.1
    unfold inC at h0
    unfold flM
    rw [if_pos h]
    by_cases h1 : x = 0
    · rw [if_pos h1]; omega
    · rw [if_neg h1]
      by_cases h2 : x = 1
      · rw [if_pos h2]; omega
      · rw [if_neg h2]
        by_cases h3 : x = 2
        · rw [if_pos h3]; omega
        · rw [if_neg h3]; omega
  · unfold flM; rw [if_neg h]; omega
def wkM (m : Mk) (f : Int) (r : Bool) : Bool := decide (okM m ∧ (f < m.md ∨ (r = true ∧ f < m.hi)))
-- LISTS OF NUMBERS OF FREE BLOCKS
def valL (l : Is) : Prop := ∀ k, k < 5 → k < l.length → inC (l.getD k 0)
instance (l : Is) : Decidable (valL l) := by unfold valL; infer_instance
/-- the frames in the blocks of orders from o on, below n -/
def abN (l : Is) (o : Nat) : Nat → Int
  | 0 => 0
  | k + 1 => abN l o k + if o ≤ k then l.getD k 0 * 2 ^ k else 0
def ab (l : Is) (o : Nat) : Int := abN l o 5
theorem getD_out {l : Is} {k : Nat} (h : l.length ≤ k) : l.getD k 0 = 0 := by
  rw [List.getD_eq_getElem?_getD, List.getElem?_eq_none h]; rfl
theorem valL.at_ {l : Is} (h : valL l) {k : Nat} (hk : k < 5) : inC (l.getD k 0) := by
  rcases Nat.lt_or_ge k l.length with h1 | h1
  · exact h k hk h1
  · rw [getD_out h1]; unfold inC; omega
theorem pw_le {k : Nat} (hk : k < 5) : (1 : Int) ≤ 2 ^ k ∧ (2 : Int) ^ k ≤ 16 := by
  rcases (show k = 0 ∨ k = 1 ∨ k = 2 ∨ k = 3 ∨ k = 4 by omega) with rfl | rfl | rfl | rfl | rfl <;> decide
theorem abN_bd {l : Is} (h : valL l) (o : Nat) : ∀ n, n ≤ 5 → 0 ≤ abN l o n ∧ abN l o n ≤ n * 65536
  | 0, _ => by simp [abN]
  | k + 1, hk => by
    have ih := abN_bd h o k (by omega)
    have h1 := h.at_ (k := k) (by omega)
    have h2 := pw_le (k := k) (by omega)
    unfold inC at h1
    have h3 : 0 ≤ l.getD k 0 * 2 ^ k := Int.mul_nonneg (by omega) (by omega)
    have h4 : l.getD k 0 * 2 ^ k ≤ 4096 * 16 := Int.mul_le_mul (by omega) (by omega) (by omega) (by omega)
    have e : abN l o (k + 1) = abN l o k + if o ≤ k then l.getD k 0 * 2 ^ k else 0 := rfl
    rw [e]
    split <;> omega
theorem abN_out {l : Is} {o n : Nat} (h : l.length ≤ n) : ∀ d, abN l o (n + d) = abN l o n
  | 0 => rfl
  | d + 1 => by
    have e : abN l o (n + d + 1) = abN l o (n + d) + if o ≤ n + d then l.getD (n + d) 0 * 2 ^ (n + d) else 0 := rfl
    rw [show n + (d + 1) = n + d + 1 by omega, e, abN_out h d, getD_out (by omega)]
    split <;> simp
theorem abN_min (l : Is) (o : Nat) : abN l o (min l.length 5) = ab l o := by
  unfold ab
  rcases Nat.le_total l.length 5 with h | h
  · rw [Nat.min_eq_left h]
    have := abN_out (o := o) (Nat.le_refl l.length) (5 - l.length)
    rw [show l.length + (5 - l.length) = 5 by omega] at this
    exact this.symm
  · rw [Nat.min_eq_right h]
theorem abN_low {l : Is} {o : Nat} : ∀ {n}, n ≤ o → abN l o n = 0
  | 0, _ => rfl
  | k + 1, h => by
    have e : abN l o (k + 1) = abN l o k + if o ≤ k then l.getD k 0 * 2 ^ k else 0 := rfl
    rw [e, abN_low (by omega), if_neg (by omega)]; rfl
/-- may a block be allocated -/
def alwP (l : Is) (m : Mk) (o x : Int) : Prop := 0 ≤ flM m x ∧ valL l ∧ 0 ≤ o ∧ o ≤ 4 ∧ ∀ j : Nat, j ≤ 4 → (j : Int) ≤ o → flM m x / 2 ^ j ≤ ab l j - 2 ^ o.toNat
instance (l : Is) (m : Mk) (o x : Int) : Decidable (alwP l m o x) := by unfold alwP; infer_instance
/-- the reference's words -/
theorem alwP_ref {l : Is} {m : Mk} {o x : Int} (hf : 0 ≤ flM m x) (hv : valL l) (h0 : 0 ≤ o) (h4 : o ≤ 4) :
    alwP l m o x ↔ (flM m x ≤ ab l 0 - 2 ^ o.toNat ∧ ab l o.toNat ≠ 0) ∧ ∀ j, j < o.toNat → flM m x / 2 ^ (j + 1) ≤ ab l (j + 1) - 2 ^ o.toNat := by
  obtain ⟨k, rfl⟩ : ∃ k : Nat, o = k := ⟨o.toNat, by omega⟩
  rw [Int.toNat_natCast]
  have hk : k ≤ 4 := by omega
  have hp := pw_le (k := k) (by omega)
  constructor
  · rintro ⟨_, _, _, _, h⟩
    refine ⟨⟨?_, ?_⟩, fun j hj => ?_⟩
    · have := h 0 (by omega) (by omega)
      simpa using this
    · have := h k (by omega) (by omega)
      rw [Int.toNat_natCast] at this
      have h2 : 0 ≤ flM m x / 2 ^ k := Int.ediv_nonneg hf (by omega)
      omega
    · have := h (j + 1) (by omega) (by omega)
      rw [Int.toNat_natCast] at this
      exact this
  · rintro ⟨⟨h1, h2⟩, h3⟩
    refine ⟨hf, hv, h0, h4, fun j hj hjk => ?_⟩
    rw [Int.toNat_natCast]
    cases j with
    | zero => simpa using h1
    | succ j => exact h3 j (by omega)
end Go.Proofs.Ytiopfeleaifpbab.Bd
