import Derived.WalkKit
import Derived.Laws.BitsAllLaws
/-
  DERIVED. Regions as six numbers: the error of one, and what the functions answer.
-/
namespace Go.Proofs.Ytimclgmajhhheaa.Rg
open Go
set_option linter.unusedVariables false
structure R6 where
  st : Int
  pg : Int
  pr : Int
  fl : Int
  fi : Int
  ix : Int
def r0 : R6 := ⟨0, 0, 0, 0, 0, 0⟩
def mean (r : R6) : Prop := 1 ≤ r.pg ∧ 0 ≤ r.fl ∧ r.fl ≤ 15 ∧ -1 ≤ r.fi ∧ r.fi ≤ 3 ∧ (r.pr = 1 ∨ r.pr = 3) ∧ (r.fi = -1 → r.fl % 2 = 0) ∧ (r.fi ≠ -1 → r.fl / 2 % 2 = 0 ∧ r.fl / 8 % 2 = 0)
def rngd (r : R6) : Prop := 0 ≤ r.st ∧ r.st + r.pg ≤ 512 ∧ (r.fi = -1 → r.ix = 0) ∧ (r.fi ≠ -1 → 0 ≤ r.ix ∧ r.ix + r.pg ≤ 16)
instance (r : R6) : Decidable (mean r) := by unfold mean; infer_instance
instance (r : R6) : Decidable (rngd r) := by unfold rngd; infer_instance
/-- the error of a region -/
def ckE (r : R6) : Int := if mean r then (if rngd r then 0 else 2) else 1
theorem ckE_1 {r : R6} (h : ¬ mean r) : ckE r = 1 := if_neg h
theorem ckE_2 {r : R6} (h : mean r) (h2 : ¬ rngd r) : ckE r = 2 := by unfold ckE; rw [if_pos h, if_neg h2]
theorem ckE_0 {r : R6} (h : mean r) (h2 : rngd r) : ckE r = 0 := by unfold ckE; rw [if_pos h, if_pos h2]
theorem ok_of {r : R6} (h : ckE r = 0) : mean r ∧ rngd r := by
  unfold ckE at h
  by_cases h1 : mean r
  · rw [if_pos h1] at h
    by_cases h2 : rngd r
    · exact ⟨h1, h2⟩
    · rw [if_neg h2] at h; omega
  · rw [if_neg h1] at h; omega
def Ok (r : R6) : Prop := mean r ∧ rngd r
instance (r : R6) : Decidable (Ok r) := by unfold Ok; infer_instance
theorem ok_iff {r : R6} : ckE r = 0 ↔ Ok r := ⟨ok_of, fun h => ckE_0 h.1 h.2⟩
def vB (r : R6) : Bool := decide (Ok r)
def enD (r : R6) : Int := if Ok r then r.st + r.pg else 0
def hasB (r : R6) (p : Int) : Bool := decide (Ok r ∧ r.st ≤ p ∧ p < r.st + r.pg)
def ovB (a b : R6) : Bool := decide (Ok a ∧ Ok b ∧ a.st < b.st + b.pg ∧ b.st < a.st + a.pg)
def mgB (a b : R6) : Bool := decide (Ok a ∧ Ok b ∧ a.fl / 2 % 2 = 0 ∧ a.st + a.pg = b.st ∧ a.pr = b.pr ∧ a.fl = b.fl ∧ a.fi = b.fi ∧ (a.fi = -1 ∨ b.ix = a.ix + a.pg))
def pgE (r : R6) (p : Int) : Int := if r.fi ≠ -1 ∧ Ok r ∧ r.st ≤ p ∧ p < r.st + r.pg then r.ix + p - r.st else -1
def pmB (r : R6) (w : Bool) : Bool := decide (Ok r) && (!w || decide (r.pr = 3))
def mgE (a b : R6) : Int := if ckE a = 0 then (if ckE b = 0 then (if mgB a b = true then 0 else 11) else ckE b) else ckE a
def mgR (a b : R6) : R6 := if mgE a b = 0 then ⟨a.st, a.pg + b.pg, a.pr, a.fl, a.fi, a.ix⟩ else r0
def dvB (r : R6) (p : Int) : Bool := decide (r.st < p ∧ p < r.st + r.pg)
def lowR (r : R6) (p : Int) : R6 := ⟨r.st, p - r.st, r.pr, r.fl, r.fi, r.ix⟩
def nog (f : Int) : Int := f - 2 * (f / 2 % 2)
def uppR (r : R6) (p : Int) : R6 := ⟨p, r.pg - (p - r.st), r.pr, nog r.fl, r.fi, if r.fi = -1 then r.ix else r.ix + (p - r.st)⟩
def spE (r : R6) (p : Int) : Int := if ckE r = 0 then (if r.st < p ∧ p < r.st + r.pg then 0 else 2) else ckE r
def spA (r : R6) (p : Int) : R6 := if spE r p = 0 then lowR r p else r0
def spB (r : R6) (p : Int) : R6 := if spE r p = 0 then uppR r p else r0
/-- the error of Cut, and what it leaves -/
def cuE (r : R6) (p n : Int) : Int := if ckE r = 0 then (if n < 1 then 1 else if p < 0 ∨ 512 - n < p then 2 else 0) else ckE r
def cuL (r : R6) (p n : Int) : List R6 := if cuE r p n = 0 then
    (if r.st + r.pg ≤ p ∨ p + n ≤ r.st then [r] else (if r.st < p then [lowR r p] else []) ++ (if p + n < r.st + r.pg then [uppR r (p + n)] else []))
  else []
-- BITS
theorem and1_16 : ∀ n : Fin 16, bits .and .i64 (n.val : Int) 1 = (n.val : Int) % 2 := by decide +kernel
theorem and2_16 : ∀ n : Fin 16, bits .and .i64 (n.val : Int) 2 = 2 * ((n.val : Int) / 2 % 2) := by decide +kernel
theorem and10_16 : ∀ n : Fin 16, bits .and .i64 (n.val : Int) 10 = 2 * ((n.val : Int) / 2 % 2) + 8 * ((n.val : Int) / 8 % 2) := by decide +kernel
theorem not2_16 : ∀ n : Fin 16, bits .andNot .i64 (n.val : Int) 2 = nog (n.val : Int) := by decide +kernel
theorem and1_of {f : Int} (h0 : 0 ≤ f) (h1 : f ≤ 15) : bits .and .i64 f 1 = f % 2 := by
  obtain ⟨n, rfl⟩ := Int.eq_ofNat_of_zero_le h0; exact and1_16 ⟨n, by omega⟩
theorem and2_of {f : Int} (h0 : 0 ≤ f) (h1 : f ≤ 15) : bits .and .i64 f 2 = 2 * (f / 2 % 2) := by
  obtain ⟨n, rfl⟩ := Int.eq_ofNat_of_zero_le h0; exact and2_16 ⟨n, by omega⟩
theorem and10_of {f : Int} (h0 : 0 ≤ f) (h1 : f ≤ 15) : bits .and .i64 f 10 = 2 * (f / 2 % 2) + 8 * (f / 8 % 2) := by
  obtain ⟨n, rfl⟩ := Int.eq_ofNat_of_zero_le h0; exact and10_16 ⟨n, by omega⟩
theorem not2_of {f : Int} (h0 : 0 ≤ f) (h1 : f ≤ 15) : bits .andNot .i64 f 2 = nog f := by
  obtain ⟨n, rfl⟩ := Int.eq_ofNat_of_zero_le h0; exact not2_16 ⟨n, by omega⟩
theorem low_ok {r : R6} {p : Int} (h : Ok r) (h1 : r.st < p) (h2 : p < r.st + r.pg) : Ok (lowR r p) := by
  unfold Ok mean rngd lowR at *; dsimp only; omega
theorem upp_ok {r : R6} {p : Int} (h : Ok r) (h1 : r.st < p) (h2 : p < r.st + r.pg) : Ok (uppR r p) := by
  unfold Ok mean rngd uppR nog at *; dsimp only
  by_cases e : r.fi = -1
  · rw [if_pos e]; omega
  · rw [if_neg e]; omega
end Go.Proofs.Ytimclgmajhhheaa.Rg
