import Derived.Test.YtflplldamefhoaaNw
import Derived.Test.YtflplldamefhoaaR7
namespace Go.Proofs.Ytflplldamefhoaa.Bd
open Go Go.RowKit
set_option linter.unusedVariables false
/-- the error of the first m frames that are to be free -/
def scn (p : Pm) (fs : Is) : Nat → Int
  | 0 => 0
  | m + 1 => if scn p fs m ≠ 0 then scn p fs m else if ¬ blk p 0 (fs.getD m 0) then 2 else if 0 < m ∧ fs.getD m 0 ≤ fs.getD (m - 1) 0 then 10 else 0
def bdE (p : Pm) (fs : Is) : Int := if par p then scn p fs fs.length else 2
theorem scn_keep {p : Pm} {fs : Is} {m : Nat} (h : scn p fs m ≠ 0) : ∀ d, scn p fs (m + d) = scn p fs m
  | 0 => rfl
  | d + 1 => by
    have e := scn_keep h d
    show (if scn p fs (m + d) ≠ 0 then scn p fs (m + d) else _) = _
    rw [if_pos (by rw [e]; exact h)]
    exact e
theorem scn_last {p : Pm} {fs : Is} {m : Nat} (h : scn p fs m ≠ 0) (hp : par p) (hm : m ≤ fs.length) : bdE p fs = scn p fs m := by
  unfold bdE
  rw [if_pos hp]
  have := scn_keep h (fs.length - m)
  rwa [show m + (fs.length - m) = fs.length by omega] at this
theorem scn_out {p : Pm} {fs : Is} {m : Nat} (h : scn p fs m = 0) (hb : ¬ blk p 0 (fs.getD m 0)) : scn p fs (m + 1) = 2 := by
  unfold scn
  rw [if_neg (fun x => x h), if_pos hb]
theorem scn_ord {p : Pm} {fs : Is} {m : Nat} (h : scn p fs m = 0) (hb : blk p 0 (fs.getD m 0)) (h0 : 0 < m) (hl : fs.getD m 0 ≤ fs.getD (m - 1) 0) : scn p fs (m + 1) = 10 := by
  unfold scn
  rw [if_neg (fun x => x h), if_neg (fun x => x hb), if_pos ⟨h0, hl⟩]
theorem scn_ok {p : Pm} {fs : Is} {m : Nat} (h : scn p fs m = 0) (hb : blk p 0 (fs.getD m 0)) (hl : 0 < m → fs.getD (m - 1) 0 < fs.getD m 0) : scn p fs (m + 1) = 0 := by
  unfold scn
  rw [if_neg (fun x => x h), if_neg (fun x => x hb), if_neg (fun x => by have := hl x.1; omega)]
/-- the frames before m, as a set; all less than the next if it is greater than the last -/
def Fst (fs : Is) (m : Nat) (x : Int) : Prop := ∃ j, j < m ∧ fs.getD j 0 = x
theorem fst_zero (fs : Is) (x : Int) : ¬ Fst fs 0 x := by rintro ⟨j, h, _⟩; omega
theorem fst_succ {fs : Is} {m : Nat} {x : Int} : Fst fs (m + 1) x ↔ Fst fs m x ∨ x = fs.getD m 0 := by
  constructor
  · rintro ⟨j, h, e⟩
    by_cases hj : j = m
    · rw [hj] at e; exact .inr e.symm
    · exact .inl ⟨j, by omega, e⟩
  · rintro (⟨j, h, e⟩ | e)
    · exact ⟨j, by omega, e⟩
    · exact ⟨m, by omega, e.symm⟩
/-- ascending up to m -/
def Asc (fs : Is) (m : Nat) : Prop := ∀ x, Fst fs m x → 0 < m ∧ x ≤ fs.getD (m - 1) 0
theorem asc_zero (fs : Is) : Asc fs 0 := fun x h => absurd h (fst_zero fs x)
theorem asc_succ {fs : Is} {m : Nat} (h : Asc fs m) (hl : 0 < m → fs.getD (m - 1) 0 < fs.getD m 0) : Asc fs (m + 1) := fun x hx => by
  refine ⟨by omega, ?_⟩
  show x ≤ fs.getD m 0
  rcases fst_succ.1 hx with h1 | h1
  · have a := h x h1; have b := hl a.1; omega
  · omega
theorem asc_new {fs : Is} {m : Nat} (h : Asc fs m) (hl : 0 < m → fs.getD (m - 1) 0 < fs.getD m 0) : ¬ Fst fs m (fs.getD m 0) := fun hx => by
  have a := h _ hx; have b := hl a.1; omega
end Go.Proofs.Ytflplldamefhoaa.Bd
