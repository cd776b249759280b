import Derived.Test.YtnegigcjeoenmaaRow
/-
  DERIVED. The plain mathematics of a device: its checks, its calls.
-/
namespace Go.Proofs.Ytnegigcjeoenmaa.Dv
open Go Go.RowKit
set_option linter.unusedVariables false
def mx : Int := 1099511627776
def noP (b : By) : Bool := decide (b.length ≠ 32)
def inB (n : Nat) (b : Int) : Bool := decide (0 ≤ b ∧ b < (n : Int))
/-- the error of a request, whatever its number is -/
def reqE (n : Nat) (k b : Int) (len : Nat) : Int :=
  if k ≠ 1 ∧ k ≠ 2 ∧ k ≠ 3 then 1 else if inB n b = false ∨ (k = 3 ∧ b ≠ 0) then 2 else if (k = 2 ∧ len ≠ 32) ∨ (k ≠ 2 ∧ len ≠ 0) then 3 else 0
/-- the first index at which a test says yes -/
def firstBad (f : Nat → Int) (n : Nat) : Int := match (List.range n).find? (fun i => f i != 0) with | some i => f i | none => 0
theorem firstBad_none {f : Nat → Int} {n : Nat} (h : ∀ i, i < n → f i = 0) : firstBad f n = 0 := by
  unfold firstBad
  rw [List.find?_eq_none.2 (fun i hi => by simp [h i (List.mem_range.1 hi)])]
theorem firstBad_at {f : Nat → Int} {n k : Nat} (hk : k < n) (h : ∀ i, i < k → f i = 0) (hb : f k ≠ 0) : firstBad f n = f k := by
  unfold firstBad
  have e : (List.range n).find? (fun i => f i != 0) = some k := by
    rw [List.find?_eq_some_iff_getElem]
    refine ⟨by simpa using hb, k, by simpa using hk, by simp, fun j hj => ?_⟩
    simp [h j hj]
  rw [e]
theorem firstBad_zero {f : Nat → Int} {n : Nat} (h : firstBad f n = 0) : ∀ i, i < n → f i = 0 := by
  intro i hi
  by_cases c : ∃ k, k < n ∧ f k ≠ 0
  · have : ∃ k, (k < n ∧ f k ≠ 0) ∧ ∀ j, j < k → f j = 0 := by
      obtain ⟨k, hk⟩ := c
      induction k using Nat.strongRecOn with
      | ind k ih =>
        by_cases d : ∃ j, j < k ∧ f j ≠ 0
        · obtain ⟨j, hj, hf⟩ := d
          exact ih j hj ⟨by omega, hf⟩
        · exact ⟨k, hk, fun j hj => by
            by_cases e : f j = 0
            · exact e
            · exact absurd ⟨j, hj, e⟩ d⟩
    obtain ⟨k, ⟨hk, hf⟩, hj⟩ := this
    rw [firstBad_at hk hj hf] at h
    exact absurd h hf
  · by_cases e : f i = 0
    · exact e
    · exact absurd ⟨i, hi, e⟩ c
def blE (L : List By) : Int := firstBad (fun i => if noP (bAt L i) then 3 else 0) L.length
def coE (n : Nat) (L : List Ca) : Int := firstBad (fun i => if inB n (cAt L i).1 = false ∨ (0 < i ∧ (cAt L i).1 ≤ (cAt L (i - 1)).1) then 10 else 0) L.length
def cfE (L : List Ca) : Int := firstBad (fun i => if noP (cAt L i).2 then 3 else 0) L.length
def caE (n : Nat) (L : List Ca) : Int := if coE n L = 0 then cfE L else coE n L
def rqE (n : Nat) (q : Rq) : Int := reqE n q.2.1 q.2.2.1 q.2.2.2.length
def q1E (n : Nat) (nx : Int) (L : List Rq) (i : Nat) : Int :=
  if rqE n (qAt L i) = 0 then (if (qAt L i).1 < 0 ∨ nx ≤ (qAt L i).1 ∨ (0 < i ∧ (qAt L i).1 ≤ (qAt L (i - 1)).1) then 10 else 0) else rqE n (qAt L i)
def quE (n : Nat) (nx : Int) (L : List Rq) : Int := firstBad (q1E n nx L) L.length
def dbE (dep : Int) (n : Nat) : Bool := decide (1 ≤ dep ∧ dep ≤ 16 ∧ 1 ≤ n ∧ n ≤ 256)
/-- the error of a depth and of blocks -/
def nwE (dep : Int) (L : List By) : Int := if dbE dep L.length then blE L else 2
/-- the error of a device -/
def chk (D : Dev) : Int :=
  if D.nxt < 0 ∨ mx < D.nxt then 2 else if nwE D.dep D.bl ≠ 0 then nwE D.dep D.bl else if caE D.bl.length D.ca ≠ 0 then caE D.bl.length D.ca else if D.dep < D.qu.length then 8 else quE D.bl.length D.nxt D.qu
def zeroD : Dev := ⟨0, 0, [], [], []⟩
def sbE (D : Dev) (k b : Int) (len : Nat) : Int :=
  if chk D ≠ 0 then chk D else if reqE D.bl.length k b len ≠ 0 then reqE D.bl.length k b len else if D.nxt = mx then 9 else if D.dep ≤ D.qu.length then 8 else 0
def sbD (D : Dev) (k b : Int) (x : By) : Dev := { D with nxt := D.nxt + 1, qu := D.qu ++ [(D.nxt, k, b, x)] }
/-- the place of a block in the cache -/
def caI (L : List Ca) (b : Int) : Nat := (L.takeWhile fun c => c.1 < b).length
def caHit (L : List Ca) (b : Int) : Bool := L.any fun c => c.1 == b
def caGet (L : List Ca) (b : Int) : Option By := (L.find? fun c => c.1 == b).map Prod.snd
def cont (D : Dev) (b : Int) : By := match caGet D.ca b with | some x => x | none => bAt D.bl b.toNat
def putC : List Ca → Int → By → List Ca
  | [], b, x => [(b, x)]
  | c :: l, b, x => if c.1 < b then c :: putC l b x else if c.1 = b then (b, x) :: l else (b, x) :: c :: l
def flB : List By → List Ca → List By
  | L, [] => L
  | L, c :: r => flB (L.set c.1.toNat c.2) r
def los (D : Dev) : List Ca := D.ca ++ (D.qu.filter fun q => q.2.1 == 2).map fun q => (q.2.2.1, q.2.2.2)
def crB (picks : List Bool) : List By → List Ca → Nat → List By
  | L, [], _ => L
  | L, c :: r, i => crB picks (if picks.getD i false then L.set c.1.toNat c.2 else L) r (i + 1)
end Go.Proofs.Ytnegigcjeoenmaa.Dv
