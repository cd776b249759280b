import Derived.Test.YtiopfeleaifpbaaOr2
import Derived.Laws.StructEq
namespace Go.Proofs.Ytiopfeleaifpbaa.Bd
open Go Go.RowKit Go.Sort Go.Lib
set_option linter.unusedVariables false
set_option linter.unusedSimpArgs false
/-- a node lies in a mask -/
def bt (m : Int) (n : Int) : Bool := decide (m / 2 ^ n.toNat % 2 = 1)
theorem cases4i {n : Int} (h : 0 ≤ n ∧ n < 4) : n = 0 ∨ n = 1 ∨ n = 2 ∨ n = 3 := by omega
/-- a policy -/
structure Po where
  k : Int
  m : Int
  t : Int
/-- the error of a policy -/
def poE (p : Po) : Int := if 0 ≤ p.k ∧ p.k ≤ 3 ∧ (p.k ≠ 0 → 1 ≤ p.m ∧ p.m < 16) ∧ (p.k = 3 → 0 ≤ p.t) then 0 else 1
/-- the error of the arguments of Pick -/
def pkE (Z : List Zo) (p : Po) (n : Int) : Int := if chE Z = 0 then (if poE p = 0 then (if 0 ≤ n ∧ n < 4 then 0 else 2) else 1) else chE Z
/-- the nodes of a mask -/
def nm (p : Po) : Is := un (bt p.m) 4
/-- the node from which a policy begins -/
def fo (p : Po) (n : Int) : Int := if p.k = 1 then (nm p).getD 0 0 else if p.k = 3 then (nm p).getD (p.t % (nm p).length).toNat 0 else n
/-- what Pick answers -/
def pR (Z : List Zo) (p : Po) (n : Int) (kb : Bool) : Is := if pkE Z p n = 0 then (if p.k = 2 then (oR Z (fo p n) kb).filter (fun i => bt p.m (nd Z i.toNat)) else oR Z (fo p n) kb) else []
theorem nm_le (p : Po) : (nm p).length ≤ 4 := un_len _ _
theorem nm_pos16 : ∀ x : Fin 16, 1 ≤ x.val → 0 < (un (bt ((x.val : Nat) : Int)) 4).length := by decide +kernel
theorem nm_pos {p : Po} (h : 1 ≤ p.m ∧ p.m < 16) : 0 < (nm p).length := by
  have g := nm_pos16 ⟨p.m.toNat, by omega⟩ (by show 1 ≤ p.m.toNat; omega)
  simp only at g
  rwa [show ((p.m.toNat : Nat) : Int) = p.m by omega] at g
theorem nm_in (p : Po) {j : Nat} (hj : j < (nm p).length) : 0 ≤ (nm p).getD j 0 ∧ (nm p).getD j 0 < 4 := by
  have g := un_mem.1 (show (nm p).getD j 0 ∈ un (bt p.m) 4 by rw [getD_get hj]; exact List.getElem_mem hj)
  exact ⟨g.1, g.2.1⟩
theorem poE_0 {p : Po} (h : poE p = 0) : 0 ≤ p.k ∧ p.k ≤ 3 ∧ (p.k ≠ 0 → 1 ≤ p.m ∧ p.m < 16) ∧ (p.k = 3 → 0 ≤ p.t) := by
  unfold poE at h
  split at h
  · assumption
  · omega
theorem pkE_0 {Z : List Zo} {p : Po} {n : Int} (h : pkE Z p n = 0) : chE Z = 0 ∧ poE p = 0 ∧ (0 ≤ n ∧ n < 4) := by
  unfold pkE at h
  split at h
  · rename_i h1
    split at h
    · rename_i h2
      split at h
      · rename_i h3; exact ⟨h1, h2, h3⟩
      · omega
    · omega
  · contradiction
theorem rem_lt {t : Int} {l : Nat} (hl : 0 < l) (ht : 0 ≤ t) : (t % l).toNat < l ∧ t.tmod l = ((t % l).toNat : Nat) ∧ t % l = ((t % l).toNat : Nat) := by
  have a := Int.emod_nonneg t (show (l : Int) ≠ 0 by omega)
  have b := Int.emod_lt_of_pos t (show (0 : Int) < l by omega)
  refine ⟨by omega, ?_, by omega⟩
  rw [Int.tmod_eq_emod_of_nonneg ht]; omega
theorem fo_in {Z : List Zo} {p : Po} {n : Int} (h : pkE Z p n = 0) : 0 ≤ fo p n ∧ fo p n < 4 := by
  obtain ⟨h1, h2, h3⟩ := pkE_0 h
  obtain ⟨a, b, c, d⟩ := poE_0 h2
  unfold fo
  split
  · rename_i e; exact nm_in p (nm_pos (c (by omega)))
  · split
    · rename_i e; exact nm_in p (rem_lt (nm_pos (c (by omega))) (d e)).1
    · exact h3
end Go.Proofs.Ytiopfeleaifpbaa.Bd
