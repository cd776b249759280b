/-
  Plain mathematics of a merge's round. No program text.
-/
import Derived.Test.YtdpdlbonlpdkjabMath
namespace Go.Proofs.Ytdpdlbonlpdkjab.Iv
set_option linter.unusedVariables false
/-- the lower one of the next two edges -/
def nearE (L M : IL) (i j : Nat) : Int := if j = 2 * M.length then edg L i else if i = 2 * L.length then edg M j else min (edg L i) (edg M j)
def goesOn (L : IL) (i : Nat) (q : Int) : Bool := decide (i < 2 * L.length) && (edg L i == q)
def nextI (L : IL) (i : Nat) (q : Int) : Nat := if goesOn L i q = true then i + 1 else i
theorem near_le {L M : IL} {i j : Nat} (hi : i ≤ 2 * L.length) (hj : j ≤ 2 * M.length) (h : i < 2 * L.length ∨ j < 2 * M.length) :
    (i < 2 * L.length → nearE L M i j ≤ edg L i) ∧ (j < 2 * M.length → nearE L M i j ≤ edg M j) ∧ ((i < 2 * L.length ∧ edg L i = nearE L M i j) ∨ (j < 2 * M.length ∧ edg M j = nearE L M i j)) := by
  unfold nearE
  by_cases c1 : j = 2 * M.length
  · rw [if_pos c1]; exact ⟨fun _ => Int.le_refl _, fun h => by omega, .inl ⟨by omega, rfl⟩⟩
  · rw [if_neg c1]
    by_cases c2 : i = 2 * L.length
    · rw [if_pos c2]; exact ⟨fun h => by omega, fun _ => Int.le_refl _, .inr ⟨by omega, rfl⟩⟩
    · rw [if_neg c2]
      refine ⟨fun _ => by omega, fun _ => by omega, ?_⟩
      rcases Int.le_total (edg L i) (edg M j) with c | c
      · exact .inl ⟨by omega, by omega⟩
      · exact .inr ⟨by omega, by omega⟩
theorem next_splits {L : IL} {i : Nat} {p q : Int} (h : splits (edges L) i p) (hA : asc (edges L)) (hpq : p < q) (hq : i < 2 * L.length → q ≤ edg L i) : splits (edges L) (nextI L i q) q := by
  have hl := edges_length L
  unfold nextI goesOn
  by_cases c1 : i < 2 * L.length
  · by_cases c2 : edg L i = q
    · rw [if_pos (by simp [c1, c2])]
      have := h.at hA (by omega)
      have e : (edges L).getD i 0 = q := c2
      rwa [e] at this
    · rw [if_neg (by simp [c2])]
      exact h.up (Int.le_of_lt hpq) (fun _ => by have := hq c1; unfold edg at *; omega) hA
  · rw [if_neg (by simp [c1])]
    exact h.up (Int.le_of_lt hpq) (fun hh => by omega) hA
def outNext (out : IL) (st : Int) (ins : Bool) (q : Int) : IL := if ins = true then out ++ [(st, q)] else out
theorem mi_round {L M : IL} {keep : Bool → Bool → Bool} {p : Int} {i j : Nat} {out : IL} {st : Int} {ins : Bool} (h : MI (edges L) (edges M) keep p i j out st ins) (hA : asc (edges L)) (hB : asc (edges M)) (hij : i < 2 * L.length ∨ j < 2 * M.length) {q : Int} (hq : q = nearE L M i j) :
    (keep (odd (nextI L i q)) (odd (nextI M j q)) = ins → MI (edges L) (edges M) keep q (nextI L i q) (nextI M j q) out st ins) ∧
    (keep (odd (nextI L i q)) (odd (nextI M j q)) = !ins → MI (edges L) (edges M) keep q (nextI L i q) (nextI M j q) (outNext out st ins q) q (!ins)) := by
  have la := edges_length L
  have lb := edges_length M
  have hi : i ≤ 2 * L.length := by have := h.sa.1; omega
  have hj : j ≤ 2 * M.length := by have := h.sb.1; omega
  obtain ⟨n1, n2, n3⟩ := near_le hi hj hij
  rw [← hq] at n1 n2 n3
  have hpq : p < q := by
    rcases n3 with ⟨c, e⟩ | ⟨c, e⟩
    · have := h.sa.2.2 i (Nat.le_refl _) (by omega); unfold edg at e; omega
    · have := h.sb.2.2 j (Nat.le_refl _) (by omega); unfold edg at e; omega
  have s1 := next_splits h.sa hA hpq n1
  have s2 := next_splits h.sb hB hpq n2
  refine ⟨fun hk => h.step hA hB hpq (fun c => n1 (by omega)) (fun c => n2 (by omega)) s1 s2 hk.symm (by rw [if_pos rfl]), fun hk => h.step hA hB hpq (fun c => n1 (by omega)) (fun c => n2 (by omega)) s1 s2 hk.symm ?_⟩
  rw [if_neg (by cases ins <;> simp)]
  unfold outNext sofar
  cases ins
  · simp
  · simp [edges_append, edges]
theorem next_more {L M : IL} {i j : Nat} {q : Int} (hi : i ≤ 2 * L.length) (hj : j ≤ 2 * M.length) (hij : i < 2 * L.length ∨ j < 2 * M.length) (hq : q = nearE L M i j) :
    i + j < nextI L i q + nextI M j q ∧ nextI L i q ≤ 2 * L.length ∧ nextI M j q ≤ 2 * M.length := by
  obtain ⟨n1, n2, n3⟩ := near_le hi hj hij
  rw [← hq] at n3
  have a1 : i ≤ nextI L i q ∧ nextI L i q ≤ 2 * L.length := by unfold nextI; split <;> rename_i c <;> simp [goesOn] at c <;> omega
  have a2 : j ≤ nextI M j q ∧ nextI M j q ≤ 2 * M.length := by unfold nextI; split <;> rename_i c <;> simp [goesOn] at c <;> omega
  refine ⟨?_, a1.2, a2.2⟩
  rcases n3 with ⟨c, e⟩ | ⟨c, e⟩
  · have : nextI L i q = i + 1 := by unfold nextI; rw [if_pos (by simp [goesOn, c, e])]
    omega
  · have : nextI M j q = j + 1 := by unfold nextI; rw [if_pos (by simp [goesOn, c, e])]
    omega
end Go.Proofs.Ytdpdlbonlpdkjab.Iv
