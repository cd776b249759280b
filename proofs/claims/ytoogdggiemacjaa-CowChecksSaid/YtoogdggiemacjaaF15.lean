import Derived.Test.YtoogdggiemacjaaCp
import Derived.Deep.RegionLawGrows
namespace Go.Proofs.Ytoogdggiemacjaa.Cw
open Go Go.RowKit
set_option linter.unusedVariables false
set_option linter.unusedSimpArgs false
theorem size64 : (Try.prog.info? 64).map (·.size) = some 2 := by kernel_rfl
theorem info64z : (Try.prog.info? 64).map (fun i => (i.zero, i.size, i.bytes)) = some (some (.agg #[.int .i64 0, .bool false]), 2, 16) := info64
def reps (n : Nat) (p : Pg) : List Value := pcs (List.replicate n p)
theorem reps_len (n : Nat) (p : Pg) : (reps n p).length = n * 2 := by unfold reps pcs; rw [c2_length]; simp
theorem reps_even {n k : Nat} (p : Pg) (h : k < n) : (reps n p)[k * 2]? = some (.int .i64 p.1) := by
  unfold reps pcs
  rw [c2_even _ k (by simpa using h)]; simp
theorem reps_odd {n k : Nat} (p : Pg) (h : k < n) : (reps n p)[k * 2 + 1]? = some (.bool p.2) := by
  unfold reps pcs
  rw [c2_odd _ k (by simpa using h)]; simp
theorem reps_shift {n k j : Nat} (p : Pg) (h : k * 2 + j < n * 2) : (reps n p)[k * 2 + j]? = (reps n p)[j]? := by
  rcases (show j = j / 2 * 2 ∨ j = j / 2 * 2 + 1 by omega) with e | e
  · rw [e, show k * 2 + j / 2 * 2 = (k + j / 2) * 2 by omega, reps_even p (by omega), reps_even p (by omega)]
  · rw [e, show k * 2 + (j / 2 * 2 + 1) = (k + j / 2) * 2 + 1 by omega, reps_odd p (by omega), reps_odd p (by omega)]
theorem reps_one (n : Nat) (p : Pg) : ∀ v ∈ reps n p, v.oneCell' = true := c2_one fun x _ => ⟨rfl, rfl⟩
/-- the first q pages are p -/
def Fil (cur : List Value) (n : Nat) (p : Pg) (q : Nat) : Prop := cur.length = n * 2 ∧ ∀ j, j < q * 2 → cur[j]? = (reps n p)[j]?
theorem Fil.next {cur : List Value} {n q r : Nat} {p : Pg} (h : Fil cur n p q) (hq : q + r ≤ n) : Fil (splice cur (q * 2) ((reps n p).take (r * 2))) n p (q + r) := by
  have hl := reps_len n p
  have ht : ((reps n p).take (r * 2)).length = r * 2 := by rw [List.length_take]; omega
  refine ⟨by rw [length_splice _ _ _ (by rw [ht, h.1]; omega)]; exact h.1, fun j hj => ?_⟩
  unfold splice
  have hl : (cur.take (q * 2)).length = q * 2 := by rw [List.length_take, h.1]; omega
  rcases Nat.lt_or_ge j (q * 2) with hjp | hjp
  · rw [List.getElem?_append_left (by omega), List.getElem?_take_of_lt hjp]
    exact h.2 j hjp
  · rw [List.getElem?_append_right (by omega), hl, List.getElem?_append_left (by rw [ht]; omega), List.getElem?_take_of_lt (by omega)]
    have := reps_shift (n := n) (k := q) (j := j - q * 2) p (by omega)
    rw [← this]
    congr 1
    omega
theorem Fil.src {cur : List Value} {n q r : Nat} {p : Pg} {w : World} {g : Nat} (h : Fil cur n p q) (hr : r ≤ q) (hg : w.heap[g]? = some (.cells cur.toArray 64 (0, 0))) : ∀ j v, ((reps n p).take (r * 2))[j]? = some v → w.cell? ((⟨g, 0, none⟩ : Addr).add j) = some v := fun j v hv => by
  rw [List.getElem?_take] at hv
  split at hv
  · rename_i hj
    rw [add_at, Nat.zero_add, cell_of_row w g j cur.toArray 64 (0, 0) hg]
    have := h.2 j (by omega)
    rw [hv] at this
    simpa using this
  · cases hv
theorem Fil.own {cur : List Value} {n : Nat} {p : Pg} {w : World} {B g : Nat} (h : Fil cur n p n) (hg : w.heap[g]? = some (.cells cur.toArray 64 (0, 0))) (hB : B ≤ g) (hn : n ≤ 100000) : w.ownsRow B 64 2 (.slice (some ⟨g, 0, none⟩) n n) n (pcs (List.replicate n p)) := by
  have hl := reps_len n p
  refine ⟨hl, .inr ⟨g, n, cur.toArray, rfl, hB, hg, Nat.le_refl _, by simp only [maxLen]; omega, by simpa using h.1, ?_⟩⟩
  apply List.ext_getElem?
  intro j
  rw [List.getElem?_take]
  split
  · rename_i hj; exact h.2 j hj
  · rw [List.getElem?_eq_none (by have : (pcs (List.replicate n p)).length = n * 2 := hl; omega)]
end Go.Proofs.Ytoogdggiemacjaa.Cw
