import Derived.Test.YtncdilkcblakhaaL1
namespace Go.Proofs.Ytncdilkcblakhaa.In
open Go Go.RowKit
set_option linter.unusedVariables false
set_option linter.unusedSimpArgs false
/-- the capacities -/
def cps (l : By) (k : Nat) : Is := (l.take k).map fun x => 1 + x % 16
theorem cps_len (l : By) {k : Nat} (h : k ≤ l.length) : (cps l k).length = k := by simp [cps]; omega
theorem cps_succ {l : By} {k : Nat} (h : k < l.length) : cps l (k + 1) = cps l k ++ [1 + l.getD k 0 % 16] := by
  unfold cps
  rw [List.take_succ_eq_append_getElem h, List.map_append, List.getD_eq_getElem?_getD, List.getElem?_eq_getElem h]; rfl
theorem cps_good (l : By) (k : Nat) : goodF (cps l k) := fun x hx => by
  obtain ⟨y, _, rfl⟩ := List.mem_map.1 hx
  omega
/-- the width of the k-th part -/
def wd (L : Is) (s : Int) (k : Nat) : Int := if k < L.length then 1 + L.getD k 0 else s
def uu (L : Is) (s : Int) (k : Nat) : Nat := ((lL L s).getD k 0).toNat
theorem uu_facts {L : Is} {s : Int} (hg : goodF L) (hl : L.length ≤ 4) (hs : 0 ≤ s ∧ s ≤ 64) :
    (∀ k, k ≤ L.length + 1 → (lL L s).getD k 0 = (uu L s k : Int)) ∧ uu L s 0 = 0 ∧ (∀ k, k ≤ L.length → (uu L s (k + 1) : Int) = uu L s k + wd L s k ∧ 0 ≤ wd L s k) ∧ uu L s (L.length + 1) ≤ 132 ∧ ∀ k, k ≤ L.length + 1 → uu L s k ≤ uu L s (L.length + 1) := by
  have nn : ∀ k, k ≤ L.length + 1 → 0 ≤ (lL L s).getD k 0 := fun k hk => by
    rcases Nat.lt_or_ge L.length k with h | h
    · obtain rfl : k = L.length + 1 := by omega
      rw [lL_last]
      have := fi_bd hg L.length (Nat.le_refl _)
      omega
    · rw [lL_at L s h]
      have := fi_bd hg k h
      omega
  have e1 : ∀ k, k ≤ L.length + 1 → (lL L s).getD k 0 = (uu L s k : Int) := fun k hk => by
    have := nn k hk
    unfold uu; omega
  have e3 : ∀ k, k ≤ L.length → (uu L s (k + 1) : Int) = uu L s k + wd L s k ∧ 0 ≤ wd L s k := fun k hk => by
    rw [← e1 k (by omega), ← e1 (k + 1) (by omega), lL_at L s hk]
    unfold wd
    rcases Nat.lt_or_ge k L.length with h | h
    · rw [if_pos h, lL_at L s h]
      have := goodF_at hg h
      exact ⟨rfl, by omega⟩
    · obtain rfl : k = L.length := by omega
      rw [if_neg (by omega), lL_last]
      exact ⟨rfl, hs.1⟩
  refine ⟨e1, ?_, e3, ?_, ?_⟩
  · have := e1 0 (by omega)
    rw [lL_at L s (Nat.zero_le _)] at this
    simp [fi] at this
    omega
  · have := e1 (L.length + 1) (Nat.le_refl _)
    rw [lL_last] at this
    have := fi_bd hg L.length (Nat.le_refl _)
    omega
  · intro k hk
    have mono : ∀ j, j ≤ L.length + 1 - k → uu L s k ≤ uu L s (k + j) := by
      intro j
      induction j with
      | zero => intro _; exact Nat.le_refl _
      | succ j ih =>
        intro h
        have a := ih (by omega)
        have b := e3 (k + j) (by omega)
        rw [show k + (j + 1) = k + j + 1 by omega]
        omega
    have := mono (L.length + 1 - k) (Nat.le_refl _)
    rwa [show k + (L.length + 1 - k) = L.length + 1 by omega] at this
/-- the first t counts are one -/
def ones (N t : Nat) : Is := List.replicate t 1 ++ List.replicate (N - t) 0
theorem ones_len {N t : Nat} (h : t ≤ N) : (ones N t).length = N := by simp [ones]; omega
theorem ones_zero (N : Nat) : ones N 0 = List.replicate N 0 := by simp [ones]
theorem ones_at {N t : Nat} (h : t < N) : (ones N t).getD t 0 = 0 := by
  unfold ones
  rw [List.getD_eq_getElem?_getD, List.getElem?_append_right (by simp), List.length_replicate, Nat.sub_self, List.getElem?_replicate, if_pos (by omega)]
  rfl
theorem ones_next {N t : Nat} (h : t < N) : (ones N t).set t 1 = ones N (t + 1) := by
  unfold ones
  rw [List.set_append_right _ _ (by simp), List.length_replicate, Nat.sub_self, show N - t = (N - (t + 1)) + 1 by omega, List.replicate_succ, List.set_cons_zero, List.replicate_succ' (n := t), List.append_assoc]
  rfl
theorem ones_full {N i : Nat} (h : i < N) : (ones N N).getD i 0 = 1 := by
  unfold ones
  rw [List.getD_eq_getElem?_getD, List.getElem?_append_left (by simpa using h), List.getElem?_replicate, if_pos h]
  rfl
-- A BLOCK OF NUMBERS
def Ik (w : World) (g : Nat) (l : Is) : Prop := Box w g 3 ((l.map ic).toArray)
section
variable {w w' : World} {g : Nat} {l : Is}
theorem Ik.below (h : Ik w g l) (hb : Below w.heap.size w w') : Ik w' g l := Box.below h hb
theorem Ik.put (h : Ik w g l) (i : Nat) (v : Int) : Ik (w.setCell ⟨g, i, none⟩ (.int .i64 v)) g (l.set i v) := by
  have := Box.put h i (ic v)
  unfold Ik
  rw [List.map_set, ← List.setIfInBounds_toArray]
  exact this
theorem Ik.cell (h : Ik w g l) {i : Nat} (hi : i < l.length) : w.cell? ⟨g, i, none⟩ = some (.int .i64 (l.getD i 0)) := by
  rw [Box.cell h i]
  simp [ic, List.getD, List.getElem?_eq_getElem hi]
theorem Ik.frozen (h : Ik w g l) (i : Nat) : w.frozen? ⟨g, i, none⟩ = false := Box.frozen h i
end
theorem made_eq3 (m : Nat) : madeCells #[.int .i64 0] m = ((List.replicate m (0 : Int)).map ic).toArray := by
  apply Array.ext'
  apply List.ext_getElem
  · simp [madeCells]
  · intro i h1 h2
    simp [madeCells, Nat.mod_one, ic]
def zi (m : Nat) : Array Value := ((List.replicate m (0 : Int)).map ic).toArray
theorem makeI (w : World) (m : Nat) (h : m ≤ 1000000) : (Instr.makeSlice 38 (.int .i64 (m : Int)) (.int .i64 (m : Int))).run Try.prog w = .ok (.slice (some ⟨w.heap.size, 0, none⟩) m m) (w.alloc (.cells (zi m) 3)) := by
  have := run_make_row' (P := Try.prog) 38 3 (.int .i64 0) 8 Try.underlying38 info3 rfl .i64 .i64 m (by omega) (by omega) w
  rw [made_eq3] at this
  exact this
end Go.Proofs.Ytncdilkcblakhaa.In
