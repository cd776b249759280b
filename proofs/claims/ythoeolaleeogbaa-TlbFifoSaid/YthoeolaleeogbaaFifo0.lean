import Derived.Test.YthoeolaleeogbaaMem7
/-
  DERIVED. The mathematics of TlbFifo: different pages filled one behind the other.
-/
namespace Go.Proofs.Ythoeolaleeogbaa.Tb
open Go Go.RowKit Go.Proofs.Ythoeolaleeogbaa.Pt
set_option linter.unusedVariables false
/-- the first k entries -/
def en (P : List Int) (k : Nat) : List Te := (List.range k).map fun i => ((2 : Int), P.getD i 0, 1 + 256 * (i : Int))
theorem en_length (P : List Int) (k : Nat) : (en P k).length = k := by simp [en]
theorem en_snoc (P : List Int) (k : Nat) : en P (k + 1) = en P k ++ [((2 : Int), P.getD k 0, 1 + 256 * (k : Int))] := by
  unfold en; rw [List.range_succ, List.map_append]; rfl
theorem en_at (P : List Int) {k i : Nat} (h : i < k) : (en P k)[i]? = some ((2 : Int), P.getD i 0, 1 + 256 * (i : Int)) := by
  unfold en; rw [List.getElem?_map, List.getElem?_range h]; rfl
def ef (P : List Int) (n k : Nat) : List Te := (en P k).drop (k - n)
theorem ef_length (P : List Int) (n k : Nat) : (ef P n k).length = k - (k - n) := by unfold ef; rw [List.length_drop, en_length]
theorem ef_at (P : List Int) {n k i : Nat} (h : k - n ≤ i) (h2 : i < k) : teAt (ef P n k) (i - (k - n)) = ((2 : Int), P.getD i 0, 1 + 256 * (i : Int)) := by
  unfold teAt ef
  rw [List.getD_eq_getElem?_getD, List.getElem?_drop, show k - n + (i - (k - n)) = i by omega, en_at P h2]; rfl
theorem small_tr : ∀ i : Nat, i < 40 → isTr (1 + 256 * (i : Int)) = true ∧ hg (1 + 256 * (i : Int)) = false := by decide +kernel
theorem small_fp {i : Nat} (h : i < 40) (p : Int) : fp (1 + 256 * (i : Int)) p = p := by
  unfold fp; rw [(small_tr i h).2]; rfl
theorem ef_mem {P : List Int} {n k : Nat} {e : Te} (h : e ∈ ef P n k) : ∃ i, i < k ∧ e = ((2 : Int), P.getD i 0, 1 + 256 * (i : Int)) := by
  have h := List.mem_of_mem_drop h
  unfold en at h
  obtain ⟨i, hi, rfl⟩ := List.mem_map.1 h
  exact ⟨i, List.mem_range.1 hi, rfl⟩
/-- what has been collected: pages, and no two the same -/
def Pgs (P : List Int) : Prop := (∀ p ∈ P, 0 ≤ p ∧ p < 512) ∧ P.Pairwise (· ≠ ·)
theorem Pgs.nil : Pgs [] := ⟨by intro p hp; simp at hp, List.Pairwise.nil⟩
theorem Pgs.snoc {P : List Int} (h : Pgs P) {p : Int} (h0 : 0 ≤ p) (h1 : p < 512) (hn : ∀ j, j < P.length → P.getD j 0 ≠ p) : Pgs (P ++ [p]) := by
  refine ⟨fun x hx => ?_, List.pairwise_append.2 ⟨h.2, List.pairwise_singleton _ _, fun a ha b hb => ?_⟩⟩
  · rcases List.mem_append.1 hx with hx | hx
    · exact h.1 x hx
    · rw [List.mem_singleton.1 hx]; exact ⟨h0, h1⟩
  · rw [List.mem_singleton.1 hb]
    obtain ⟨j, hj, rfl⟩ := List.mem_iff_getElem.1 ha
    have := hn j hj
    rwa [List.getD_eq_getElem?_getD, List.getElem?_eq_getElem hj] at this
theorem Pgs.at_ {P : List Int} (h : Pgs P) {k : Nat} (hk : k < P.length) : 0 ≤ P.getD k 0 ∧ P.getD k 0 < 512 := by
  rw [List.getD_eq_getElem?_getD, List.getElem?_eq_getElem hk]; exact h.1 _ (List.getElem_mem hk)
theorem Pgs.ne {P : List Int} (h : Pgs P) {i k : Nat} (hi : i < k) (hk : k < P.length) : P.getD i 0 ≠ P.getD k 0 := by
  rw [List.getD_eq_getElem?_getD, List.getD_eq_getElem?_getD, List.getElem?_eq_getElem hk, List.getElem?_eq_getElem (show i < P.length by omega)]
  exact (List.pairwise_iff_getElem.1 h.2) i k (by omega) hk hi
theorem ef_fill {P : List Int} {n k : Nat} (h : Pgs P) (hn : 1 ≤ n) (hk : k < P.length) (hl : P.length ≤ 40) :
    fillL (n : Int) (ef P n k) 2 (P.getD k 0) (1 + 256 * (k : Int)) = ef P n (k + 1) := by
  have hf : ∀ i : Nat, i < 40 → ∀ p, fp (1 + 256 * (i : Int)) p = p := fun i hi p => small_fp hi p
  have hnew : newE 2 (P.getD k 0) (1 + 256 * (k : Int)) = (2, P.getD k 0, 1 + 256 * (k : Int)) := by unfold newE; rw [hf k (by omega)]
  unfold fillL
  rw [hnew]
  have hflt : ((ef P n k).filter fun e => !ovl e (2, P.getD k 0, 1 + 256 * (k : Int))) = ef P n k := by
    rw [List.filter_eq_self]
    intro e he
    obtain ⟨i, hi, rfl⟩ := ef_mem he
    have hne := h.ne hi hk
    unfold ovl cov
    simp only
    rw [hf i (by omega), hf k (by omega)]
    have h1 : (P.getD i 0 == P.getD k 0) = false := by simpa using hne
    have h2 : (P.getD k 0 == P.getD i 0) = false := by simpa using hne.symm
    rw [h1, h2]; rfl
  rw [hflt]
  unfold shed
  by_cases hc : ((ef P n k).length : Int) = (n : Int)
  · rw [if_pos hc]
    rw [ef_length] at hc
    unfold ef
    rw [en_snoc, List.drop_append_of_le_length (by rw [en_length]; omega), List.drop_drop, show k - n + 1 = k + 1 - n by omega]
  · rw [if_neg hc]
    rw [ef_length] at hc
    unfold ef
    rw [en_snoc, List.drop_append_of_le_length (by rw [en_length]; omega), show k - n = k + 1 - n by omega]
theorem ef_ok {P : List Int} {n : Nat} (h : Pgs P) (hn : 1 ≤ n) (hn2 : n ≤ 16) (hl : P.length ≤ 40) : ∀ k, k ≤ P.length → chkT (n : Int) (ef P n k) = 0
  | 0, _ => chkT_ok.2 ⟨by omega, by simp [ef, en], fun e he => by simp [ef, en] at he, by simp [ef, en]⟩
  | k + 1, hk => by
    have ih := ef_ok h hn hn2 hl k (by omega)
    rw [← ef_fill h hn (by omega) hl]
    exact fill_ok (ef_fillE0 ih (h.at_ (show k < P.length by omega)) (show k < 40 by omega))
where
  ef_fillE0 {n : Nat} {L : List Te} {p : Int} {k : Nat} (h : chkT (n : Int) L = 0) (hp : 0 ≤ p ∧ p < 512) (hk : k < 40) : fillE (n : Int) L 2 p (1 + 256 * (k : Int)) = 0 := by
    unfold fillE placeE
    rw [if_neg (show ¬ chkT (n : Int) L ≠ 0 by simpa using h), show okSP 2 p = true by unfold okSP; simp; omega, (small_tr k hk).1]
    rfl
theorem ef_fillE {P : List Int} {n k : Nat} (h : Pgs P) (hn : 1 ≤ n) (hn2 : n ≤ 16) (hk : k < P.length) (hl : P.length ≤ 40) :
    fillE (n : Int) (ef P n k) 2 (P.getD k 0) (1 + 256 * (k : Int)) = 0 :=
  ef_ok.ef_fillE0 (ef_ok h hn hn2 hl k (by omega)) (h.at_ hk) (by omega)
theorem ef_inw {P : List Int} {n k : Nat} (hk : k ≤ 40) : ∀ o ∈ ef P n k, 0 ≤ o.2.2 ∧ o.2.2 < 18446744073709551616 := by
  intro o ho
  obtain ⟨i, hi, rfl⟩ := ef_mem ho
  simp only
  omega
end Go.Proofs.Ythoeolaleeogbaa.Tb
