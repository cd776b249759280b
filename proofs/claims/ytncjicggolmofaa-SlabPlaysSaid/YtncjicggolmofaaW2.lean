import Derived.Test.YtncjicggolmofaaW1
namespace Go.Proofs.Ytncjicggolmofaa.Sb
open Go Go.RowKit
set_option linter.unusedVariables false
set_option linter.unusedSimpArgs false
theorem nb_iff {f m : Int} {l : By} : ∀ {k : Nat} {o : Int}, o ∈ nb f m l true k ↔ ∃ j : Nat, j < k ∧ l.getD j false = true ∧ o = f * m + j
  | 0, o => ⟨fun h => (by cases h), fun ⟨j, hj, _⟩ => absurd hj (Nat.not_lt_zero _)⟩
  | k + 1, o => by
    by_cases e : l.getD k false = true
    · rw [nb_1 e, List.mem_append, nb_iff]
      constructor
      · rintro (⟨j, hj, r⟩ | h)
        · exact ⟨j, by omega, r⟩
        · exact ⟨k, by omega, e, List.mem_singleton.1 h⟩
      · rintro ⟨j, hj, h1, h2⟩
        by_cases ej : j = k
        · subst ej; exact .inr (List.mem_singleton.2 h2)
        · exact .inl ⟨j, by omega, h1, h2⟩
    · rw [nb_0 e, nb_iff]
      constructor
      · rintro ⟨j, hj, r⟩; exact ⟨j, by omega, r⟩
      · rintro ⟨j, hj, h1, h2⟩
        by_cases ej : j = k
        · subst ej; exact absurd h1 e
        · exact ⟨j, by omega, h1, h2⟩
theorem ls_iff {S : Sc} : ∀ {k : Nat} {o : Int}, o ∈ ls S true k ↔ ∃ i : Nat, i < k ∧ ∃ j : Nat, j < (us S i).length ∧ (us S i).getD j false = true ∧ o = fr S i * S.ob + j
  | 0, o => ⟨fun h => (by cases h), fun ⟨j, hj, _⟩ => absurd hj (Nat.not_lt_zero _)⟩
  | k + 1, o => by
    show o ∈ ls S true k ++ nb _ _ _ true _ ↔ _
    rw [List.mem_append, ls_iff, nb_iff]
    constructor
    · rintro (⟨i, hi, r⟩ | h)
      · exact ⟨i, by omega, r⟩
      · exact ⟨k, by omega, h⟩
    · rintro ⟨i, hi, r⟩
      by_cases ei : i = k
      · subst ei; exact .inr r
      · exact .inl ⟨i, by omega, r⟩
theorem fI_of {S : Sc} (V : Vd S) {i j : Nat} (hi : i < S.sl.length) (hj : j < (us S i).length) {o : Int} (e : o = fr S i * S.ob + j) : 0 ≤ o ∧ o / S.ob = fr S i ∧ fA S o = j ∧ fI S o = i := by
  have hb := V.ob
  have hl := V.ln i hi
  have hf := V.fr i hi
  have hp : 0 ≤ fr S i * S.ob := Int.mul_nonneg hf.1 (by omega)
  have h1 : o / S.ob = fr S i := by
    rw [e, Int.add_comm, Int.add_mul_ediv_right _ _ (by omega), Int.ediv_eq_zero_of_lt (by omega) (by omega), Int.zero_add]
  have h2 : o % S.ob = (j : Int) := by
    rw [e, Int.add_comm, Int.add_mul_emod_self_right]; exact Int.emod_eq_of_lt (by omega) (by omega)
  refine ⟨by omega, h1, by unfold fA; rw [h2]; rfl, ?_⟩
  unfold fI
  rw [h1]
  refine caP_eq S.sl _ i (by omega) (fun t ht => V.asc t i ht hi) (fun _ => ?_)
  show ¬ (cAt S.sl i).1 < fr S i
  unfold fr
  omega
theorem uf_iff {S : Sc} (V : Vd S) (o : Int) : uf S o = true ↔ o ∈ ls S true S.sl.length := by
  rw [ls_iff]
  constructor
  · intro h
    obtain ⟨h1, h2, h3⟩ := uf_ok h
    obtain ⟨hl, hf⟩ := hit_lt h2
    refine ⟨fI S o, hl, fA S o, fA_lt V hl, h3, ?_⟩
    have hb := V.ob
    have h4 := Int.emod_nonneg o (b := S.ob) (by omega)
    have h5 := Int.emod_add_mul_ediv o S.ob
    rw [hf]
    have e : ((fA S o : Nat) : Int) = o % S.ob := by unfold fA; omega
    rw [e, Int.mul_comm]
    omega
  · rintro ⟨i, hi, j, hj, h3, e⟩
    obtain ⟨h1, h2, h4, h5⟩ := fI_of V hi hj e
    unfold uf
    rw [h4, h5, h3, decide_eq_true h1, Bool.true_and, Bool.and_true]
    unfold hitP
    have e2 : caP S.sl (o / S.ob) = i := h5
    rw [e2, h2]
    exact decide_eq_true ⟨hi, rfl⟩
theorem at_uf {S : Sc} (V : Vd S) {o : Int} (h : uf S o = true) : atI S.sl (o / S.ob) = ((fI S o : Nat) : Int) := by
  obtain ⟨h1, h2, h3⟩ := uf_ok h
  obtain ⟨hl, hf⟩ := hit_lt h2
  refine atI_hit hl hf (fun j hj => ?_)
  have := V.asc j (fI S o) hj hl
  have h5 : (cAt S.sl (fI S o)).1 = o / S.ob := hf
  omega
/-- what the reference has behind k rounds of leaving slab i out -/
def rmv (L : List Ca) (i k : Nat) : List Ca := if k ≤ i then L.take k else L.take i ++ (L.take k).drop (i + 1)
theorem rmv_eq {L : List Ca} {i : Nat} (hi : i < L.length) : rmv L i (i + 1) = rmv L i i := by
  unfold rmv
  rw [if_neg (by omega), if_pos (Nat.le_refl _)]
  have : (L.take (i + 1)).drop (i + 1) = [] := List.drop_eq_nil_of_le (by rw [List.length_take]; omega)
  rw [this, List.append_nil]
theorem rmv_ne {L : List Ca} {i k : Nat} (hk : k < L.length) (h : k ≠ i) : rmv L i (k + 1) = rmv L i k ++ [cAt L k] := by
  unfold rmv
  by_cases c : k < i
  · rw [if_pos (by omega), if_pos (by omega), cAt_snoc hk]
  · rw [if_neg (by omega), if_neg (by omega), cAt_snoc hk, List.append_assoc, List.drop_append_of_le_length (by rw [List.length_take]; omega)]
theorem rmv_all (L : List Ca) {i : Nat} (hi : i < L.length) : rmv L i L.length = L.take i ++ L.drop (i + 1) := by
  unfold rmv
  rw [if_neg (by omega), List.take_length]
theorem rmv_len (L : List Ca) (i k : Nat) : (rmv L i k).length ≤ L.length := by
  unfold rmv
  split
  · rw [List.length_take]; omega
  · simp only [List.length_append, List.length_take, List.length_drop]; omega
end Go.Proofs.Ytncjicggolmofaa.Sb
