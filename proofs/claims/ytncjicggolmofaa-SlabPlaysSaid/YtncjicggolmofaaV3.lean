import Derived.Test.YtncjicggolmofaaV2
import Derived.Test.YtncjicggolmofaaAw
namespace Go.Proofs.Ytncjicggolmofaa.Sb
open Go Go.RowKit
set_option linter.unusedVariables false
set_option linter.unusedSimpArgs false
/-- the used objects of a row of slabs with m flags each -/
def Ob (m : Nat) (L : List Ca) (o : Int) : Prop := ∃ i : Nat, i < L.length ∧ ∃ j : Nat, j < m ∧ (cAt L i).2.getD j false = true ∧ o = (cAt L i).1 * (m : Int) + (j : Int)
/-- slabs in order, m flags each -/
structure Sg (m : Nat) (L : List Ca) : Prop where
  asc : Asc L
  len : ∀ i, i < L.length → (cAt L i).2.length = m
theorem quo_eq {m j j' : Nat} {f f' : Int} (hj : j < m) (hj' : j' < m) (e : f * (m : Int) + (j : Int) = f' * (m : Int) + (j' : Int)) : f = f' ∧ j = j' := by
  have h1 : (f * (m : Int) + (j : Int)) / (m : Int) = f := by rw [Int.add_comm, Int.add_mul_ediv_right _ _ (by omega), Int.ediv_eq_zero_of_lt (by omega) (by omega), Int.zero_add]
  have h2 : (f' * (m : Int) + (j' : Int)) / (m : Int) = f' := by rw [Int.add_comm, Int.add_mul_ediv_right _ _ (by omega), Int.ediv_eq_zero_of_lt (by omega) (by omega), Int.zero_add]
  have h3 : f = f' := by rw [← h1, ← h2, e]
  subst h3
  exact ⟨rfl, by omega⟩
theorem Asc.inj {L : List Ca} (h : Asc L) {i j : Nat} (hi : i < L.length) (hj : j < L.length) (e : (cAt L i).1 = (cAt L j).1) : i = j := by
  rcases Nat.lt_trichotomy i j with c | c | c
  · have := h i j c hj; omega
  · exact c
  · have := h j i c hi; omega
theorem cAt_set {L : List Ca} {k i : Nat} {c : Ca} (hk : k < L.length) : cAt (L.set k c) i = if k = i then c else cAt L i := by
  unfold cAt
  rw [List.getD_eq_getElem?_getD]
  by_cases e : k = i
  · subst e; rw [List.getElem?_set_self hk, if_pos rfl]; rfl
  · rw [List.getElem?_set_ne e, if_neg e, ← List.getD_eq_getElem?_getD]
/-- the use of a slab: just the objects taken come to the used ones; they were not used -/
theorem Ob.use {m : Nat} {L : List Ca} (g : Sg m L) {k n : Nat} (hk : k < L.length) :
    (∀ o, Ob m (L.set k ((cAt L k).1, uF (cAt L k).1 (cAt L k).2 n)) o ↔ Ob m L o ∨ o ∈ uO (cAt L k).1 (cAt L k).2 n) ∧ (∀ x, x ∈ uO (cAt L k).1 (cAt L k).2 n → ¬ Ob m L x) ∧ Sg m (L.set k ((cAt L k).1, uF (cAt L k).1 (cAt L k).2 n)) := by
  have hl := g.len k hk
  refine ⟨fun o => ⟨?_, ?_⟩, fun x hx => ?_, ⟨fun s t hs ht => ?_, fun i hi => ?_⟩⟩
  · rintro ⟨i, hi, j, hj, h1, h2⟩
    rw [List.length_set] at hi
    rw [cAt_set hk] at h1 h2
    by_cases e : k = i
    · subst e
      rw [if_pos rfl] at h1 h2
      rcases (uF_get (by rw [hl]; exact hj)).1 h1 with h | h
      · exact .inl ⟨k, hk, j, hj, h, h2⟩
      · rw [hl] at h
        exact .inr (by rw [h2]; exact h)
    · rw [if_neg e] at h1 h2
      exact .inl ⟨i, hi, j, hj, h1, h2⟩
  · rintro (⟨i, hi, j, hj, h1, h2⟩ | h)
    · refine ⟨i, by rw [List.length_set]; exact hi, j, hj, ?_, ?_⟩
      · rw [cAt_set hk]
        by_cases e : k = i
        · subst e
          rw [if_pos rfl]
          exact (uF_get (by rw [hl]; exact hj)).2 (.inl h1)
        · rw [if_neg e]; exact h1
      · rw [cAt_set hk]
        by_cases e : k = i
        · subst e; rw [if_pos rfl]; exact h2
        · rw [if_neg e]; exact h2
    · obtain ⟨j, hj, _, e⟩ := uO_mem h
      rw [hl] at hj e
      refine ⟨k, by rw [List.length_set]; exact hk, j, hj, ?_, by rw [cAt_set hk, if_pos rfl]; exact e⟩
      rw [cAt_set hk, if_pos rfl]
      refine (uF_get (by rw [hl]; exact hj)).2 (.inr ?_)
      rw [hl, ← e]; exact h
  · obtain ⟨j, hj, h0, e⟩ := uO_mem hx
    rw [hl] at hj e
    rintro ⟨i, hi, j', hj', h1, h2⟩
    obtain ⟨e1, e2⟩ := quo_eq hj hj' (e.symm.trans h2)
    obtain rfl := g.asc.inj hk hi e1
    subst e2
    rw [h0] at h1; cases h1
  · rw [List.length_set] at ht
    have key : ∀ q, (cAt (L.set k ((cAt L k).1, uF (cAt L k).1 (cAt L k).2 n)) q).1 = (cAt L q).1 := fun q => by
      rw [cAt_set hk]
      by_cases e : k = q
      · subst e; rw [if_pos rfl]
      · rw [if_neg e]
    rw [key, key]; exact g.asc s t hs ht
  · rw [List.length_set] at hi
    rw [cAt_set hk]
    by_cases e : k = i
    · subst e; rw [if_pos rfl]; show (uF _ _ _).length = m; rw [uF_len]; exact hl
    · rw [if_neg e]; exact g.len i hi
theorem rep_false {m j : Nat} : (List.replicate m false).getD j false = false := by
  rw [List.getD_eq_getElem?_getD, List.getElem?_replicate]
  split <;> rfl
/-- a new slab without an object -/
theorem Ob.new {m : Nat} {L : List Ca} (g : Sg m L) {f : Int} (hf : f ∉ frs L) :
    (∀ o, Ob m (L.take (caP L f) ++ (f, List.replicate m false) :: L.drop (caP L f)) o ↔ Ob m L o) ∧ Sg m (L.take (caP L f) ++ (f, List.replicate m false) :: L.drop (caP L f)) := by
  obtain ⟨h1, _, _⟩ := caP_at L f
  have bk : ∀ j', j' < L.length → ∃ j, j < L.length + 1 ∧ cAt (L.take (caP L f) ++ (f, List.replicate m false) :: L.drop (caP L f)) j = cAt L j' := fun j' hj' => by
    by_cases c : j' < caP L f
    · refine ⟨j', by omega, ?_⟩
      rcases cAt_ins (m := (f, List.replicate m false)) h1 (show j' < L.length + 1 by omega) with ⟨e, _⟩ | ⟨q, hq, e, c2⟩
      · omega
      · rw [e]; congr 1; omega
    · refine ⟨j' + 1, by omega, ?_⟩
      rcases cAt_ins (m := (f, List.replicate m false)) h1 (show j' + 1 < L.length + 1 by omega) with ⟨e, _⟩ | ⟨q, hq, e, c2⟩
      · omega
      · rw [e]; congr 1; omega
  refine ⟨fun o => ⟨?_, ?_⟩, ⟨Asc.ins g.asc hf _, fun i hi => ?_⟩⟩
  · rintro ⟨i, hi, j, hj, e1, e2⟩
    rw [ins_len] at hi
    rcases cAt_ins (m := (f, List.replicate m false)) h1 hi with ⟨_, e⟩ | ⟨q, hq, e, _⟩
    · rw [e, rep_false] at e1; cases e1
    · rw [e] at e1 e2
      exact ⟨q, hq, j, hj, e1, e2⟩
  · rintro ⟨i, hi, j, hj, e1, e2⟩
    obtain ⟨i', hi', e⟩ := bk i hi
    exact ⟨i', by rw [ins_len]; exact hi', j, hj, by rw [e]; exact e1, by rw [e]; exact e2⟩
  · rw [ins_len] at hi
    rcases cAt_ins (m := (f, List.replicate m false)) h1 hi with ⟨_, e⟩ | ⟨q, hq, e, _⟩
    · rw [e]; exact List.length_replicate
    · rw [e]; exact g.len q hq
end Go.Proofs.Ytncjicggolmofaa.Sb
