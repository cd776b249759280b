import Derived.Test.YtncjicggolmofaaV1
import Derived.Test.YtncjicggolmofaaW2
namespace Go.Proofs.Ytncjicggolmofaa.Sb
open Go Go.RowKit
set_option linter.unusedVariables false
set_option linter.unusedSimpArgs false
theorem getD_set_eq {l : By} {a j : Nat} {b : Bool} (hj : j < l.length) : (l.set a b).getD j false = if a = j then b else l.getD j false := by
  rw [List.getD_eq_getElem?_getD, List.getElem?_set]
  by_cases e : a = j
  · subst e; rw [if_pos rfl, if_pos hj, if_pos rfl]; rfl
  · rw [if_neg e, if_neg e, ← List.getD_eq_getElem?_getD]
theorem uS_get (m : Int) : ∀ (os : Is) (l : By) (j : Nat), j < l.length → ((uS m l os).getD j false = true ↔ l.getD j false = true ∨ ∃ x ∈ os, (x % m).toNat = j)
  | [], l, j, _ => by
    show l.getD j false = true ↔ _
    simp
  | x :: os, l, j, hj => by
    show (uS m (l.set (x % m).toNat true) os).getD j false = true ↔ _
    rw [uS_get m os _ j (by rw [List.length_set]; exact hj), getD_set_eq hj]
    by_cases e : (x % m).toNat = j
    · rw [if_pos e]
      exact ⟨fun _ => .inr ⟨x, List.mem_cons_self .., e⟩, fun _ => .inl rfl⟩
    · rw [if_neg e]
      constructor
      · rintro (h | ⟨y, hy, h⟩)
        · exact .inl h
        · exact .inr ⟨y, List.mem_cons_of_mem _ hy, h⟩
      · rintro (h | ⟨y, hy, h⟩)
        · exact .inl h
        · rcases List.mem_cons.1 hy with rfl | hy
          · exact absurd h e
          · exact .inr ⟨y, hy, h⟩
/-- what is taken of a slab was free -/
theorem uO_mem {f : Int} {l : By} {n : Nat} {x : Int} (h : x ∈ uO f l n) : ∃ j : Nat, j < l.length ∧ l.getD j false = false ∧ x = f * l.length + j := by
  have h2 := List.mem_of_mem_take h
  have key : ∀ k, x ∈ nb f l.length l false k → ∃ j : Nat, j < k ∧ l.getD j false = false ∧ x = f * l.length + j := by
    intro k
    induction k with
    | zero => intro h; cases h
    | succ k ih =>
      intro h
      by_cases e : l.getD k false = false
      · rw [nb_1 e, List.mem_append] at h
        rcases h with h | h
        · obtain ⟨j, hj, r⟩ := ih h; exact ⟨j, by omega, r⟩
        · exact ⟨k, by omega, e, List.mem_singleton.1 h⟩
      · rw [nb_0 e] at h
        obtain ⟨j, hj, r⟩ := ih h; exact ⟨j, by omega, r⟩
  exact key l.length h2
theorem mod_at {f : Int} {m j : Nat} (hj : j < m) : ((f * (m : Int) + (j : Int)) % (m : Int)).toNat = j := by
  rw [Int.add_comm, Int.add_mul_emod_self_right, Int.emod_eq_of_lt (by omega) (by omega)]; rfl
/-- the flags behind the use: those of before, and those of the objects taken -/
theorem uF_get {f : Int} {l : By} {n j : Nat} (hj : j < l.length) : (uF f l n).getD j false = true ↔ l.getD j false = true ∨ f * l.length + (j : Int) ∈ uO f l n := by
  unfold uF
  rw [uS_get l.length _ _ _ hj]
  constructor
  · rintro (h | ⟨x, hx, h⟩)
    · exact .inl h
    · obtain ⟨i, hi, _, e⟩ := uO_mem hx
      rw [e, mod_at hi] at h
      subst h
      right; rw [← e]; exact hx
  · rintro (h | h)
    · exact .inl h
    · exact .inr ⟨_, h, mod_at hj⟩
/-- the numbers of a slab ascend -/
theorem nb_pw (f m : Int) (l : By) (b : Bool) : ∀ k, (nb f m l b k).Pairwise (· < ·) ∧ ∀ x ∈ nb f m l b k, x < f * m + (k : Int)
  | 0 => ⟨List.Pairwise.nil, fun x h => by cases h⟩
  | k + 1 => by
    obtain ⟨h1, h2⟩ := nb_pw f m l b k
    by_cases e : l.getD k false = b
    · rw [nb_1 e]
      refine ⟨List.pairwise_append.2 ⟨h1, List.pairwise_singleton _ _, fun x hx y hy => ?_⟩, fun x hx => ?_⟩
      · rw [List.mem_singleton.1 hy]; exact h2 x hx
      · rcases List.mem_append.1 hx with hx | hx
        · have := h2 x hx; omega
        · rw [List.mem_singleton.1 hx]; omega
    · rw [nb_0 e]
      exact ⟨h1, fun x hx => by have := h2 x hx; omega⟩
theorem uO_nodup (f : Int) (l : By) (n : Nat) : (uO f l n).Nodup := by
  refine List.Pairwise.imp (fun h => Int.ne_of_lt h) ?_
  exact (nb_pw f l.length l false l.length).1.take
end Go.Proofs.Ytncjicggolmofaa.Sb
