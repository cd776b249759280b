import Derived.Test.YtflplldamefhoaaAw
namespace Go.Proofs.Ytflplldamefhoaa.Bd
open Go Go.RowKit
set_option linter.unusedVariables false
/-- A GAME: the zone's lists and the blocks that are held (frame, order), in order -/
structure Hd (p : Pm) (L : Fl) (H : List (Int × Nat)) : Prop where
  blk : ∀ h ∈ H, h.2 < 5 ∧ blk p h.2 h.1
  out : ∀ h ∈ H, ∀ x, dn h.2 x = h.1 → ¬ InS L x
  dis : H.Pairwise fun a b => ∀ x, ¬ (dn a.2 x = a.1 ∧ dn b.2 x = b.1)
  all : ∀ x, p.st ≤ x ∧ x < p.st + p.ct ↔ InS L x ∨ ∃ h ∈ H, dn h.2 x = h.1
theorem Hd.new {p : Pm} {L : Fl} (h : ∀ x, InS L x ↔ p.st ≤ x ∧ x < p.st + p.ct) : Hd p L [] :=
  ⟨fun _ h => (by cases h), fun _ h => (by cases h), List.Pairwise.nil, fun x => (by rw [h x]; simp)⟩
/-- a block of free frames is taken -/
theorem Hd.take {p : Pm} {L L2 : Fl} {H : List (Int × Nat)} (h : Hd p L H) {f : Int} {k : Nat} (hk : k < 5) (hb : Bd.blk p k f) (hi : ∀ x, dn k x = f → InS L x) (hs : ∀ x, InS L2 x ↔ InS L x ∧ dn k x ≠ f) : Hd p L2 (H ++ [(f, k)]) := by
  refine ⟨fun a ha => ?_, fun a ha x hx hin => ?_, List.pairwise_append.2 ⟨h.dis, List.pairwise_singleton _ _, fun a ha b hb x hx => ?_⟩, fun x => ?_⟩
  · rcases List.mem_append.1 ha with h1 | h1
    · exact h.blk a h1
    · rw [List.mem_singleton.1 h1]; exact ⟨hk, hb⟩
  · have h2 := (hs x).1 hin
    rcases List.mem_append.1 ha with h1 | h1
    · exact h.out a h1 x hx h2.1
    · rw [List.mem_singleton.1 h1] at hx; exact h2.2 hx
  · rw [List.mem_singleton.1 hb] at hx
    exact h.out a ha x hx.1 (hi x hx.2)
  · rw [h.all x]
    constructor
    · rintro (h1 | ⟨a, ha, e⟩)
      · by_cases e : dn k x = f
        · exact .inr ⟨(f, k), by simp, e⟩
        · exact .inl ((hs x).2 ⟨h1, e⟩)
      · exact .inr ⟨a, List.mem_append.2 (.inl ha), e⟩
    · rintro (h1 | ⟨a, ha, e⟩)
      · exact .inl ((hs x).1 h1).1
      · rcases List.mem_append.1 ha with h2 | h2
        · exact .inr ⟨a, h2, e⟩
        · rw [List.mem_singleton.1 h2] at e; exact .inl (hi x e)
/-- a held block is given back -/
theorem Hd.give {p : Pm} {L L2 : Fl} {A C : List (Int × Nat)} {b : Int × Nat} (h : Hd p L (A ++ b :: C)) (hs : ∀ x, InS L2 x ↔ InS L x ∨ dn b.2 x = b.1) : Hd p L2 (A ++ C) := by
  have hd := List.pairwise_append.1 h.dis
  have hc := List.pairwise_cons.1 hd.2.1
  have mem : ∀ a, a ∈ A ++ C → a ∈ A ++ b :: C := fun a ha => by
    rcases List.mem_append.1 ha with h1 | h1
    · exact List.mem_append.2 (.inl h1)
    · exact List.mem_append.2 (.inr (List.mem_cons_of_mem _ h1))
  refine ⟨fun a ha => h.blk a (mem a ha), fun a ha x hx hin => ?_, List.pairwise_append.2 ⟨hd.1, hc.2, fun a ha c hc' => hd.2.2 a ha c (List.mem_cons_of_mem _ hc')⟩, fun x => ?_⟩
  · rcases (hs x).1 hin with h1 | h1
    · exact h.out a (mem a ha) x hx h1
    · rcases List.mem_append.1 ha with h2 | h2
      · exact hd.2.2 a h2 b (List.mem_cons_self ..) x ⟨hx, h1⟩
      · exact hc.1 a h2 x ⟨h1, hx⟩
  · rw [h.all x]
    constructor
    · rintro (h1 | ⟨a, ha, e⟩)
      · exact .inl ((hs x).2 (.inl h1))
      · rcases List.mem_append.1 ha with h2 | h2
        · exact .inr ⟨a, List.mem_append.2 (.inl h2), e⟩
        · rcases List.mem_cons.1 h2 with h3 | h3
          · rw [h3] at e; exact .inl ((hs x).2 (.inr e))
          · exact .inr ⟨a, List.mem_append.2 (.inr h3), e⟩
    · rintro (h1 | ⟨a, ha, e⟩)
      · rcases (hs x).1 h1 with h2 | h2
        · exact .inl h2
        · exact .inr ⟨b, by simp, h2⟩
      · exact .inr ⟨a, mem a ha, e⟩
/-- nothing is held: the zone is whole -/
theorem Hd.whole {p : Pm} {L : Fl} (h : Hd p L []) (x : Int) : InS L x ↔ p.st ≤ x ∧ x < p.st + p.ct := by
  rw [h.all x]; simp
end Go.Proofs.Ytflplldamefhoaa.Bd
