import Derived.Test.YtinoddpdfknkbabRd2
import Derived.Maps.OwnSet
namespace Go.Proofs.Ytinoddpdfknkbab.Pc
open Go Go.RowKit
set_option linter.unusedVariables false
-- how many different ones
def ddr : Is → Nat
  | [] => 0
  | f :: r => if f ∈ r then ddr r else ddr r + 1
def dd (S : Is) : Nat := ddr S.reverse
theorem dd_snoc (S : Is) (f : Int) : dd (S ++ [f]) = if f ∈ S then dd S else dd S + 1 := by
  unfold dd
  rw [List.reverse_append]
  simp [ddr]
theorem ddr_le : ∀ l : Is, ddr l ≤ l.length ∧ (ddr l = l.length ↔ l.Nodup)
  | [] => by simp [ddr]
  | f :: r => by
    obtain ⟨h1, h2⟩ := ddr_le r
    unfold ddr
    by_cases e : f ∈ r
    · rw [if_pos e]
      refine ⟨by rw [List.length_cons]; omega, fun h => by rw [List.length_cons] at h; omega, fun h => absurd e (List.nodup_cons.1 h).1⟩
    · rw [if_neg e]
      refine ⟨by rw [List.length_cons]; omega, fun h => List.nodup_cons.2 ⟨e, h2.1 (by rw [List.length_cons] at h; omega)⟩, fun h => by rw [List.length_cons, h2.2 (List.nodup_cons.1 h).2]⟩
theorem nodup_rev : ∀ l : Is, l.reverse.Nodup → l.Nodup
  | [], _ => List.Pairwise.nil
  | f :: r, h => by
    rw [List.reverse_cons, List.nodup_append] at h
    refine List.nodup_cons.2 ⟨fun hm => h.2.2 f (List.mem_reverse.2 hm) f (by simp) rfl, nodup_rev r h.1⟩
theorem dd_lt (S : Is) : decide (dd S < S.length) = !decide S.Nodup := by
  obtain ⟨h1, h2⟩ := ddr_le S.reverse
  rw [List.length_reverse] at h1 h2
  have hr : S.reverse.Nodup ↔ S.Nodup := ⟨nodup_rev S, fun h => by
    apply nodup_rev
    rw [List.reverse_reverse]; exact h⟩
  rw [hr] at h2
  show decide (ddr S.reverse < S.length) = _
  by_cases e : S.Nodup
  · have := h2.2 e
    simp [e]; omega
  · have : ddr S.reverse ≠ S.length := fun x => e (h2.1 x)
    simp [e]; omega
-- a map from ints to bools that is the set of a list
def MapS (w : World) (b n : Nat) (S : Is) : Prop :=
  ∃ D : DataW Unit, w.ownsMap Try.prog 3 (plainElem Try.prog 4) b n D ∧ (∀ f : Int, fr f = true → D.atKey (.int .i64 f) (.lit (.bool false)) = .lit (.bool (decide (f ∈ S)))) ∧ (∀ f : Int, fr f = true → Maps.has D (.int .i64 f) = decide (f ∈ S)) ∧ Maps.size D = dd S
theorem kint : Maps.Keyed Try.prog 3 := Maps.int_keyed Try.underlying3
theorem fr_wf {f : Int} (h : fr f = true) : (Lit.int .i64 f).wf = true := by
  have : 0 ≤ f ∧ f < 256 := by simpa [fr] using h
  simp [Lit.wf, IntKind.min, IntKind.max, IntKind.bits, IntKind.signed]
  omega
section
variable {w w' : World} {b n : Nat} {S : Is}
theorem MapS.made (w : World) : MapS (w.alloc (.map #[] 0)) w.heap.size 0 [] :=
  ⟨.map [], World.ownsMap_made w _ _ _, fun f _ => by simp [DataW.atKey], fun f _ => by simp [Maps.has], rfl⟩
theorem MapS.lt (h : MapS w b n S) : b < w.heap.size := by
  obtain ⟨D, h, _⟩ := h
  exact h.lt
theorem MapS.below (h : MapS w b n S) (hb : Below w.heap.size w w') : MapS w' b n S := by
  obtain ⟨D, ⟨es, cl, e, r⟩, r2⟩ := h
  exact ⟨D, ⟨es, cl, (hb.block b (Array.getElem?_eq_some_iff.1 e).1).trans e, r⟩, r2⟩
theorem MapS.mono (h : MapS w b n S) {n' : Nat} (hn : n ≤ n') : MapS w b n' S := by
  obtain ⟨D, h, r⟩ := h
  exact ⟨D, h.mono hn, r⟩
end
end Go.Proofs.Ytinoddpdfknkbab.Pc
