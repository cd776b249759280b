import Derived.Test.YtiopfeleaifpbabFn1
import Derived.Test.YtiopfeleaifpbabShelf
import Derived.Sort.OwnSortedInts
namespace Go.Proofs.Ytiopfeleaifpbab.Bd
open Go Go.RowKit Go.Lib
set_option linter.unusedVariables false
-- PLACES IN A SORTED LIST
def pos (l : Is) (f : Int) : Nat := l.countP (· < f)
theorem pos_lt {a f : Int} {l : Is} (h : a < f) : pos (a :: l) f = pos l f + 1 := by unfold pos; rw [List.countP_cons_of_pos (by simpa using h)]
theorem pos_ge {a f : Int} {l : Is} (hs : Srt (a :: l)) (h : f ≤ a) : pos (a :: l) f = 0 := by
  unfold pos
  rw [List.countP_eq_zero]
  intro b hb
  have : a ≤ b := by
    rcases List.mem_cons.1 hb with rfl | hb
    · exact Int.le_refl _
    · have := (List.pairwise_cons.1 hs).1 b hb; omega
  simp; omega
theorem pos_le (l : Is) (f : Int) : pos l f ≤ l.length := List.countP_le_length
theorem del_eq {f : Int} : ∀ {l : Is}, Srt l → f ∈ l → pos l f < l.length ∧ l.take (pos l f) ++ l.drop (pos l f + 1) = l.filter (· ≠ f)
  | [], _, h => by cases h
  | a :: l, hs, h => by
    have hs' := List.pairwise_cons.1 hs
    by_cases e : a < f
    · have hm : f ∈ l := by
        rcases List.mem_cons.1 h with e2 | e2
        · omega
        · exact e2
      obtain ⟨h1, h2⟩ := del_eq hs'.2 hm
      rw [pos_lt e]
      refine ⟨by simpa using h1, ?_⟩
      rw [List.take_succ_cons, List.drop_succ_cons, List.filter_cons_of_pos (by simp; omega), ← h2]; rfl
    · have e2 : a = f := by
        rcases List.mem_cons.1 h with e2 | e2
        · exact e2.symm
        · have := hs'.1 f e2; omega
      rw [pos_ge hs (by omega)]
      refine ⟨by simp, ?_⟩
      rw [List.filter_cons_of_neg (by simp [e2]), List.filter_eq_self.2]
      · simp
      · intro b hb
        have := hs'.1 b hb
        simp; omega
def ins (l : Is) (f : Int) : Is := l.take (pos l f) ++ f :: l.drop (pos l f)
theorem ins_mem {l : Is} {f g : Int} : g ∈ ins l f ↔ g ∈ l ∨ g = f := by
  unfold ins
  rw [List.mem_append, List.mem_cons]
  have e : g ∈ l ↔ g ∈ l.take (pos l f) ∨ g ∈ l.drop (pos l f) := by
    rw [← List.mem_append, List.take_append_drop]
  rw [e]
  constructor
  · rintro (h | h | h)
    · exact .inl (.inl h)
    · exact .inr h
    · exact .inl (.inr h)
  · rintro ((h | h) | h)
    · exact .inl h
    · exact .inr (.inr h)
    · exact .inr (.inl h)
theorem ins_len (l : Is) (f : Int) : (ins l f).length = l.length + 1 := by
  have := pos_le l f
  unfold ins; rw [List.length_append, List.length_cons, List.length_take, List.length_drop]; omega
theorem ins_srt {f : Int} : ∀ {l : Is}, Srt l → f ∉ l → Srt (ins l f)
  | [], _, _ => by unfold ins Srt; simp
  | a :: l, hs, h => by
    have hs' := List.pairwise_cons.1 hs
    by_cases e : a < f
    · have ih := ins_srt hs'.2 (fun hm => h (List.mem_cons_of_mem _ hm))
      unfold ins at ih ⊢
      rw [pos_lt e, List.take_succ_cons, List.drop_succ_cons]
      refine List.pairwise_cons.2 ⟨fun b hb => ?_, ih⟩
      rcases (@ins_mem l f b).1 hb with h1 | h1
      · exact hs'.1 b h1
      · omega
    · have h1 : f ≠ a := fun x => h (by simp [x])
      have e0 := pos_ge hs (show f ≤ a by omega)
      unfold ins
      rw [e0, List.take_zero, List.drop_zero, List.nil_append]
      refine List.pairwise_cons.2 ⟨fun b hb => ?_, hs⟩
      rcases List.mem_cons.1 hb with rfl | hb
      · omega
      · have := hs'.1 b hb; omega
theorem fil_srt {l : Is} (h : Srt l) (f : Int) : Srt (l.filter (· ≠ f)) := List.Pairwise.filter _ h
theorem fil_mem {l : Is} {f g : Int} : g ∈ l.filter (· ≠ f) ↔ g ∈ l ∧ g ≠ f := by simp
theorem fil_no {l : Is} {f : Int} (h : f ∉ l) : l.filter (· ≠ f) = l := List.filter_eq_self.2 fun b hb => by simp; rintro rfl; exact h hb
theorem srt_le {l : Is} (h : Srt l) : l.Pairwise (· ≤ ·) := h.imp fun h => by omega
-- BINARY SEARCH
theorem bs_any {w : World} {v : Value} {l : Is} (f : Int) (h : IsI w v l) (hs : Srt l) (hn : l.length ≤ 1000000) :
    Calls Try.prog 48 #[v, .int .i64 f] w fun e w' => e = .returned (.tuple #[.int .i64 (pos l f : Nat), .bool (decide (f ∈ l))]) ∧ Below w.heap.size w w' := by
  obtain ⟨A, c, rfl, hc, hb⟩ := h
  rcases l with _ | ⟨a, l⟩
  · refine (Try.slices_BinarySearch_int_empty A c f w).mono fun e w' ⟨h1, h2⟩ => ?_
    subst h2
    exact ⟨by rw [h1]; rfl, brefl _⟩
  · obtain ⟨b, off, rfl, hlt, hcell⟩ := hb (by simp)
    refine (Try.slices_BinarySearch_int b off (a :: l).length c (a :: l) f w (Nat.le_refl _) (by omega) hcell (by rw [List.take_length]; exact srt_le hs)).mono fun e w' ⟨h1, q, h2⟩ => ?_
    subst h2
    refine ⟨?_, below_drewN (brefl _) _⟩
    rw [h1, List.take_length]
    have : (a :: l).contains f = decide (f ∈ a :: l) := by rw [Bool.eq_iff_iff]; simp
    rw [this]; rfl
-- DELETE
end Go.Proofs.Ytiopfeleaifpbab.Bd
