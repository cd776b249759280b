import Derived.Test.YtinoddpdfknkbabAt
namespace Go.Proofs.Ytinoddpdfknkbab.Pc
open Go Go.RowKit
set_option linter.unusedVariables false
theorem sz_set {a b : Nat} {C : Ls} (h : Sz a b C) {k : Nat} {l : Is} {b' : Nat} (hb : b ≤ b') (hl : l.length ≤ b') : Sz a b' (C.set k l) := by
  refine ⟨by rw [List.length_set]; exact h.1, fun j hj => ?_⟩
  rw [List.length_set] at hj
  by_cases hk : k < C.length
  · rw [lAt_set hk]
    by_cases e : j = k
    · rw [if_pos e]; exact hl
    · rw [if_neg e]; exact Nat.le_trans (h.2 j hj) hb
  · rw [List.set_eq_of_length_le (by omega)]; exact Nat.le_trans (h.2 j hj) hb
theorem sz_nil (a b : Nat) : Sz a b [] := ⟨by simp, fun k hk => by simp at hk⟩
theorem lAt_len {a b : Nat} {C : Ls} (h : Sz a b C) (k : Nat) : (lAt C k).length ≤ b := by
  rcases Nat.lt_or_ge k C.length with hk | hk
  · exact h.2 k hk
  · unfold lAt; rw [List.getD_eq_getElem?_getD, List.getElem?_eq_none hk]; simp
theorem sz_tk {a b : Nat} {C : Ls} {z : Int} (h : Sz a b C) : Sz a b (tkC C z) := by
  unfold tkC
  split
  · exact sz_set h (Nat.le_refl _) (by rw [List.length_take]; have := lAt_len h z.toNat; omega)
  · exact sz_nil _ _
theorem sz_dr {a b : Nat} {C : Ls} {z : Int} (h : Sz a b C) : Sz a b (drC C z) := by
  unfold drC
  split
  · exact sz_set h (Nat.le_refl _) (by simp)
  · exact sz_nil _ _
theorem sz_pt {a b : Nat} {C : Ls} {z f bt hi : Int} (h : Sz a b C) : Sz a (b + 1) (ptC C z f bt hi) := by
  have hl := lAt_len h z.toNat
  unfold ptC
  split
  · split
    · exact sz_set h (by omega) (by rw [List.length_drop, List.length_append, List.length_singleton]; omega)
    · exact sz_set h (by omega) (by rw [List.length_append, List.length_singleton]; omega)
  · exact sz_nil _ _
theorem sz_rf {a b n : Nat} {C : Ls} {z : Int} {fs : Is} (h : Sz a b C) (hn : fs.length ≤ n) : Sz a (b + n) (rfC C z fs) := by
  have hl := lAt_len h z.toNat
  unfold rfC
  split
  · exact sz_set h (by omega) (by rw [List.length_append, List.length_reverse]; omega)
  · exact sz_nil _ _
theorem sz_up {a b a' b' : Nat} {C : Ls} (h : Sz a b C) (ha : a ≤ a') (hb : b ≤ b') : Sz a' b' C := ⟨Nat.le_trans h.1 ha, fun k hk => Nat.le_trans (h.2 k hk) hb⟩
theorem ptB_len {a b : Nat} {C : Ls} {z f bt hi : Int} (h : Sz a b C) : (ptB C z f bt hi).length ≤ b + 1 := by
  have hl := lAt_len h z.toNat
  unfold ptB
  split
  · rw [List.length_take, List.length_append, List.length_singleton]; omega
  · simp
theorem drL_len {a b : Nat} {C : Ls} {z : Int} (h : Sz a b C) : (drL C z).length ≤ b := by
  have hl := lAt_len h z.toNat
  unfold drL
  split
  · exact hl
  · simp
end Go.Proofs.Ytinoddpdfknkbab.Pc
