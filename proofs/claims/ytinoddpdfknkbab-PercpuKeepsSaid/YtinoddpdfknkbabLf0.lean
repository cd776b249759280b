import Derived.Test.YtinoddpdfknkbabSzs
import Derived.Test.YtinoddpdfknkbabPk
namespace Go.Proofs.Ytinoddpdfknkbab.Pc
open Go Go.RowKit
set_option linter.unusedVariables false
/-- the cache with some frames put on the list of a zone -/
def lfD (C : Ls) (z : Int) (s : Is) : Ls := C.set z.toNat (lAt C z.toNat ++ s)
section
variable {C : Ls} {z f : Int} {s : Is}
theorem lfD_len : (lfD C z s).length = C.length := by unfold lfD; rw [List.length_set]
theorem lfD_nil : lfD C z [] = C := by
  unfold lfD
  rw [List.append_nil]
  rcases Nat.lt_or_ge z.toNat C.length with h | h
  · rw [lAt_get h]; exact List.set_getElem_self h
  · exact List.set_eq_of_length_le h
theorem lAt_lfD (h : z.toNat < C.length) : lAt (lfD C z s) z.toNat = lAt C z.toNat ++ s := by
  unfold lfD
  rw [lAt_set h, if_pos rfl]
theorem lfD_set {l : Is} : (lfD C z s).set z.toNat l = C.set z.toNat l := by
  unfold lfD
  rw [List.set_set]
theorem lfD_snoc (h : z.toNat < C.length) : (lfD C z s).set z.toNat (lAt (lfD C z s) z.toNat ++ [f]) = lfD C z (s ++ [f]) := by
  rw [lAt_lfD h, lfD_set, List.append_assoc]; rfl
theorem perm_set {C : Ls} {k : Nat} (h : k < C.length) (s : Is) : (C.set k (lAt C k ++ s)).flatten.Perm (s ++ C.flatten) := by
  induction C generalizing k with
  | nil => simp at h
  | cons l C ih =>
    cases k with
    | zero =>
      show ((l ++ s) ++ C.flatten).Perm (s ++ (l ++ C.flatten))
      rw [List.append_assoc]
      exact List.perm_append_comm_assoc l s C.flatten
    | succ k =>
      have hk : k < C.length := by simpa using h
      show (l ++ (C.set k (lAt C k ++ s)).flatten).Perm (s ++ (l ++ C.flatten))
      exact ((ih hk).append_left l).trans (List.perm_append_comm_assoc l s C.flatten)
theorem lf_ok (h : z.toNat < C.length) : frE (lfD C z s) = 0 ↔ (∀ f ∈ s ++ C.flatten, 0 ≤ f ∧ f < 256) ∧ (s ++ C.flatten).Nodup := by
  have p := perm_set h s
  rw [frE_zero]
  unfold lfD
  rw [p.nodup_iff]
  constructor
  · rintro ⟨h1, h2⟩; exact ⟨fun f hf => h1 f (p.mem_iff.2 hf), h2⟩
  · rintro ⟨h1, h2⟩; exact ⟨fun f hf => h1 f (p.mem_iff.1 hf), h2⟩
theorem cz_of_pt {b h : Int} (e : ptE C z f b h = 0) : czE C z = 0 := (ptE_zero.1 e).1
theorem zlt (e : czE (lfD C z s) z = 0) : z.toNat < C.length := by
  have := czE_zero.1 e
  rw [lfD_len] at this
  omega
theorem ok_snoc {b h : Int} (e : ptE (lfD C z s) z f b h = 0) : czE (lfD C z (s ++ [f])) z = 0 := by
  obtain ⟨h0, hf, _, _, hn⟩ := ptE_zero.1 e
  have hz := zlt h0
  obtain ⟨h1, h2, h3⟩ := czE_zero.1 h0
  rw [lfD_len] at h1 h3
  have hf' : 0 ≤ f ∧ f < 256 := by simpa [fr] using hf
  have hn' : f ∉ s ++ C.flatten := fun x => hn ((perm_set hz s).mem_iff.2 x)
  obtain ⟨a1, a2⟩ := (lf_ok hz).1 h2
  have p : (s ++ [f] ++ C.flatten).Perm (f :: (s ++ C.flatten)) := by
    rw [List.append_assoc]; exact List.perm_middle
  refine czE_zero.2 ⟨by rw [lfD_len]; exact h1, (lf_ok hz).2 ⟨fun g hg => ?_, ?_⟩, by rw [lfD_len]; exact h3⟩
  · rcases List.mem_cons.1 (p.mem_iff.1 hg) with rfl | hg
    · exact hf'
    · exact a1 g hg
  · rw [p.nodup_iff]; exact List.nodup_cons.2 ⟨hn', a2⟩
theorem ok_pop (e : czE (lfD C z (s ++ [f])) z = 0) : czE (lfD C z s) z = 0 := by
  have hz := zlt e
  obtain ⟨h1, h2, h3⟩ := czE_zero.1 e
  rw [lfD_len] at h1 h3
  obtain ⟨a1, a2⟩ := (lf_ok hz).1 h2
  have sub : (s ++ C.flatten).Sublist (s ++ [f] ++ C.flatten) := (List.sublist_append_left s [f]).append (List.Sublist.refl _)
  exact czE_zero.2 ⟨by rw [lfD_len]; exact h1, (lf_ok hz).2 ⟨fun g hg => a1 g (sub.subset hg), a2.sublist sub⟩, by rw [lfD_len]; exact h3⟩
theorem lf_take (e : czE (lfD C z (s ++ [f])) z = 0) : tkE (lfD C z (s ++ [f])) z = 0 ∧ tkF (lfD C z (s ++ [f])) z = f ∧ tkC (lfD C z (s ++ [f])) z = lfD C z s := by
  have hz := zlt e
  have e0 : tkE (lfD C z (s ++ [f])) z = 0 := by
    unfold tkE
    rw [if_neg (fun x => x e), lAt_lfD hz, if_neg (by simp)]
  have el : lAt C z.toNat ++ (s ++ [f]) = (lAt C z.toNat ++ s) ++ [f] := (List.append_assoc _ _ _).symm
  have en : ((lAt C z.toNat ++ s) ++ [f]).length - 1 = (lAt C z.toNat ++ s).length := by rw [List.length_append, List.length_singleton]; omega
  refine ⟨e0, ?_, ?_⟩
  · unfold tkF
    rw [if_pos e0, lAt_lfD hz, el, en, List.getD_eq_getElem?_getD, List.getElem?_concat_length]; rfl
  · unfold tkC
    rw [if_pos e0, lAt_lfD hz, lfD_set, el, en, List.take_left]; rfl
theorem sz_lf (h : Sz 20 300 C) (hs : s.length ≤ 40) : Sz 1000 1000 (lfD C z s) := by
  have hl := lAt_len h z.toNat
  exact sz_up (sz_set (b' := 340) h (by omega) (by rw [List.length_append]; omega)) (by omega) (by omega)
theorem lf_room (h : Sz 20 300 C) (hs : s.length ≤ 40) : ¬ ((1000 : Int) < ((lAt (lfD C z s) z.toNat).length : Int) + 1) := by
  have h1 := lAt_len h z.toNat
  have h2 := lAt_len (sz_set (k := z.toNat) (l := lAt C z.toNat ++ s) (b' := 340) h (by omega) (by rw [List.length_append]; omega)) z.toNat
  unfold lfD
  omega
end
/-- append(v, f), one number more -/
theorem app_one (W : World) (B n : Nat) (v : Value) (f : Int) (xs : List Value) (hown : W.ownsRow B 3 1 v n xs) (hn : n ≤ 100000) (hB : B ≤ W.heap.size) :
    ∃ v' w', (Builtin.append_ #[34, 34] 34 #[v, .slice (some ⟨W.heap.size, 0, none⟩) 1 1]).run Try.prog (W.alloc (.cells #[.int .i64 f] 3)) = .ok v' w' ∧ w'.ownsRow B 3 1 v' (n + 1) (xs ++ [.int .i64 f]) ∧ (W.alloc (.cells #[.int .i64 f] 3)).grownBy w' v.ownBlock := by
  obtain ⟨i0, hi0, hz0, hz1, hz2⟩ := info_parts info3
  obtain ⟨v', w', hr, h2, h3, _, h5⟩ := run_append_own_at (P := Try.prog) (W.alloc (.cells #[.int .i64 f] 3)) B 34 34 3 i0 _ 1 8 Try.underlying34 hi0 hz0 hz1 hz2 rfl (by omega) v n xs (row_below hown (bal (brefl W) _)) ⟨W.heap.size, 0, none⟩ 1 1 [.int .i64 f] (by simp) (cell_one_new _ _ _) (by intro x hx; simp at hx; subst hx; rfl) (by simp only [maxLen]; omega) (by omega) (by simp; omega)
  exact ⟨v', w', hr, h2, h3⟩
end Go.Proofs.Ytinoddpdfknkbab.Pc
