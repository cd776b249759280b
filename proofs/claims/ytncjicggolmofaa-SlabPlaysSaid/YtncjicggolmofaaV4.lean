import Derived.Test.YtncjicggolmofaaV3
namespace Go.Proofs.Ytncjicggolmofaa.Sb
open Go Go.RowKit
set_option linter.unusedVariables false
set_option linter.unusedSimpArgs false
theorem cnt_ex {l : By} : 0 < cnt l ↔ ∃ j : Nat, j < l.length ∧ l.getD j false = true := by
  unfold cnt
  rw [List.count_pos_iff]
  constructor
  · intro h
    obtain ⟨j, hj, e⟩ := List.mem_iff_getElem.1 h
    exact ⟨j, hj, by rw [List.getD_eq_getElem?_getD, List.getElem?_eq_getElem hj]; exact e⟩
  · rintro ⟨j, hj, e⟩
    rw [List.getD_eq_getElem?_getD, List.getElem?_eq_getElem hj] at e
    exact List.mem_iff_getElem.2 ⟨j, hj, e⟩
/-- what is known between two slabs -/
structure Inv (m : Nat) (L0 : List Ca) (s : List Ca × Is) : Prop where
  sg : Sg m s.1
  iff : ∀ o, Ob m s.1 o ↔ Ob m L0 o ∨ o ∈ s.2
  nd : s.2.Nodup
  new : ∀ x, x ∈ s.2 → ¬ Ob m L0 x
  pos : ∀ i, i < s.1.length → 0 < cnt (cAt s.1 i).2
theorem Inv.zero {m : Nat} {L : List Ca} (g : Sg m L) (h : ∀ i, i < L.length → 0 < cnt (cAt L i).2) : Inv m L (L, []) :=
  ⟨g, fun o => by simp, List.nodup_nil, fun x h => (by cases h), h⟩
theorem use_parts {m : Nat} {L0 L : List Ca} {acc : Is} (sg : Sg m L) (iff : ∀ o, Ob m L o ↔ Ob m L0 o ∨ o ∈ acc) (nd : acc.Nodup) (new : ∀ x, x ∈ acc → ¬ Ob m L0 x) {k n : Nat} (hk : k < L.length) :
    Sg m (L.set k ((cAt L k).1, uF (cAt L k).1 (cAt L k).2 n)) ∧ (∀ o, Ob m (L.set k ((cAt L k).1, uF (cAt L k).1 (cAt L k).2 n)) o ↔ Ob m L0 o ∨ o ∈ acc ++ uO (cAt L k).1 (cAt L k).2 n) ∧ (acc ++ uO (cAt L k).1 (cAt L k).2 n).Nodup ∧ (∀ x, x ∈ acc ++ uO (cAt L k).1 (cAt L k).2 n → ¬ Ob m L0 x) := by
  obtain ⟨h1, h2, h3⟩ := Ob.use sg hk (n := n)
  refine ⟨h3, fun o => ?_, List.nodup_append.2 ⟨nd, uO_nodup _ _ _, fun a ha b hb e => ?_⟩, fun x hx => ?_⟩
  · rw [h1, iff, List.mem_append, or_assoc]
  · subst e
    exact h2 a hb ((iff a).2 (.inr ha))
  · rcases List.mem_append.1 hx with h | h
    · exact new x h
    · exact fun c => h2 x h ((iff x).2 (.inl c))
theorem Inv.use {m : Nat} {L0 : List Ca} {s : List Ca × Is} (h : Inv m L0 s) {k n : Nat} (hk : k < s.1.length) : Inv m L0 (s.1.set k ((cAt s.1 k).1, uF (cAt s.1 k).1 (cAt s.1 k).2 n), s.2 ++ uO (cAt s.1 k).1 (cAt s.1 k).2 n) := by
  obtain ⟨h1, h2, h3, h4⟩ := use_parts h.sg h.iff h.nd h.new hk (n := n)
  refine ⟨h1, h2, h3, h4, fun i hi => ?_⟩
  rw [List.length_set] at hi
  show 0 < cnt (cAt (s.1.set k _) i).2
  rw [cAt_set hk]
  by_cases e : k = i
  · subst e
    rw [if_pos rfl]
    obtain ⟨j, hj, hg⟩ := cnt_ex.1 (h.pos k hk)
    exact cnt_ex.2 ⟨j, by show j < (uF _ _ _).length; rw [uF_len]; exact hj, (uF_get hj).2 (.inl hg)⟩
  · rw [if_neg e]; exact h.pos i hi
theorem alK_inv {m : Nat} {L : List Ca} (g : Sg m L) (h : ∀ i, i < L.length → 0 < cnt (cAt L i).2) (n : Nat) : ∀ k, k ≤ L.length → Inv m L (alK n L k)
  | 0, _ => Inv.zero g h
  | k + 1, hk => by
    have ih := alK_inv g h n k (by omega)
    have hf := alK_far n L k k (Nat.le_refl _)
    have := ih.use (k := k) (n := n - (alK n L k).2.length) (by rw [alK_len]; omega)
    rw [hf] at this
    exact this
theorem ins_set {α : Type} (L : List α) (a b : α) {p : Nat} (hp : p ≤ L.length) : (L.take p ++ a :: L.drop p).set p b = L.take p ++ b :: L.drop p := by
  rw [List.set_append_right _ _ (by rw [List.length_take]; omega)]
  have e : p - (L.take p).length = 0 := by rw [List.length_take]; omega
  rw [e]; rfl
theorem alZ_inv2 {m : Nat} {L0 : List Ca} {s : List Ca × Is} (h : Inv m L0 s) {n : Nat} {f : Int} (hf : f ∉ frs s.1) (hn : s.2.length < n) (hm : 0 < m) : Inv m L0 (alZ n m s f) := by
  obtain ⟨h1, h2⟩ := Ob.new h.sg hf
  have hp := (caP_at s.1 f).1
  obtain ⟨p, hpe⟩ : ∃ p, p = caP s.1 f := ⟨_, rfl⟩
  have hs : alZ n m s f = (s.1.take p ++ (f, uF f (List.replicate m false) (n - s.2.length)) :: s.1.drop p, s.2 ++ uO f (List.replicate m false) (n - s.2.length)) := by rw [hpe]; rfl
  rw [← hpe] at h1 h2 hp
  have hk : p < (s.1.take p ++ (f, List.replicate m false) :: s.1.drop p).length := by rw [ins_len]; omega
  have hc : cAt (s.1.take p ++ (f, List.replicate m false) :: s.1.drop p) p = (f, List.replicate m false) := by
    rcases cAt_ins (m := (f, List.replicate m false)) hp (show p < s.1.length + 1 by omega) with ⟨_, e⟩ | ⟨q, _, _, c⟩
    · exact e
    · omega
  obtain ⟨g1, g2, g3, g4⟩ := use_parts (L0 := L0) (acc := s.2) h2 (fun o => by rw [h1]; exact h.iff o) h.nd h.new hk (n := n - s.2.length)
  rw [hc] at g1 g2 g3 g4
  dsimp only at g1 g2 g3 g4
  rw [ins_set _ _ _ hp] at g1 g2
  rw [hs]
  refine ⟨g1, g2, g3, g4, fun i hi => ?_⟩
  rw [ins_len] at hi
  rcases cAt_ins (m := (f, uF f (List.replicate m false) (n - s.2.length))) hp hi with ⟨_, e⟩ | ⟨q, hq, e, _⟩
  · rw [e]
    have hlen : (uO f (List.replicate m false) (n - s.2.length)).length ≠ 0 := by rw [uO_len, fc_rep]; omega
    obtain ⟨x, hx⟩ : ∃ x, x ∈ uO f (List.replicate m false) (n - s.2.length) := by
      cases hu : uO f (List.replicate m false) (n - s.2.length) with
      | nil => rw [hu] at hlen; exact absurd rfl hlen
      | cons x xs => exact ⟨x, List.mem_cons_self ..⟩
    obtain ⟨j, hj, _, ex⟩ := uO_mem hx
    exact cnt_ex.2 ⟨j, by show j < (uF _ _ _).length; rw [uF_len]; exact hj, (uF_get hj).2 (.inr (by rw [← ex]; exact hx))⟩
  · rw [e]; exact h.pos q hq
/-- all new frames -/
theorem alZs_inv {m : Nat} {L0 : List Ca} {n : Nat} (hm : 0 < m) {zs : Is} {s : List Ca × Is} {t : Nat} {F : Is} (h : Inv m L0 s) (hF : ∀ x, x ∈ frs s.1 → x ∈ F) (hz : ∀ z, z ∈ zs → z ∉ F) (hnd : zs.Nodup) (hc : s.2.length = min n t) (hlast : zs ≠ [] → t + (zs.length - 1) * m < n) :
    Inv m L0 (zs.foldl (alZ n m) s) ∧ ∀ x, x ∈ frs (zs.foldl (alZ n m) s).1 → x ∈ F ∨ x ∈ zs := by
  induction zs generalizing s t F with
  | nil => exact ⟨h, fun x hx => .inl (hF x hx)⟩
  | cons z zs ih =>
    have hl := hlast (by simp)
    simp only [List.length_cons, Nat.add_sub_cancel] at hl
    have hzf : z ∉ frs s.1 := fun c => hz z (List.mem_cons_self ..) (hF z c)
    have h1 := alZ_inv2 (n := n) h hzf (by rw [hc]; omega) hm
    have := ih (s := alZ n m s z) (t := t + m) (F := z :: F) h1 (fun x hx => by
      rcases frs_ins.1 hx with e | e
      · rw [e]; exact List.mem_cons_self ..
      · exact List.mem_cons_of_mem _ (hF x e)) (fun y hy c => by
      rcases List.mem_cons.1 c with e | e
      · exact (List.nodup_cons.1 hnd).1 (e ▸ hy)
      · exact hz y (List.mem_cons_of_mem _ hy) e) (List.nodup_cons.1 hnd).2 (alZ_cnt z hc) (fun hne => by
      have hp : 0 < zs.length := List.length_pos_iff.2 hne
      have e : zs.length * m = (zs.length - 1) * m + m := by
        conv => lhs; rw [show zs.length = (zs.length - 1) + 1 by omega]
        rw [Nat.add_mul, Nat.one_mul]
      omega)
    refine ⟨this.1, fun x hx => ?_⟩
    rcases this.2 x hx with e | e
    · rcases List.mem_cons.1 e with e | e
      · exact .inr (by rw [e]; exact List.mem_cons_self ..)
      · exact .inl e
    · exact .inr (List.mem_cons_of_mem _ e)
end Go.Proofs.Ytncjicggolmofaa.Sb
