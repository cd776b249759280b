import Derived.Test.YtncjicggolmofaaAw2
namespace Go.Proofs.Ytncjicggolmofaa.Sb
open Go Go.RowKit
set_option linter.unusedVariables false
set_option linter.unusedSimpArgs false
theorem run_drew_below {B : Nat} {a w : World} (h : Below B a w) : Below B a w.drew := below_drewN h 1
theorem empty_own (w : World) (B : Nat) (hB : B ≤ w.heap.size) : (w.alloc (.cells #[] 4)).ownsRow B 4 1 (.slice (some ⟨w.heap.size, 0, none⟩) 0 0) 0 (([] : By).map bc) :=
  ⟨rfl, .inr ⟨w.heap.size, 0, #[], rfl, hB, heap_alloc_new w _, Nat.le_refl _, by unfold maxLen; omega, rfl, rfl⟩⟩
set_option maxRecDepth 100000 in
/-- flags that are read, appended to an empty row of one's own -/
theorem step_app_b {w : World} {ops : Array Oper} {o : Oper} {a : Act} {K : Act → World → Prop} {Q : Exit → Act → World → Prop} {E : Prop} (hgd : o.guard = none) (s x : Operand) (ho : o.op = .call { callee := .builtin .append, args := #[s, x], argTypes := #[50, 50] })
    (B g : Nat) (A : Option Addr) (c n : Nat) (l : By) (hs : a.eval s = .slice (some ⟨g, 0, none⟩) 0 0) (hx : a.eval x = .slice A n c) (h1 : w.ownsRow B 4 1 (.slice (some ⟨g, 0, none⟩) 0 0) 0 (([] : By).map bc)) (h2 : Bs w A l) (hn : l.length = n) (hl : l.length ≤ 1000) (hbase : B ≤ w.heap.size) (hnc : n ≤ c)
    (h : ∀ A4 c4 w4, w4.ownsRow B 4 1 (.slice A4 n c4) l.length (l.map bc) → Kp B 4 w w4 → K (a.put o.dst (.slice A4 n c4)) w4) :
    if Region.wanted o (yielded ops a.tmps) = true then Oper.wp Try.prog o a w K Q else E := by
  obtain ⟨i0, hi0, hz0, hz1, hz2⟩ := info_parts info4
  by_cases h0 : A = none
  · subst h0
    have hl0 : l = [] := by
      by_cases e : l = []
      · exact e
      · obtain ⟨_, _, e', _⟩ := h2 e; cases e'
    subst hl0
    obtain rfl : n = 0 := hn.symm
    have hw : Region.wanted o (yielded ops a.tmps) = true := by simp [Region.wanted, hgd]
    rw [if_pos hw]
    have hr := run_append_nothing (P := Try.prog) w 50 50 o.type 4 i0 Try.underlying50 hi0 (some ⟨g, 0, none⟩) 0 0 (Nat.le_refl _) (.slice none 0 c) (Src.ofNil w Try.underlying50 c)
    unfold Oper.wp execOp
    simp only [ho, resolve, invoke, builtin, Sem.run_bind, Sem.run_pure, Result.andThen_ok, List.map_toArray, List.map_cons, List.map_nil, hs, hx, hr]
    exact h _ _ w h1 (Kp.refl _ _ _)
  · obtain ⟨ad, rfl⟩ := Option.ne_none_iff_exists'.1 h0
    have hc : ∀ j u, (l.map bc)[j]? = some u → w.cell? (ad.add j) = some u := fun j u hu => by
      have hj : j < l.length := by
        rcases Nat.lt_or_ge j l.length with z | z
        · exact z
        · rw [List.getElem?_eq_none (by rw [List.length_map]; exact z)] at hu; cases hu
      obtain ⟨b, off, e, _, hcell⟩ := h2 (fun e => by rw [e] at hj; exact absurd hj (Nat.not_lt_zero _))
      injection e with e
      subst e
      rw [addr_add, hcell j hj]
      rw [List.getElem?_map, List.getElem?_eq_getElem hj] at hu
      rw [List.getD_eq_getElem?_getD, List.getElem?_eq_getElem hj]
      exact hu
    refine step_append_own hgd s x 50 ho B 4 i0 _ 1 1 Try.underlying50 hi0 hz0 hz1 hz2 rfl (by omega) (.slice (some ⟨g, 0, none⟩) 0 0) 0 (([] : By).map bc) hs h1 ad n c (l.map bc) hx (by rw [List.length_map, hn, Nat.mul_one]) hc (bc_one l) (by simp only [maxLen]; omega) (by omega) hbase ?_
    intro v4 w4 hown4 hg4
    rw [Nat.zero_add] at hown4
    obtain ⟨A4, cp4, ev4, _⟩ := row_form hown4
    subst ev4
    exact h A4 cp4 w4 (by rw [hn]; exact hown4) (Kp.grown h1 hg4 (Nat.le_refl B) hbase)
/-- a slab more at the end -/
theorem OwnD.push {B n : Nat} {w w' : World} {v' u : Value} {f : Int} {l : By} {L : List Ca} (h : ∃ R : List PC, R.map pcC = L ∧ R.length = n ∧ (∀ j (h : j < R.length), w.ownsRow B 4 1 (R[j]).2.2 (R[j]).2.1.length ((R[j]).2.1.map bc)) ∧ (∀ i j (hi : i < R.length) (hj : j < R.length), i ≠ j → Ap (R[i]).2.2 (R[j]).2.2) ∧ (∀ j (h : j < R.length), Ap (R[j]).2.2 u ∧ Ap u (R[j]).2.2) ∧ w'.ownsRow B 52 2 v' (n + 1) (cC R ++ [.int .i64 f, u]))
    (hu : w.ownsRow B 4 1 u l.length (l.map bc)) (hk : Kp B 52 w w') : OwnD B w' v' (L ++ [(f, l)]) := by
  obtain ⟨R, e, hn, h1, hd, ha, hr⟩ := h
  have gl : ∀ j (hj : j < (R ++ [(f, l, u)]).length), (∃ h : j < R.length, (R ++ [(f, l, u)])[j] = R[j]) ∨ (j = R.length ∧ (R ++ [(f, l, u)])[j] = (f, l, u)) := fun j hj => by
    by_cases c : j < R.length
    · exact .inl ⟨c, List.getElem_append_left c⟩
    · rw [List.length_append] at hj
      have hj2 : j = R.length := by simp at hj; omega
      subst hj2
      exact .inr ⟨rfl, by simp⟩
  refine ⟨R ++ [(f, l, u)], by rw [List.map_append, e]; rfl, ?_, fun j hj => ?_, fun i j hi hj hne => ?_⟩
  · have e2 : (L ++ [(f, l)]).length = n + 1 := by rw [List.length_append, ← e, List.length_map, hn]; rfl
    rw [e2, cC_append]
    exact hr
  · rcases gl j hj with ⟨h, eq⟩ | ⟨_, eq⟩
    · rw [eq]; exact row_kp (h1 j h) hk (by decide)
    · rw [eq]; exact row_kp hu hk (by decide)
  · rcases gl i hi with ⟨h, eq⟩ | ⟨e1, eq⟩
    · rcases gl j hj with ⟨h2, eq2⟩ | ⟨e2, eq2⟩
      · rw [eq, eq2]; exact hd i j h h2 hne
      · rw [eq, eq2]; exact (ha i h).1
    · rcases gl j hj with ⟨h2, eq2⟩ | ⟨e2, eq2⟩
      · rw [eq, eq2]; exact (ha j h2).2
      · omega
end Go.Proofs.Ytncjicggolmofaa.Sb
