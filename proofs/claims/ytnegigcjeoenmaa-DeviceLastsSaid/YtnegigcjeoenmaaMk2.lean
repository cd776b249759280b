import Derived.Test.YtnegigcjeoenmaaMk1
namespace Go.Proofs.Ytnegigcjeoenmaa.Dv
open Go Go.RowKit
set_option linter.unusedVariables false
theorem ret_q {fn : Func} {a : Act} {W : World} {g k : Nat} {x0 x1 x2 x3 : Value} {Q : Ending → World → Prop} (hr : fn.results = #[.cell k 39]) (h2 : a.tmps.getD k undef = .pointer (some ⟨g, 0, none⟩)) (hd : a.defers = [])
    (hE : Box W g 39 #[x0, x1, x2, x3]) (hq : Q (.returned (.agg #[x0, x1, x2, x3])) W) : bodyPost Try.prog fn Q .ret a W := by
  have c0 := hE.cell 0
  have c1 := hE.cell 1
  have c2 := hE.cell 2
  have c3 := hE.cell 3
  simp at c0 c1 c2 c3
  simp only [Array.getD_eq_getD_getElem?] at h2
  exact bodyPost_ret (v := .agg #[x0, x1, x2, x3]) (by simp [results, hr, h2, go_sem, c0, c1, c2, c3]) hd hq
theorem OwnBy.form {w : World} {v : Value} {l : By} (h : OwnBy w v l) : ∃ A c, v = .slice A l.length c := by
  obtain ⟨A, c, e, _⟩ := h; exact ⟨A, c, e⟩
theorem IsBs.form {w : World} {v : Value} {l : By} (h : IsBs w v l) : ∃ A c, v = .slice A l.length c := by
  obtain ⟨A, c, e, _⟩ := h; exact ⟨A, c, e⟩
/-- what a call leaves that hands back a request of its own -/
def RqR (i k b : Int) (l : By) (w : World) (e : Ending) (w' : World) : Prop := ∃ v, e = .returned (.agg #[.int .i64 i, .int .i64 k, .int .i64 b, v]) ∧ OwnBy w' v l ∧ Below w.heap.size w w'
theorem Box.set4 {W : World} {g : Nat} {t : TypeId} {y0 y1 y2 y3 : Value} (h : Box W g t #[y0, y1, y2, y3]) (x0 x1 x2 x3 : Value) : Box ((((W.setCell ⟨g, 0, none⟩ x0).setCell ⟨g, 1, none⟩ x1).setCell ⟨g, 2, none⟩ x2).setCell ⟨g, 3, none⟩ x3) g t #[x0, x1, x2, x3] :=
  (((h.put 0 x0).put 1 x1).put 2 x2).put 3 x3
theorem OwnBy.set4 {W : World} {g : Nat} {t : TypeId} {y0 y1 y2 y3 v : Value} {l : By} (ho : OwnBy W v l) (h : Box W g t #[y0, y1, y2, y3]) (hne : (5 : TypeId) ≠ t) (x0 x1 x2 x3 : Value) : OwnBy ((((W.setCell ⟨g, 0, none⟩ x0).setCell ⟨g, 1, none⟩ x1).setCell ⟨g, 2, none⟩ x2).setCell ⟨g, 3, none⟩ x3) v l :=
  (((ho.kp (Kp.boxset (B := 0) h (Nat.zero_le _) 0 x0) hne).kp (Kp.boxset (B := 0) (h.put 0 x0) (Nat.zero_le _) 1 x1) hne).kp (Kp.boxset (B := 0) ((h.put 0 x0).put 1 x1) (Nat.zero_le _) 2 x2) hne).kp (Kp.boxset (B := 0) (((h.put 0 x0).put 1 x1).put 2 x2) (Nat.zero_le _) 3 x3) hne
set_option maxHeartbeats 1000000 in
theorem copyrq_any (i k b : Int) (v : Value) (l : By) (w : World) (hr : IsBs w v l) (hn : l.length ≤ 1000) : Calls Try.prog 50 #[.agg #[.int .i64 i, .int .i64 k, .int .i64 b, v]] w (RqR i k b l w) := by
  obtain ⟨Av, cv, rfl⟩ := hr.form
  obtain ⟨W0, hW0⟩ : ∃ W0, W0 = (w.alloc (.cells #[.int .i64 i, .int .i64 k, .int .i64 b, .slice Av l.length cv] 39)).alloc (.cells #[.int .i64 0, .int .i64 0, .int .i64 0, .slice none 0 0] 39) := ⟨_, rfl⟩
  have K0 := hide (show Below w.heap.size w W0 by rw [hW0]; exact bal (bal (brefl w) _) _)
  have X := hide (show Box W0 w.heap.size 39 #[.int .i64 i, .int .i64 k, .int .i64 b, .slice Av l.length cv] by rw [hW0]; exact (Box.new w 39 _).more _)
  have Y := hide (show Box W0 (w.heap.size + 1) 39 #[.int .i64 0, .int .i64 0, .int .i64 0, .slice none 0 0] by rw [hW0]; exact Box.new2 _ _ _ _)
  have C := hide (clone_any _ l W0 (hr.below K0.out) hn)
  unfold ByR at C
  have HW := hide hW0
  clear hr hW0
  go_enter Try.func50, Try.ntmps50
  go_wp2_with fail
  rw [← HW.out]
  refine C.out.mono ?_
  rintro e w1 ⟨v1, rfl, ho, hb⟩
  obtain ⟨A1, d1, rfl⟩ := ho.form
  have HO := hide ho
  have K1 := hide hb
  have X1 := hide (X.out.below hb)
  have Y1 := hide (Y.out.below hb)
  have x0 := X1.out.cell 0
  have x1 := X1.out.cell 1
  have x2 := X1.out.cell 2
  have x3 := X1.out.cell 3
  have y0 := Y1.out.cell 0
  have y1 := Y1.out.cell 1
  have y2 := Y1.out.cell 2
  have y3 := Y1.out.cell 3
  have fx3 := X1.out.frozen 3
  have f0 := Y1.out.frozen 0
  have f1 := Y1.out.frozen 1
  have f2 := Y1.out.frozen 2
  have f3 := Y1.out.frozen 3
  simp at x0 x1 x2 x3 y0 y1 y2 y3
  clear ho hb
  go_wp2
  have Y2 := hide (Y1.out.far (b := w.heap.size) (i := 3) (by omega) (.slice A1 l.length d1))
  have HO2 := hide (HO.out.kp (Kp.boxset (B := 0) X1.out (Nat.zero_le _) 3 (.slice A1 l.length d1)) (by decide))
  exact ret_q Try.results50 rfl rfl (Y2.out.set4 (.int .i64 i) (.int .i64 k) (.int .i64 b) (.slice A1 l.length d1)) ⟨_, rfl, HO2.out.set4 Y2.out (by decide) _ _ _ _, bset (bset (bset (bset (bset (btrans K0.out K1.out) (Nat.le_refl _) _) (by simp) _) (by simp) _) (by simp) _) (by simp) _⟩
end Go.Proofs.Ytnegigcjeoenmaa.Dv
