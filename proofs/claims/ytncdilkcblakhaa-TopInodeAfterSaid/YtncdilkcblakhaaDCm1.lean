import Derived.Test.YtncdilkcblakhaaDCmM
namespace Go.Proofs.Ytncdilkcblakhaa.Dv
open Go Go.RowKit
set_option linter.unusedVariables false
theorem KpB.set5 (w : World) (hh : Nat) (x0 x1 x2 x3 x4 : Value) : KpB hh w (((((w.setCell ⟨hh, 0, none⟩ x0).setCell ⟨hh, 1, none⟩ x1).setCell ⟨hh, 2, none⟩ x2).setCell ⟨hh, 3, none⟩ x3).setCell ⟨hh, 4, none⟩ x4) := (KpB.set4 w hh x0 x1 x2 x3).trans (KpB.set _ hh 4 x4)
theorem cells9 {W : World} {g h : Nat} {t s : TypeId} {x0 x1 x2 x3 x4 y0 y1 y2 y3 : Value} (G : Box W g t #[x0, x1, x2, x3, x4]) (H : Box W h s #[y0, y1, y2, y3]) : W.cell? ⟨g, 0, none⟩ = some x0 ∧ W.cell? ⟨g, 1, none⟩ = some x1 ∧ W.cell? ⟨g, 2, none⟩ = some x2 ∧ W.cell? ⟨g, 3, none⟩ = some x3 ∧ W.cell? ⟨g, 4, none⟩ = some x4 ∧ W.cell? ⟨h, 0, none⟩ = some y0 ∧ W.cell? ⟨h, 1, none⟩ = some y1 ∧ W.cell? ⟨h, 2, none⟩ = some y2 ∧ W.cell? ⟨h, 3, none⟩ = some y3 := ⟨G.cell 0, G.cell 1, G.cell 2, G.cell 3, G.cell 4, H.cell 0, H.cell 1, H.cell 2, H.cell 3⟩
theorem ret_dq {fn : Func} {a : Act} {W : World} {g h k k2 m : Nat} {er : Int} {x0 x1 x2 x3 x4 y0 y1 y2 y3 : Value} {Q : Ending → World → Prop} (hr : fn.results = #[.cell k 57, .cell k2 67, .tmp m]) (h2 : a.tmps.getD k undef = .pointer (some ⟨g, 0, none⟩)) (h3 : a.tmps.getD k2 undef = .pointer (some ⟨h, 0, none⟩)) (h4 : a.tmps.getD m undef = .int .i64 er) (hd : a.defers = [])
    (hE : Box W g 57 #[x0, x1, x2, x3, x4]) (hF : Box W h 67 #[y0, y1, y2, y3]) (hq : Q (.returned (.tuple #[.agg #[x0, x1, x2, x3, x4], .agg #[y0, y1, y2, y3], .int .i64 er])) W) : bodyPost Try.prog fn Q .ret a W := by
  have c0 := hE.cell 0
  have c1 := hE.cell 1
  have c2 := hE.cell 2
  have c3 := hE.cell 3
  have c4 := hE.cell 4
  have d0 := hF.cell 0
  have d1 := hF.cell 1
  have d2 := hF.cell 2
  have d3 := hF.cell 3
  simp at c0 c1 c2 c3 c4 d0 d1 d2 d3
  simp only [Array.getD_eq_getD_getElem?] at h2 h3 h4
  exact bodyPost_ret (v := .tuple #[.agg #[x0, x1, x2, x3, x4], .agg #[y0, y1, y2, y3], .int .i64 er]) (by simp [results, hr, h2, h3, h4, go_sem, c0, c1, c2, c3, c4, d0, d1, d2, d3]) hd hq
/-- a device, a request and an error -/
def DqR (D : Dev) (q : Rq) (er : Int) (w : World) (e : Ending) (w' : World) : Prop := ∃ v u, e = .returned (.tuple #[v, .agg #[.int .i64 q.1, .int .i64 q.2.1, .int .i64 q.2.2.1, u], .int .i64 er]) ∧ DevOwn w.heap.size w' v D ∧ OwnBy w' u q.2.2.2 ∧ Below w.heap.size w w'
end Go.Proofs.Ytncdilkcblakhaa.Dv
