import Derived.Test.YtkcopcmoaloecaaT14
namespace Go.Proofs.Ytkcopcmoaloecaa.Fp
open Go Go.RowKit
set_option linter.unusedVariables false
set_option linter.unusedSimpArgs false
/-- what waited does to a case in a box -/
def WtR (g : Nat) (c : Fc) (x : Int) (w : World) (e : Ending) (w' : World) : Prop := e = .returned (.tuple #[]) ∧ ∀ w0 h d, S2 w0 w g h c d → S2 w0 w' g h (aw c x) d
set_option maxHeartbeats 8000000 in
theorem waited_any (wr rg : Bool) (pr : Int) (sh fi be bu : Bool) (en : Int) (wb tr ow on ca ba di fu : Bool) (mi : Int) (x : Int) (g : Nat) (w : World) (hX : CB w g ⟨wr, rg, pr, sh, fi, be, bu, en, wb, tr, ow, on, ca, ba, di, fu, mi⟩) : Calls Try.prog 30 #[.pointer (some ⟨g, 0, none⟩), .int .i64 x] w (WtR g ⟨wr, rg, pr, sh, fi, be, bu, en, wb, tr, ow, on, ca, ba, di, fu, mi⟩ x w) := by
  unfold WtR
  by_cases h4 : x = 4
  · subst h4
    have X := hide hX
    obtain ⟨x0, x1, x2, x3, x4, x5, x6, x7, x8, x9, x10, x11, x12, x13, x14, x15, x16⟩ := X.out.cells
    obtain ⟨y0, y1, y2, y3, y4, y5, y6, y7, y8, y9, y10, y11, y12, y13, y14, y15, y16⟩ := X.out.free
    go_enter Try.func30, Try.ntmps30
    go_wp2
    refine bodyPost_end (results_none rfl _ _ _) rfl ?_
    exact ⟨rfl, fun w0 h d s => (s.put 6 (.bool false) ⟨wr, rg, pr, sh, fi, be, false, en, wb, tr, ow, on, ca, ba, di, fu, mi⟩ rfl)⟩
  by_cases h3 : x = 3
  · subst h3
    by_cases h5 : en = 3
    · subst h5
      have X := hide hX
      obtain ⟨x0, x1, x2, x3, x4, x5, x6, x7, x8, x9, x10, x11, x12, x13, x14, x15, x16⟩ := X.out.cells
      obtain ⟨y0, y1, y2, y3, y4, y5, y6, y7, y8, y9, y10, y11, y12, y13, y14, y15, y16⟩ := X.out.free
      go_enter Try.func30, Try.ntmps30
      go_wp2
      refine bodyPost_end (results_none rfl _ _ _) rfl ?_
      exact ⟨rfl, fun w0 h d s => ((s.put 9 (.bool false) ⟨wr, rg, pr, sh, fi, be, bu, 3, wb, false, ow, on, ca, ba, di, fu, mi⟩ rfl).put 7 (.int .i64 1) ⟨wr, rg, pr, sh, fi, be, bu, 1, wb, false, ow, on, ca, ba, di, fu, mi⟩ rfl)⟩
    · have e0 : aw ⟨wr, rg, pr, sh, fi, be, bu, en, wb, tr, ow, on, ca, ba, di, fu, mi⟩ 3 = ⟨wr, rg, pr, sh, fi, be, bu, en, wb, false, ow, on, ca, ba, di, fu, mi⟩ := by simp [aw, h5]
      rw [e0]
      clear e0
      have X := hide hX
      obtain ⟨x0, x1, x2, x3, x4, x5, x6, x7, x8, x9, x10, x11, x12, x13, x14, x15, x16⟩ := X.out.cells
      obtain ⟨y0, y1, y2, y3, y4, y5, y6, y7, y8, y9, y10, y11, y12, y13, y14, y15, y16⟩ := X.out.free
      go_enter Try.func30, Try.ntmps30
      go_wp2
      refine bodyPost_end (results_none rfl _ _ _) rfl ?_
      exact ⟨rfl, fun w0 h d s => (s.put 9 (.bool false) ⟨wr, rg, pr, sh, fi, be, bu, en, wb, false, ow, on, ca, ba, di, fu, mi⟩ rfl)⟩
  by_cases h5 : x = 5
  · subst h5
    have X := hide hX
    obtain ⟨x0, x1, x2, x3, x4, x5, x6, x7, x8, x9, x10, x11, x12, x13, x14, x15, x16⟩ := X.out.cells
    obtain ⟨y0, y1, y2, y3, y4, y5, y6, y7, y8, y9, y10, y11, y12, y13, y14, y15, y16⟩ := X.out.free
    go_enter Try.func30, Try.ntmps30
    go_wp2
    refine bodyPost_end (results_none rfl _ _ _) rfl ?_
    exact ⟨rfl, fun w0 h d s => (s.put 15 (.bool false) ⟨wr, rg, pr, sh, fi, be, bu, en, wb, tr, ow, on, ca, ba, di, false, mi⟩ rfl)⟩
  have e0 : aw ⟨wr, rg, pr, sh, fi, be, bu, en, wb, tr, ow, on, ca, ba, di, fu, mi⟩ x = ⟨wr, rg, pr, sh, fi, be, bu, en, wb, tr, ow, on, ca, ba, di, fu, mi⟩ := by simp [aw, h3, h4, h5]
  rw [e0]
  clear e0
  have X := hide hX
  obtain ⟨x0, x1, x2, x3, x4, x5, x6, x7, x8, x9, x10, x11, x12, x13, x14, x15, x16⟩ := X.out.cells
  obtain ⟨y0, y1, y2, y3, y4, y5, y6, y7, y8, y9, y10, y11, y12, y13, y14, y15, y16⟩ := X.out.free
  go_enter Try.func30, Try.ntmps30
  go_wp2
  refine bodyPost_end (results_none rfl _ _ _) rfl ?_
  exact ⟨rfl, fun w0 h d s => s⟩
end Go.Proofs.Ytkcopcmoaloecaa.Fp
