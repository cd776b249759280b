import Derived.Test.YtkcopcmoaloecaaT13
namespace Go.Proofs.Ytkcopcmoaloecaa.Fp
open Go Go.RowKit
set_option linter.unusedVariables false
set_option linter.unusedSimpArgs false
theorem ret_cbi {fn : Func} {a : Act} {W : World} {g k m n : Nat} {c : Fc} {b : Bool} {e : Int} {Q : Ending → World → Prop} (hr : fn.results = #[.cell k 23, .tmp m, .tmp n]) (h2 : a.tmps.getD k undef = .pointer (some ⟨g, 0, none⟩)) (h3 : a.tmps.getD m undef = .bool b) (h4 : a.tmps.getD n undef = .int .i64 e) (hd : a.defers = [])
    (hE : CB W g c) (hq : Q (.returned (.tuple #[fV c, .bool b, .int .i64 e])) W) : bodyPost Try.prog fn Q .ret a W := by
  obtain ⟨wr, rg, pr, sh, fi, be, bu, en, wb, tr, ow, on, ca, ba, di, fu, mi⟩ := c
  obtain ⟨x0, x1, x2, x3, x4, x5, x6, x7, x8, x9, x10, x11, x12, x13, x14, x15, x16⟩ := CB.cells hE
  simp only [Array.getD_eq_getD_getElem?] at h2 h3 h4
  exact bodyPost_ret (v := .tuple #[fV ⟨wr, rg, pr, sh, fi, be, bu, en, wb, tr, ow, on, ca, ba, di, fu, mi⟩, .bool b, .int .i64 e]) (by simp [results, hr, h2, h3, h4, go_sem, x0, x1, x2, x3, x4, x5, x6, x7, x8, x9, x10, x11, x12, x13, x14, x15, x16]; rfl) hd hq
end Go.Proofs.Ytkcopcmoaloecaa.Fp
