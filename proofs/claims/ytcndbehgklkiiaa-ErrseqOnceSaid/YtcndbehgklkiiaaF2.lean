import Derived.Test.YtcndbehgklkiiaaF1
namespace Go.Proofs.Ytcndbehgklkiiaa.Es
open Go Go.RowKit
set_option linter.unusedVariables false
set_option linter.unusedSimpArgs false
theorem rvl_any (n : Int) (b : Bool) (w : World) : Calls Try.prog 16 #[.agg (eC (n, b))] w fun e w' => e = .returned (.bool (vl n b)) ∧ Below w.heap.size w w' := by
  have K := hide (bal (brefl w) (.cells #[.int .i64 n, .bool b] 23))
  have X := hide (Box.new w 23 #[.int .i64 n, .bool b])
  unfold eC vl
  by_cases h0 : 0 ≤ n
  · by_cases h1 : n ≤ 1073741824
    · by_cases h2 : 0 < n
      · go_enter Try.func16, Try.ntmps16
        go_wp2
        go_ret
        exact ⟨ret_bool (by grind), K.out⟩
      · go_enter Try.func16, Try.ntmps16
        go_wp2
        go_ret
        exact ⟨ret_bool (by grind), K.out⟩
    · go_enter Try.func16, Try.ntmps16
      go_wp2
      go_ret
      exact ⟨ret_bool (by grind), K.out⟩
  · go_enter Try.func16, Try.ntmps16
    go_wp2
    go_ret
    exact ⟨ret_bool (by grind), K.out⟩
theorem Box.two {W : World} {g : Nat} {x y : Value} {t : TypeId} (h : Box W g t #[x, y]) : W.cell? ⟨g, 0, none⟩ = some x ∧ W.cell? ⟨g, 1, none⟩ = some y := ⟨h.cell 0, h.cell 1⟩
theorem Box.two2 {W : World} {g : Nat} {x y : Value} {t : TypeId} (h : Box W g t #[x, y]) : W.cell? ⟨g, 0, none⟩ = some x ∧ W.cell? ⟨g, 1, none⟩ = some y ∧ W.frozen? ⟨g, 0, none⟩ = false ∧ W.frozen? ⟨g, 1, none⟩ = false := ⟨h.cell 0, h.cell 1, h.frozen 0, h.frozen 1⟩
theorem Box.set2 {W : World} {g : Nat} {x y : Value} {t : TypeId} (h : Box W g t #[x, y]) (a b : Value) : Box ((W.setCell ⟨g, 0, none⟩ a).setCell ⟨g, 1, none⟩ b) g t #[a, b] := by
  have := (h.put 0 a).put 1 b
  simpa using this
theorem Box.set1 {W : World} {g : Nat} {x y : Value} {t : TypeId} (h : Box W g t #[x, y]) (a : Value) : Box (W.setCell ⟨g, 0, none⟩ a) g t #[a, y] := by
  have := h.put 0 a
  simpa using this
theorem k2 {a w : World} (h : Below a.heap.size a w) {g : Nat} (hp : a.heap.size ≤ g) (u v : Value) : Below a.heap.size a ((w.setCell ⟨g, 0, none⟩ u).setCell ⟨g, 1, none⟩ v) := bset (bset h (p := ⟨g, 0, none⟩) hp u) (p := ⟨g, 1, none⟩) hp v
theorem Box.drew {W : World} {g : Nat} {t : TypeId} {cs : Array Value} (h : Box W g t cs) : Box W.drew g t cs := h
theorem below_drew {B : Nat} {a w : World} (h : Below B a w) : Below B a w.drew := ⟨h.os, h.tape, h.output, h.size, h.block⟩
theorem ret_e1 {fn : Func} {a : Act} {W : World} {g k : Nat} {x y : Value} {Q : Ending → World → Prop} (hr : fn.results = #[.cell k 23]) (h2 : a.tmps.getD k undef = .pointer (some ⟨g, 0, none⟩)) (hd : a.defers = [])
    (hE : Box W g 23 #[x, y]) (hq : Q (.returned (.agg #[x, y])) W) : bodyPost Try.prog fn Q .ret a W := by
  obtain ⟨c0, c1⟩ := hE.two
  simp only [Array.getD_eq_getD_getElem?] at h2
  exact bodyPost_ret (v := .agg #[x, y]) (by simp [results, hr, h2, go_sem, c0, c1]; try rfl) hd hq
theorem ret_e2 {fn : Func} {a : Act} {W : World} {g k m : Nat} {x y u : Value} {Q : Ending → World → Prop} (hr : fn.results = #[.cell k 23, .tmp m]) (h2 : a.tmps.getD k undef = .pointer (some ⟨g, 0, none⟩)) (h3 : a.tmps.getD m undef = u) (hd : a.defers = [])
    (hE : Box W g 23 #[x, y]) (hq : Q (.returned (.tuple #[.agg #[x, y], u])) W) : bodyPost Try.prog fn Q .ret a W := by
  obtain ⟨c0, c1⟩ := hE.two
  simp only [Array.getD_eq_getD_getElem?] at h2 h3
  exact bodyPost_ret (v := .tuple #[.agg #[x, y], u]) (by simp [results, hr, h2, h3, go_sem, c0, c1]; try rfl) hd hq
theorem ret_e3 {fn : Func} {a : Act} {W : World} {g k m j : Nat} {x y u v : Value} {Q : Ending → World → Prop} (hr : fn.results = #[.cell k 23, .tmp m, .tmp j]) (h2 : a.tmps.getD k undef = .pointer (some ⟨g, 0, none⟩)) (h3 : a.tmps.getD m undef = u) (h4 : a.tmps.getD j undef = v) (hd : a.defers = [])
    (hE : Box W g 23 #[x, y]) (hq : Q (.returned (.tuple #[.agg #[x, y], u, v])) W) : bodyPost Try.prog fn Q .ret a W := by
  obtain ⟨c0, c1⟩ := hE.two
  simp only [Array.getD_eq_getD_getElem?] at h2 h3 h4
  exact bodyPost_ret (v := .tuple #[.agg #[x, y], u, v]) (by simp [results, hr, h2, h3, h4, go_sem, c0, c1]; try rfl) hd hq
theorem new_any (w : World) : Calls Try.prog 17 #[] w fun e w' => e = .returned (.agg (eC (0, false))) ∧ Below w.heap.size w w' := by
  have K := hide (bal (brefl w) (.cells #[.int .i64 0, .bool false] 23))
  have X := hide (Box.new w 23 #[.int .i64 0, .bool false])
  unfold eC
  go_enter Try.func17, Try.ntmps17
  go_wp2
  exact ret_e1 Try.results17 rfl rfl X.out ⟨rfl, K.out⟩
theorem vl_of {n : Int} {b : Bool} (h : vl n b = true) : 0 ≤ n ∧ n ≤ 1073741824 ∧ (0 < n ∨ b = false) := by
  unfold vl at h
  simp at h
  exact h
theorem un_of {n : Int} {b : Bool} (h : un n b = true) : 0 < n ∧ b = false := by
  unfold un at h
  simpa using h
end Go.Proofs.Ytcndbehgklkiiaa.Es
