import Derived.Test.YthoeolaleeogbaaLChecks
namespace Go.Proofs.Ythoeolaleeogbaa.Tb
open Go Go.RowKit Go.Proofs.Ythoeolaleeogbaa.Pt
set_option linter.unusedVariables false
theorem looks_many (s : Int) (A : Option Addr) (L : List Te) (c : Nat) (x y : Int) (w : World) (h : TlbIn w A L c) (hl : 20 < L.length) :
    Calls Try.prog 4 #[.agg #[.int .i64 s, .slice A L.length c], .int .i64 x, .int .i64 y] w fun e w' => e = .returned (.bool true) ∧ Below w.heap.size w w' := by
  have K := hide (bal (brefl w) (.cells #[.int .i64 s, .slice A L.length c] 24))
  have F := hide (fun w => few_no s A L.length c w h.big hl)
  clear h hl
  go_enter Try.func4, Try.ntmps4
  go_wp2_with fail
  refine (F.out _).mono ?_
  rintro e w1 ⟨rfl, hb⟩
  replace K := hide (btrans K.out hb)
  clear hb
  go_wp2_with fail
  refine (awake _).mono ?_
  rintro e w2 ⟨rfl, hb⟩
  replace K := hide (btrans K.out hb)
  clear hb
  go_wp2
  go_ret
  exact ⟨rfl, K.out⟩
set_option maxHeartbeats 8000000 in
theorem looks_few (s : Int) (A : Option Addr) (L : List Te) (c : Nat) (x y : Int) (w : World) (h : TlbIn w A L c) (hl : L.length ≤ 20) (hy : inP y) :
    Calls Try.prog 4 #[.agg #[.int .i64 s, .slice A L.length c], .int .i64 x, .int .i64 y] w fun e w' => e = .returned (.bool true) ∧ Below w.heap.size w w' := by
  have X := hide (Box.new w 24 #[.int .i64 s, .slice A L.length c])
  have K := hide (bal (brefl w) (.cells #[.int .i64 s, .slice A L.length c] 24))
  have T := hide (h.below K.out)
  have F := hide (fun w => few_yes s A L.length c w h.big hl)
  have C1 := hide (fun (W : World) (hW : TlbIn W A L c) => look_any s A L c x y W hW hy)
  have C2 := hide (fun (W : World) (hW : TlbIn W A L c) => rlook_any s A L c x y W hW hy)
  have C3 := hide (fun (W : World) (hW : TlbIn W A L c) => covers_any s A L c x y W hW hy)
  generalize lookW s L x y = rw at *
  generalize lookB s L x y = rb at *
  clear h hl hy
  go_enter Try.func4, Try.ntmps4
  go_wp2_with fail
  refine (F.out _).mono ?_
  rintro e w1 ⟨rfl, hb⟩
  replace X := hide (X.out.below hb)
  replace T := hide (T.out.below hb)
  replace K := hide (btrans K.out hb)
  clear hb
  have x0 := X.out.cell 0
  have x1 := X.out.cell 1
  simp at x0 x1
  go_wp2_with fail
  clear x0 x1
  refine (C1.out _ T.out).mono ?_
  rintro e w2 ⟨rfl, hb⟩
  replace X := hide (X.out.below hb)
  replace T := hide (T.out.below hb)
  replace K := hide (btrans K.out hb)
  clear hb
  have x0 := X.out.cell 0
  have x1 := X.out.cell 1
  simp at x0 x1
  go_wp2_with fail
  clear x0 x1
  refine (C2.out _ T.out).mono ?_
  rintro e w3 ⟨rfl, hb⟩
  replace X := hide (X.out.below hb)
  replace T := hide (T.out.below hb)
  replace K := hide (btrans K.out hb)
  clear hb
  have x0 := X.out.cell 0
  have x1 := X.out.cell 1
  simp at x0 x1
  cases rb
  · go_wp2_with fail
    clear x0 x1
    refine (C3.out _ T.out).mono ?_
    rintro e w4 ⟨rfl, hb⟩
    replace X := hide (X.out.below hb)
    replace T := hide (T.out.below hb)
    replace K := hide (btrans K.out hb)
    clear hb
    go_wp2_with fail
    refine (awake _).mono ?_
    rintro e w5 ⟨rfl, hb⟩
    replace K := hide (btrans K.out hb)
    clear hb
    go_wp2
    go_ret
    exact ⟨rfl, K.out⟩
  · go_wp2_with fail
    clear x0 x1
    refine (C3.out _ T.out).mono ?_
    rintro e w4 ⟨rfl, hb⟩
    replace X := hide (X.out.below hb)
    replace T := hide (T.out.below hb)
    replace K := hide (btrans K.out hb)
    clear hb
    go_wp2_with fail
    refine (awake _).mono ?_
    rintro e w5 ⟨rfl, hb⟩
    replace K := hide (btrans K.out hb)
    clear hb
    go_wp2
    go_ret
    exact ⟨rfl, K.out⟩
theorem law_looks (s : Int) (A : Option Addr) (L : List Te) (c : Nat) (x y : Int) (w : World) (h : TlbIn w A L c) (hy : inP y) :
    Calls Try.prog 4 #[.agg #[.int .i64 s, .slice A L.length c], .int .i64 x, .int .i64 y] w fun e w' => e = .returned (.bool true) ∧ Below w.heap.size w w' := by
  by_cases hl : L.length ≤ 20
  · exact looks_few s A L c x y w h hl hy
  · exact looks_many s A L c x y w h (by omega)
end Go.Proofs.Ythoeolaleeogbaa.Tb
