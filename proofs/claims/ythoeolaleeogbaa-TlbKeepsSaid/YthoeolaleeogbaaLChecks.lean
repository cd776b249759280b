import Derived.Test.YthoeolaleeogbaaRLk
import Derived.Test.YthoeolaleeogbaaAwake
namespace Go.Proofs.Ythoeolaleeogbaa.Tb
open Go Go.RowKit Go.Proofs.Ythoeolaleeogbaa.Pt
set_option linter.unusedVariables false
theorem Box.look {w w' : World} {g : Nat} {x y : Value} (h : Box w g 24 #[x, y]) (hb : Below w.heap.size w w') : w'.cell? ⟨g, 0, none⟩ = some x ∧ w'.cell? ⟨g, 1, none⟩ = some y := ⟨(h.below hb).cell 0, (h.below hb).cell 1⟩
theorem few_no (s : Int) (A : Option Addr) (n c : Nat) (w : World) (hn : n ≤ 9223372036854775807) (h : 20 < n) : Calls Try.prog 12 #[.agg #[.int .i64 s, .slice A n c], .int .i64 20] w fun e w' => e = .returned (.bool false) ∧ Below w.heap.size w w' := few_any s A n c 20 false w hn (decide_eq_false (by omega))
theorem few_yes (s : Int) (A : Option Addr) (n c : Nat) (w : World) (hn : n ≤ 9223372036854775807) (h : n ≤ 20) : Calls Try.prog 12 #[.agg #[.int .i64 s, .slice A n c], .int .i64 20] w fun e w' => e = .returned (.bool true) ∧ Below w.heap.size w w' := few_any s A n c 20 true w hn (decide_eq_true (by omega))
theorem checks_many (s m : Int) (A : Option Addr) (L : List Te) (c : Nat) (w : World) (h : TlbIn w A L c) (hl : 20 < L.length) :
    Calls Try.prog 3 #[.agg #[.int .i64 s, .slice A L.length c], .int .i64 m] w fun e w' => e = .returned (.bool true) ∧ Below w.heap.size w w' := by
  have K := hide (bal (brefl w) (.cells #[.int .i64 s, .slice A L.length c] 24))
  have F := hide (fun w => few_no s A L.length c w h.big hl)
  clear h hl
  go_enter Try.func3, Try.ntmps3
  go_wp2_with fail
  refine (F.out _).mono ?_
  rintro e w1 ⟨rfl, hb⟩
  replace K := hide (btrans K.out hb)
  clear hb
  go_wp2_with fail
  refine (awake _).mono ?_
  rintro e w2 ⟨rfl, hb⟩
  replace K := hide (btrans K.out hb)
  clear hb
  go_wp2
  go_ret
  exact ⟨rfl, K.out⟩
set_option maxHeartbeats 8000000 in
theorem checks_few (s m : Int) (A : Option Addr) (L : List Te) (c : Nat) (w : World) (h : TlbIn w A L c) (hl : L.length ≤ 20) :
    Calls Try.prog 3 #[.agg #[.int .i64 s, .slice A L.length c], .int .i64 m] w fun e w' => e = .returned (.bool true) ∧ Below w.heap.size w w' := by
  have X := hide (Box.new w 24 #[.int .i64 s, .slice A L.length c])
  have K := hide (bal (brefl w) (.cells #[.int .i64 s, .slice A L.length c] 24))
  have T := hide (h.below K.out)
  have F := hide (fun w => few_yes s A L.length c w h.big hl)
  have N1 := hide (fun w => new_any m w)
  have N2 := hide (fun w => rnew_any m w)
  unfold TlbR at N1 N2
  generalize (if szB m = true then m else 0) = mm at *
  generalize (if szB m = true then (0 : Int) else 1) = er at *
  have CK := hide (fun (W : World) (hW : TlbIn W A L c) => hW.check s)
  have RK := hide (fun (W : World) (hW : TlbIn W A L c) => rcheck_any s A L c W hW)
  generalize chkT s L = ck at *
  have e0 : ([] : List Te).length = 0 := rfl
  rw [e0] at N1 N2
  clear h hl e0
  go_enter Try.func3, Try.ntmps3
  go_wp2_with fail
  refine (F.out _).mono ?_
  rintro e w1 ⟨rfl, hb⟩
  replace X := hide (X.out.below hb)
  replace K := hide (btrans K.out hb)
  replace T := hide (T.out.below hb)
  clear hb
  go_wp2_with fail
  refine (N1.out _).mono ?_
  rintro e w2 ⟨A2, c2, rfl, ho2, hb⟩
  replace X := hide ((X.out.below hb).more (.cells #[.int .i64 mm, .slice A2 0 c2] 24))
  replace T := hide ((T.out.below hb).below (bal (brefl _) (.cells #[.int .i64 mm, .slice A2 0 c2] 24)))
  have B2 := hide (Box.new w2 24 #[.int .i64 mm, .slice A2 0 c2])
  replace K := hide (bal (btrans K.out hb) (.cells #[.int .i64 mm, .slice A2 0 c2] 24))
  clear hb ho2
  go_wp2_with fail
  refine (N2.out _).mono ?_
  rintro e w3 ⟨A3, c3, rfl, ho3, hb⟩
  replace X := hide ((X.out.below hb).more (.cells #[.int .i64 mm, .slice A3 0 c3] 24))
  replace T := hide ((T.out.below hb).below (bal (brefl _) (.cells #[.int .i64 mm, .slice A3 0 c3] 24)))
  replace B2 := hide ((B2.out.below hb).more (.cells #[.int .i64 mm, .slice A3 0 c3] 24))
  have B3 := hide (Box.new w3 24 #[.int .i64 mm, .slice A3 0 c3])
  replace K := hide (bal (btrans K.out hb) (.cells #[.int .i64 mm, .slice A3 0 c3] 24))
  clear hb ho3
  go_wp2
  obtain ⟨wz, hwz⟩ : ∃ wz, wz = w3.alloc (.cells #[.int .i64 mm, .slice A3 0 c3] 24) := ⟨_, rfl⟩
  rw [← hwz] at X T B2 B3 K ⊢
  clear hwz
  have KZ := hide (brefl wz)
  obtain ⟨x0, x1⟩ := X.out.look (brefl _)
  obtain ⟨y0, y1⟩ := B2.out.look (brefl _)
  obtain ⟨z0, z1⟩ := B3.out.look (brefl _)
  have SM := hide (fun (W : World) => same_eq mm A2 A3 [] c2 c3 W (Ts.nil _ _) (Ts.nil _ _) (by simp))
  rw [show ([] : List Te).length = 0 from rfl] at SM
  go_region_held3 (fun W => W.cell? ⟨w.heap.size, 0, none⟩ = some (.int .i64 s) ∧ W.cell? ⟨w.heap.size, 1, none⟩ = some (.slice A L.length c) ∧ W.cell? ⟨w2.heap.size, 0, none⟩ = some (.int .i64 mm) ∧ W.cell? ⟨w2.heap.size, 1, none⟩ = some (.slice A2 0 c2) ∧ W.cell? ⟨w3.heap.size, 0, none⟩ = some (.int .i64 mm) ∧ W.cell? ⟨w3.heap.size, 1, none⟩ = some (.slice A3 0 c3))
    ((have k1 := X.out.look KZ.out; have k2 := B2.out.look KZ.out; have k3 := B3.out.look KZ.out; exact ⟨k1.1, k1.2, k2.1, k2.2, k3.1, k3.2⟩))
    (first | (go_at_call 16; refine (CK.out _ (T.out.below (by first | exact KZ.out | exact below_drewN KZ.out _))).mono ?_; rintro e wk ⟨rfl, hbk⟩; replace KZ := hide (by first | exact btrans KZ.out hbk | exact btrans (below_drewN KZ.out _) hbk); clear hbk) | (go_at_call 17; refine (RK.out _ (T.out.below (by first | exact KZ.out | exact below_drewN KZ.out _))).mono ?_; rintro e wk ⟨rfl, hbk⟩; replace KZ := hide (by first | exact btrans KZ.out hbk | exact btrans (below_drewN KZ.out _) hbk); clear hbk) | (go_at_call 18; (with_reducible refine (SM.out _).mono ?_); rintro e wk ⟨rfl, hbk⟩; replace KZ := hide (by first | exact btrans KZ.out hbk | exact btrans (below_drewN KZ.out _) hbk); clear hbk) | (go_at_call 13; (with_reducible refine (awake _).mono ?_); rintro e wk ⟨rfl, hbk⟩; replace KZ := hide (by first | exact btrans KZ.out hbk | exact btrans (below_drewN KZ.out _) hbk); clear hbk))
  all_goals
    go_wp2
    go_ret
    exact ⟨rfl, btrans K.out (by first | exact KZ.out | exact below_drewN KZ.out _)⟩
theorem law_checks (s : Int) (A : Option Addr) (L : List Te) (c : Nat) (m : Int) (w : World) (h : TlbIn w A L c) :
    Calls Try.prog 3 #[.agg #[.int .i64 s, .slice A L.length c], .int .i64 m] w fun e w' => e = .returned (.bool true) ∧ Below w.heap.size w w' := by
  by_cases hl : L.length ≤ 20
  · exact checks_few s m A L c w h hl
  · exact checks_many s m A L c w h (by omega)
end Go.Proofs.Ythoeolaleeogbaa.Tb
