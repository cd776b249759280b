import Derived.Test.YtdpdlbonlpdkjaaDoorAwake
namespace Go.Proofs.YtdpdlbonlpdkjaaDoor.Bs
open Go Go.RowKit
set_option linter.unusedVariables false
theorem new_both (size : Int) : ∃ (sz : Int) (n : Nat) (er : Int), n ≤ 64 ∧
    (∀ w, Calls Tryd.prog 12 #[.int .i64 size] w fun e w' => ∃ A, e = .returned (.tuple #[.agg #[.int .i64 sz, .slice A n n], .int .i64 er]) ∧ Wd w' A (List.replicate n 0) ∧ Below w.heap.size w w') ∧
    (∀ w, Calls Tryd.prog 13 #[.int .i64 size] w fun e w' => ∃ A, e = .returned (.tuple #[.agg #[.int .i64 sz, .slice A n n], .int .i64 er]) ∧ Wd w' A (List.replicate n 0) ∧ Below w.heap.size w w') := by
  by_cases h : size < 0 ∨ 4096 < size
  · exact ⟨0, 0, 2, by omega, fun w => (new_bad size w h).mono fun e w' ⟨he, hb⟩ => ⟨none, he, fun h => absurd rfl h, hb⟩, fun w => (rnew_bad size w h).mono fun e w' ⟨he, hb⟩ => ⟨none, he, fun h => absurd rfl h, hb⟩⟩
  · obtain ⟨n, hn⟩ : ∃ n : Nat, (size + 63) / 64 = (n : Int) := ⟨((size + 63) / 64).toNat, by omega⟩
    exact ⟨size, n, 0, by omega, fun w => new_good size n w (by omega) (by omega) hn, fun w => rnew_good size n w (by omega) (by omega) hn⟩
set_option maxHeartbeats 4000000 in
theorem law_checks (s size : Int) (A : Option Addr) (ws : List Nat) (c : Nat) (w : World) (ht : Tab w) (hr : Wd w A ws) (hw : ∀ x ∈ ws, x < 2 ^ 64) (hn : ws.length ≤ 9223372036854775807) :
    Calls Tryd.prog 3 #[.agg #[.int .i64 s, .slice A ws.length c], .int .i64 size] w fun e w' => e = .returned (.bool true) ∧ Below w.heap.size w w' := by
  obtain ⟨sz, n, er, hn64, hN, hM⟩ := new_both size
  have HT := hide (ht.below (bal (brefl w) (.cells #[.int .i64 s, .slice A ws.length c] 24)))
  have HR := hide (hr.below (bal (brefl w) (.cells #[.int .i64 s, .slice A ws.length c] 24)))
  have HN := hide hN
  have HM := hide hM
  have HW := hide hw
  clear hN hM ht hr hw
  go_enter Tryd.func3, Tryd.ntmps3
  go_wp2_with fail
  refine (awake _ HT.out).mono ?_
  rintro e w1 ⟨rfl, hb1⟩
  have b1 : BoxIs w1 w.heap.size s (.slice A ws.length c) := (BoxIs.new w s _).below hb1
  have r1 := HR.out.below hb1
  have o1 : Below w.heap.size w w1 := btrans (bal (brefl _) _) hb1
  have P1 := hide (And.intro o1 (And.intro b1 r1))
  clear hb1 b1 r1 o1
  go_wp2_with fail
  refine (HN.out _).mono ?_
  rintro e w2 ⟨A2, rfl, hr2, hb2⟩
  have P2 := hide (And.intro (btrans P1.out.1 hb2) (And.intro (P1.out.2.1.below hb2) (And.intro (P1.out.2.2.below hb2) hr2)))
  clear hb2 hr2
  go_wp2_with fail
  refine (HM.out _).mono ?_
  rintro e w3 ⟨A3, rfl, hr3, hb3⟩
  have hb23 := btrans (bal (brefl w2) (.cells #[.int .i64 sz, .slice A2 n n] 24)) hb3
  have a3 := bal (brefl w3) (.cells #[.int .i64 sz, .slice A3 n n] 24)
  have P3 := hide (And.intro (btrans (btrans P2.out.1 hb23) a3) (And.intro ((P2.out.2.1.below hb23).below a3) (And.intro ((P2.out.2.2.1.below hb23).below a3)
    (And.intro ((P2.out.2.2.2.below hb23).below a3) (And.intro (hr3.below a3) (And.intro (((BoxIs.new w2 sz (.slice A2 n n)).below hb3).below a3) (BoxIs.new w3 sz (.slice A3 n n))))))))
  clear hb3 hr3 hb23 a3
  go_wp2_with fail
  generalize w3.alloc (Obj.cells #[Value.int IntKind.i64 sz, Value.slice A3 n n] 24) = W0 at *
  obtain ⟨Q1, Q2, Q3, Q4, Q5, Q6, Q7⟩ := P3.out
  have x0 := Q2.c0
  have x1 := Q2.c1
  have y0 := Q6.c0
  have y1 := Q6.c1
  have z0 := Q7.c0
  have z1 := Q7.c1
  have hch := fun W hW => check_any s A ws c W (Q3.below hW) HW.out hn
  have hrc := fun W hW => rcheck_any s A ws c W (Q3.below hW) HW.out
  have hsm : ∀ W, Below W0.heap.size W0 W → Calls Tryd.prog 16 #[.agg #[.int .i64 sz, .slice A2 n n], .agg #[.int .i64 sz, .slice A3 n n]] W fun e w' => e = .returned (.bool true) ∧ Below W.heap.size W w' := fun W hW => by
    have h := same_any sz sz A2 A3 (List.replicate n 0) (List.replicate n 0) n n W (Q4.below hW) (Q5.below hW) (by simp; omega)
    simp only [List.length_replicate, sameB, decide_true, Bool.and_self] at h
    exact h
  generalize chk s ws = e0 at hch hrc
  have HCH := hide hch
  have HRC := hide hrc
  have HSM := hide hsm
  have G2 := hide Q2
  have G6 := hide Q6
  have G7 := hide Q7
  have G1 := hide Q1
  clear hch hrc hsm P1 P2 P3 Q1 Q2 Q3 Q4 Q5 Q6 Q7 HN HM HT HR
  have K0 := hide (brefl W0)
  go_region_with (first
    | (go_at_call 14; refine (HCH.out _ (by first | exact K15.out | exact below_drewN K15.out _ | exact K0.out | exact below_drewN K0.out _)).mono ?_; rintro e w14 ⟨rfl, hb14⟩; have K14 : Hid (Below W0.heap.size W0 w14) := hide (by first | exact btrans K15.out hb14 | exact btrans (below_drewN K15.out _) hb14 | exact btrans K0.out hb14 | exact btrans (below_drewN K0.out _) hb14); have p0 := (G2.out.below K14.out).c0; have p1 := (G2.out.below K14.out).c1; have p2 := (G6.out.below K14.out).c0; have p3 := (G6.out.below K14.out).c1; have p4 := (G7.out.below K14.out).c0; have p5 := (G7.out.below K14.out).c1; clear hb14)
    | (go_at_call 15; refine (HRC.out _ (by first | exact K14.out | exact below_drewN K14.out _ | exact K0.out | exact below_drewN K0.out _)).mono ?_; rintro e w15 ⟨rfl, hb15⟩; have K15 : Hid (Below W0.heap.size W0 w15) := hide (by first | exact btrans K14.out hb15 | exact btrans (below_drewN K14.out _) hb15 | exact btrans K0.out hb15 | exact btrans (below_drewN K0.out _) hb15); have q0 := (G2.out.below K15.out).c0; have q1 := (G2.out.below K15.out).c1; have q2 := (G6.out.below K15.out).c0; have q3 := (G6.out.below K15.out).c1; have q4 := (G7.out.below K15.out).c0; have q5 := (G7.out.below K15.out).c1; clear hb15)
    | (go_at_call 16; refine (HSM.out _ (by first | exact K15.out | exact K14.out | exact below_drewN K15.out _ | exact below_drewN K14.out _)).mono ?_; rintro e w16 ⟨rfl, hb16⟩; have K16 : Hid (Below W0.heap.size W0 w16) := hide (by first | exact btrans K15.out hb16 | exact btrans K14.out hb16 | exact btrans (below_drewN K15.out _) hb16 | exact btrans (below_drewN K14.out _) hb16); clear hb16))
  all_goals
    go_wp2
    go_ret
    exact ⟨rfl, by first | exact btrans G1.out K16.out | exact below_drewN (btrans G1.out K16.out) _⟩
end Go.Proofs.YtdpdlbonlpdkjaaDoor.Bs
