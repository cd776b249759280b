import Derived.Test.YtdpdlbonlpdkjaaDoorLFills
namespace Go.Proofs.YtdpdlbonlpdkjaaDoor.Bs
open Go Go.RowKit
set_option linter.unusedVariables false
set_option maxHeartbeats 8000000 in
theorem law_sets (s i : Int) (on : Bool) (A : Option Addr) (ws : List Nat) (c : Nat) (w : World) (ht : Tab w) (hr : Wd w A ws) (hw : ∀ x ∈ ws, x < 2 ^ 64) (hn : ws.length ≤ 9223372036854775807) (hi1 : -9223372036854775808 ≤ i) (hi2 : i ≤ 9223372036854775807) :
    Calls Tryd.prog 4 #[.agg #[.int .i64 s, .slice A ws.length c], .int .i64 i, .bool on] w fun e w' => e = .returned (.bool true) ∧ Below w.heap.size w w' := by
  obtain ⟨sz, zs, er, hz64, hzl, hon, hF, hG⟩ := set_both s i A ws c on hw hn hi1 hi2
  have HT := hide (ht.below (bal (brefl w) (.cells #[.int .i64 s, .slice A ws.length c] 24)))
  have HR := hide (hr.below (bal (brefl w) (.cells #[.int .i64 s, .slice A ws.length c] 24)))
  have HF := hide hF
  have HG := hide hG
  have HW := hide hw
  have HZ := hide hzl
  have HON := hide hon
  clear hF hG ht hr hw hzl hon
  go_enter Tryd.func4, Tryd.ntmps4
  go_wp2_with fail
  refine (awake _ HT.out).mono ?_
  rintro e w1 ⟨rfl, hb1⟩
  have b1 : BoxIs w1 w.heap.size s (.slice A ws.length c) := (BoxIs.new w s (.slice A ws.length c)).below hb1
  have r1 := HR.out.below hb1
  have o1 : Below w.heap.size w w1 := btrans (bal (brefl _) _) hb1
  have P1 := hide (And.intro o1 (And.intro b1 r1))
  have x0 := b1.c0
  have x1 := b1.c1
  clear hb1 b1 r1 o1
  go_wp2_with fail
  refine (HF.out _ P1.out.2.2).mono ?_
  rintro e w2 ⟨A2, c2, rfl, hr2, hb2⟩
  have b2 := P1.out.2.1.below hb2
  have l2 := b2.lt
  have y0 := b2.c0
  have y1 := b2.c1
  have P2 := hide (And.intro (btrans P1.out.1 hb2) (And.intro b2 (And.intro (P1.out.2.2.below hb2) hr2)))
  clear hb2 hr2 x0 x1 b2
  go_wp2_with fail
  refine (HG.out _ (P2.out.2.2.1.below (bal (brefl _) _))).mono ?_
  rintro e w3 ⟨A3, c3, rfl, hr3, hb3⟩
  have hb23 := btrans (bal (brefl w2) (.cells #[.int .i64 sz, .slice A2 zs.length c2] 24)) hb3
  have a3 := bal (brefl w3) (.cells #[.int .i64 sz, .slice A3 zs.length c3] 24)
  have P3 := hide (And.intro (btrans (btrans P2.out.1 hb23) a3) (And.intro ((P2.out.2.1.below hb23).below a3) (And.intro ((P2.out.2.2.1.below hb23).below a3)
    (And.intro ((P2.out.2.2.2.below hb23).below a3) (And.intro (hr3.below a3) (And.intro (((BoxIs.new w2 sz (.slice A2 zs.length c2)).below hb3).below a3) (BoxIs.new w3 sz (.slice A3 zs.length c3))))))))
  clear hb3 hr3 hb23 a3 y0 y1
  go_wp2_with fail
  generalize w3.alloc (Obj.cells #[Value.int IntKind.i64 sz, Value.slice A3 zs.length c3] 24) = W0 at *
  obtain ⟨Q1, Q2, Q3, Q4, Q5, Q6, Q7⟩ := P3.out
  have x0 := Q2.c0
  have x1 := Q2.c1
  have y0 := Q6.c0
  have y1 := Q6.c1
  have z0 := Q7.c0
  have z1 := Q7.c1
  have hga := fun W hW => get_any s i A ws c W (Q3.below hW) HW.out hn
  have hgb := fun W hW => rget_any s i A ws c W (Q3.below hW) HW.out
  have hsm := fun W hW => same_refl sz zs A2 A3 c2 c3 W (Q4.below hW) (Q5.below hW) hz64
  have hgc := fun W hW => get_any sz i A2 zs c2 W (Q4.below hW) HZ.out (by omega)
  generalize getB s ws i = g0 at hga hgb
  have HGA := hide hga
  have HGB := hide hgb
  have HSM := hide hsm
  have HGC := hide hgc
  have G2 := hide Q2
  have G6 := hide Q6
  have G7 := hide Q7
  have G1 := hide Q1
  clear hga hgb hsm hgc P1 P2 P3 Q1 Q2 Q3 Q4 Q5 Q6 Q7 HF HG HT HR
  have K0 := hide (brefl W0)
  go_region_with (first
    | (go_at_call 16; refine (HSM.out _ (by first | exact K0.out | exact below_drewN K0.out _)).mono ?_; rintro e w16 ⟨rfl, hb16⟩; have K16 : Hid (Below W0.heap.size W0 w16) := hide (by first | exact btrans K0.out hb16 | exact btrans (below_drewN K0.out _) hb16); have p0 := (G2.out.below K16.out).c0; have p1 := (G2.out.below K16.out).c1; have p2 := (G6.out.below K16.out).c0; have p3 := (G6.out.below K16.out).c1; clear hb16)
    | (go_at_call 19; refine (HGA.out _ (by first | exact K20.out | exact K16.out | exact below_drewN K16.out _ | exact K0.out | exact below_drewN K0.out _)).mono ?_; rintro e w19 ⟨rfl, hb19⟩; have K19 : Hid (Below W0.heap.size W0 w19) := hide (by first | exact btrans K20.out hb19 | exact btrans K16.out hb19 | exact btrans (below_drewN K16.out _) hb19 | exact btrans K0.out hb19 | exact btrans (below_drewN K0.out _) hb19); have q0 := (G2.out.below K19.out).c0; have q1 := (G2.out.below K19.out).c1; have q2 := (G6.out.below K19.out).c0; have q3 := (G6.out.below K19.out).c1; clear hb19)
    | (go_at_call 20; refine (HGB.out _ (by first | exact K19.out | exact K16.out | exact below_drewN K16.out _ | exact K0.out | exact below_drewN K0.out _)).mono ?_; rintro e w20 ⟨rfl, hb20⟩; have K20 : Hid (Below W0.heap.size W0 w20) := hide (by first | exact btrans K19.out hb20 | exact btrans K16.out hb20 | exact btrans (below_drewN K16.out _) hb20 | exact btrans K0.out hb20 | exact btrans (below_drewN K0.out _) hb20); have r0 := (G2.out.below K20.out).c0; have r1 := (G2.out.below K20.out).c1; have r2 := (G6.out.below K20.out).c0; have r3 := (G6.out.below K20.out).c1; clear hb20))
  all_goals
    rcases HON.out with he | ⟨he, hg⟩
    · have n1 : (er != 0) = true := by simpa using he
      have n2 : (er == 0) = false := by simpa using he
      clear he
      go_wp2
      go_ret
      exact ⟨rfl, by first | exact btrans G1.out K19.out | exact btrans G1.out K20.out | exact below_drewN (btrans G1.out K19.out) _ | exact below_drewN (btrans G1.out K20.out) _⟩
    · subst he
      have hgd : ∀ W, Below W0.heap.size W0 W → Calls Tryd.prog 19 #[.agg #[.int .i64 sz, .slice A2 zs.length c2], .int .i64 i] W fun e w' => e = .returned (.bool on) ∧ Below W.heap.size W w' := fun W hW => by
        have := HGC.out W hW
        rw [hg] at this
        exact this
      have HGD := hide hgd
      clear hgd hg
      go_wp2_with (go_at_call 19; refine (HGD.out _ (by first | exact K19.out | exact K20.out | exact below_drewN K19.out _ | exact below_drewN K20.out _)).mono ?_; rintro e w21 ⟨rfl, hb21⟩)
      go_ret
      exact ⟨rfl, by first | exact btrans G1.out (btrans K19.out hb21) | exact btrans G1.out (btrans K20.out hb21) | exact btrans G1.out (btrans (below_drewN K19.out _) hb21) | exact btrans G1.out (btrans (below_drewN K20.out _) hb21)⟩
end Go.Proofs.YtdpdlbonlpdkjaaDoor.Bs
