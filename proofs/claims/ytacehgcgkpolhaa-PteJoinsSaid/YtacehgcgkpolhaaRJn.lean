import Derived.Test.YtacehgcgkpolhaaJn0
import Derived.IntWalk
namespace Go.Proofs.Ytacehgcgkpolhaa.Pt
open Go Go.RowKit
set_option linter.unusedVariables false
theorem joinR {a : Nat → Int} {r : Int} (h0 : all8 (goodAt a) = true) (h : r = chkR a) (hr : r ≠ 0) : joinW a = 0 ∧ joinE a = r := by
  obtain ⟨x, y⟩ := join_chk h0 (by rw [← h]; exact hr)
  exact ⟨x, y.trans h.symm⟩
set_option maxRecDepth 100000 in
set_option maxHeartbeats 8000000 in
theorem rjoin_two (a : Nat → Int) (hi : In64 a) : Two 26 #[.agg (wdCells a)] (joinW a) (joinE a) := by
  intro w
  have HI := hide hi
  clear hi
  have WW := hide (Wd.below (Wd.new w a) (bal (brefl _) (.cells (pgCells (fun _ => 0)) 49)))
  have PP0 := Pg.new (w.alloc (.cells (wdCells a) 37)) 49 (fun _ => 0)
  rw [show (w.alloc (.cells (wdCells a) 37)).heap.size = w.heap.size + 1 by simp] at PP0
  have PP := hide (show Pg ((w.alloc (.cells (wdCells a) 37)).alloc (.cells (pgCells (fun _ => 0)) 49)) (w.heap.size + 1) 49 (upto a 0) from PP0)
  clear PP0
  have KK := hide (bal (bal (brefl w) (.cells (wdCells a) 37)) (.cells (pgCells (fun _ => 0)) 49))
  rw [← zeros_pg] at WW PP KK
  go_enter Try.func26, Try.ntmps26
  go_wp2_with fail
  go_loopw [5, 6, 7, 12] (fun _ _ _ i wr => ∃ k : Nat, k ≤ 8 ∧ i = .int .i64 k ∧ Hid (Below w.heap.size w wr) ∧ Hid (Wd wr w.heap.size a) ∧ Hid (Pg wr (w.heap.size + 1) 49 (upto a k)) ∧ Hid (Ok8 (goodAt a) k)) (fun _ _ _ i _ => 8 - (intOf i).toNat)
  case atStart => exact ⟨0, by omega, rfl, KK, WW, PP, hide (fun j hj => absurd hj (by omega))⟩
  case round =>
    clear KK WW PP
    obtain ⟨k, hk, rfl, KB, WB, PB, OK⟩ := hrel
    by_cases hlt : k < 8
    · have hcell := Wd.cell WB.out hlt
      have lw := Wd.lt WB.out
      have lp := Pg.lt PB.out
      obtain ⟨x0, x1⟩ := HI.out k hlt
      cases hc : good (a k)
      · have R := hide (join_bad hlt hc)
        have HG := hide hc
        obtain ⟨x, hx⟩ : ∃ x, x = a k := ⟨_, rfl⟩
        rw [← hx] at hcell x0 x1 HG
        clear hc hx
        go_wp2_with fail
        refine (rdec_bad x _ x0 x1 HG.out).mono ?_
        rintro en w1 ⟨rfl, hb1⟩
        have K1 := hide (btrans KB.out hb1)
        clear hb1
        go_wp2_with fail
        go_ret2
        exact ⟨ret_pair R.out.1.symm R.out.2.symm, bal K1.out _⟩
      · have HG := hide hc
        have HS := hide (OK.out.step hc)
        have HU := hide (upto_step a k)
        obtain ⟨x, hx⟩ : ∃ x, x = a k := ⟨_, rfl⟩
        rw [← hx] at hcell x0 x1 HG HU
        clear hc hx
        go_wp2_with fail
        refine (rdec_good x _ x0 x1 HG.out).mono ?_
        rintro en w1 ⟨rfl, hb1⟩
        have K1 := hide (btrans KB.out hb1)
        have W1 := hide (Wd.below WB.out hb1)
        have P1 := hide (Pg.below PB.out hb1)
        have lp1 := Pg.lt P1.out
        clear hb1
        obtain ⟨c0, c1, c2, c3, c4, c5⟩ := Pg.cells P1.out hlt
        have q := Pg.free P1.out
        have q0 := q (k * 6)
        have q1 := q (k * 6 + 1)
        have q2 := q (k * 6 + 2)
        have q3 := q (k * 6 + 3)
        have q4 := q (k * 6 + 4)
        have q5 := q (k * 6 + 5)
        clear q
        go_wp2
        go_roundw
        case rel => exact ⟨k + 1, by omega, by go_num, hide (bal (bset6k K1.out (by omega)) _), hide (Wd.below (Wd.far6k W1.out (by omega)) (bal (brefl _) _)), hide (Pg.below (by rw [← HU.out]; exact Pg.put P1.out hlt x) (bal (brefl _) _)), HS⟩
        case measure => simp [intOf]; omega
    · obtain rfl : k = 8 := by omega
      have A0 := hide (OK.out.all hlt)
      have PA := hide (show Pg wr (w.heap.size + 1) 49 a from PB.out)
      have KA := KB
      clear PB OK KB WB hk hlt
      rename World => wp
      go_wp2_with fail
      go_loopw [8, 29] (fun _ i wr => ∃ k : Nat, k ≤ 8 ∧ i = .int .i64 k ∧ Hid (Below w.heap.size w wr) ∧ Hid (Pg wr (w.heap.size + 1) 49 a) ∧ Hid (Ok8 (chk1 a) k)) (fun _ i _ => 8 - (intOf i).toNat)
      case atStart => exact ⟨0, by omega, rfl, KA, PA, hide (fun j hj => absurd hj (by omega))⟩
      case round =>
        clear KA PA
        obtain ⟨k, hk, rfl, KB, PB, OK⟩ := hrel
        by_cases hlt : k < 8
        · obtain ⟨c0, c1, c2, c3, c4, c5⟩ := Pg.cells PB.out hlt
          have lp := Pg.lt PB.out
          cases hc : chk1 a k
          · have R := hide (joinR A0.out (chkR_1 hlt hc) (by decide))
            have hd := chk1_f hc
            clear hc
            rcases hd with h1 | ⟨h1, h2⟩
            · go_wp2
              go_ret2
              exact ⟨ret_pair R.out.1.symm R.out.2.symm, KB.out⟩
            · go_wp2
              go_ret2
              exact ⟨ret_pair R.out.1.symm R.out.2.symm, KB.out⟩
          · obtain ⟨h1, h2⟩ := chk1_t hc
            have HC := hide hc
            clear hc
            go_wp2
            go_roundw
            case rel => exact ⟨k + 1, by omega, by go_num, KB, PB, hide (OK.out.step HC.out)⟩
            case measure => simp [intOf]; omega
        · have A1 := hide (OK.out.all hlt)
          have PA := PB
          have KA := KB
          have lpa := Pg.lt PB.out
          obtain ⟨c0, c1, c2, c3, c4, c5⟩ := Pg.first PB.out
          obtain rfl : k = 8 := by omega
          clear PB KB OK hk hlt
          rename World => wq
          have XA := hide (Ent.new wq (uk (a 0)) (un (a 0)) (f3 (a 0)) (f4 (a 0)) (f5 (a 0)) (f6 (a 0)))
          have PA2 := hide (Pg.below PA.out (bal (brefl _) (.cells #[.int .i64 (uk (a 0)), .int .i64 (un (a 0)), .bool (f3 (a 0)), .bool (f4 (a 0)), .bool (f5 (a 0)), .bool (f6 (a 0))] 23)))
          have KA2 := hide (bal KA.out (.cells #[.int .i64 (uk (a 0)), .int .i64 (un (a 0)), .bool (f3 (a 0)), .bool (f4 (a 0)), .bool (f5 (a 0)), .bool (f6 (a 0))] 23))
          have G2 := hide KA.out.size
          have LN := hide (show w.heap.size + 1 ≠ wq.heap.size from Nat.ne_of_lt lpa)
          have lq : w.heap.size + 1 < wq.heap.size := lpa
          go_wp2_with fail
          clear c0 c1 c2 c3 c4 c5
          go_loopw [10, 46] (fun _ i wr => ∃ k : Nat, k ≤ 8 ∧ i = .int .i64 k ∧ Hid (Below w.heap.size w wr) ∧ Hid (Pg wr (w.heap.size + 1) 49 a) ∧ Hid (Ent wr wq.heap.size (uk (a 0)) (un (a 0)) (f3 (a 0)) (f4 (a 0)) (f5 (a 0)) (f6 (a 0))) ∧ Hid (Ok8 (chk2 a) k)) (fun _ i _ => 8 - (intOf i).toNat)
          case atStart => exact ⟨0, by omega, rfl, KA2, PA2, XA, hide (fun j hj => absurd hj (by omega))⟩
          case round =>
            clear KA2 PA2 XA PA KA
            obtain ⟨k, hk, rfl, KB, PB, XB, OK⟩ := hrel
            by_cases hlt : k < 8
            · obtain ⟨c0, c1, c2, c3, c4, c5⟩ := Pg.cells PB.out hlt
              obtain ⟨x0, x1, x2, x3, x4, x5⟩ := Ent.cells XB.out
              have b0 := un_bd (a 0)
              have b1 := un_bd (a k)
              have i0 : (0 : Int) ≤ (k : Int) := by omega
              have i1 : (k : Int) < 8 := by omega
              have hs : IntKind.i64.wrap (un (a 0) + (k : Int)) = un (a 0) + (k : Int) := IntWalk.i64_in _ (by omega)
              cases hc : chk2 a k
              · have R := hide (joinR A0.out (chkR_2 A1.out hlt hc) (by decide))
                have h1 := chk2_f hc
                clear hc
                go_wp2
                go_quiet (fail)
                go_wp2
                go_ret2
                exact ⟨ret_pair R.out.1.symm R.out.2.symm, below_drewN KB.out _⟩
              · have h1 := chk2_t hc
                have HC := hide hc
                clear hc
                go_wp2
                go_quiet (fail)
                go_wp2
                go_roundw
                case rel => exact ⟨k + 1, by omega, by go_num, hide (below_drewN KB.out _), hide (Pg.below PB.out (below_drewN (brefl _) _)), hide (Ent.below XB.out (below_drewN (brefl _) _)), hide (OK.out.step HC.out)⟩
                case measure => simp [intOf]; omega
            · have A2 := hide (OK.out.all hlt)
              have PA := PB
              have KA := KB
              have XA := XB
              obtain rfl : k = 8 := by omega
              clear PB KB XB OK hk hlt
              rename World => wz
              go_wp2_with fail
              go_loopw [11, 59] (fun _ i wr => ∃ k : Nat, k ≤ 8 ∧ i = .int .i64 k ∧ Hid (Below w.heap.size w wr) ∧ Hid (Pg wr (w.heap.size + 1) 49 a) ∧ Hid (Ent wr wq.heap.size (uk (a 0)) (un (a 0)) (f3 (a 0)) (orUp (f4at a) k) (orUp (f5at a) k) (f6 (a 0))) ∧ Hid (Ok8 (chk3 a) k)) (fun _ i _ => 8 - (intOf i).toNat)
              case atStart => exact ⟨0, by omega, rfl, KA, PA, hide (by rw [orUp_0, orUp_0]; exact XA.out), hide (fun j hj => absurd hj (by omega))⟩
              case round =>
                clear KA PA XA
                obtain ⟨k, hk, rfl, KB, PB, XB, OK⟩ := hrel
                by_cases hlt : k < 8
                · obtain ⟨c0, c1, c2, c3, c4, c5⟩ := Pg.cells PB.out hlt
                  obtain ⟨d0, d1, d2, d3, d4, d5⟩ := Pg.first PB.out
                  have lp := Pg.lt PB.out
                  have lx := Ent.lt XB.out
                  have i0 : (0 : Int) ≤ (k : Int) := by omega
                  have i1 : (k : Int) < 8 := by omega
                  have S4 := hide (orUp_step (f4at a) k)
                  have S5 := hide (orUp_step (f5at a) k)
                  rw [show f4at a k = f4 (a k) from rfl] at S4
                  rw [show f5at a k = f5 (a k) from rfl] at S5
                  generalize orUp (f4at a) k = A at *
                  generalize orUp (f5at a) k = D at *
                  cases hc : chk3 a k
                  · have R := hide (joinR A0.out (chkR_3 A1.out A2.out hlt hc) (by decide))
                    have h1 := chk3_f hc
                    clear hc
                    go_wp2
                    go_quiet (fail)
                    go_wp2
                    go_ret2
                    exact ⟨ret_pair R.out.1.symm R.out.2.symm, below_drewN KB.out _⟩
                  · have h1 := chk3_t hc
                    have HC := hide hc
                    clear hc
                    cases A <;> cases D
                    all_goals
                      obtain ⟨x0, x1, x2, x3, x4, x5⟩ := Ent.cells XB.out
                      obtain ⟨q0, q1, q2, q3, q4, q5⟩ := Ent.free XB.out
                      go_wp2
                      go_quiet (fail)
                      go_wp2
                      go_roundw
                      case rel => exact ⟨k + 1, by omega, by go_num, hide (below_drewN (bset (bset KB.out G2.out _) G2.out _) _), hide (Pg.below ((PB.out.far LN.out _).far LN.out _) (below_drewN (brefl _) _)), hide (by rw [S4.out, S5.out]; exact (XB.out.set3.set4).below (below_drewN (brefl _) _)), hide (OK.out.step HC.out)⟩
                      case measure => simp [intOf]; omega
                · have A3 := hide (OK.out.all hlt)
                  have J := hide (join_ok A0.out (chkR_0 A1.out A2.out A3.out).symm)
                  obtain rfl : k = 8 := by omega
                  obtain ⟨x0, x1, x2, x3, x4, x5⟩ := Ent.cells XB.out
                  obtain ⟨q0, q1, q2, q3, q4, q5⟩ := Ent.free XB.out
                  generalize orUp (f4at a) 8 = A at *
                  generalize orUp (f5at a) 8 = D at *
                  have HW := hide J.out.1
                  have HE := hide J.out.2
                  go_wp2_with fail
                  refine (renc_two (uk (a 0)) (un (a 0)) (f3 (a 0)) A D true _).mono ?_
                  rintro en w9 ⟨rfl, hb9⟩
                  have K9 := hide (btrans (bset KB.out G2.out _) hb9)
                  clear hb9 x0 x1 x2 x3 x4 x5 q0 q1 q2 q3 q4 q5
                  go_wp2_with fail
                  go_ret2
                  exact ⟨ret_pair HW.out.symm HE.out.symm, K9.out⟩

end Go.Proofs.Ytacehgcgkpolhaa.Pt
