import Derived.Test.YtacehgcgkpolhaaJn0
namespace Go.Proofs.Ytacehgcgkpolhaa.Pt
open Go Go.RowKit
set_option linter.unusedVariables false
set_option maxRecDepth 100000 in
set_option maxHeartbeats 4000000 in
theorem join_two (a : Nat → Int) (hi : In64 a) : Two 25 #[.agg (wdCells a)] (joinW a) (joinE a) := by
  intro w
  have HI := hide hi
  clear hi
  have WW := hide (Wd.below (Wd.new w a) (bal (brefl _) (.cells (pgCells (fun _ => 0)) 49)))
  have PP0 := Pg.new (w.alloc (.cells (wdCells a) 37)) 49 (fun _ => 0)
  rw [show (w.alloc (.cells (wdCells a) 37)).heap.size = w.heap.size + 1 by simp] at PP0
  have PP := hide (show Pg ((w.alloc (.cells (wdCells a) 37)).alloc (.cells (pgCells (fun _ => 0)) 49)) (w.heap.size + 1) 49 (upto a 0) from PP0)
  clear PP0
  have KK := hide (bal (bal (brefl w) (.cells (wdCells a) 37)) (.cells (pgCells (fun _ => 0)) 49))
  rw [← zeros_pg] at WW PP KK
  go_enter Try.func25, Try.ntmps25
  go_wp2_with fail
  go_loopw [5, 6, 7, 12] (fun _ _ _ i wr => ∃ k : Nat, k ≤ 8 ∧ i = .int .i64 k ∧ Hid (Below w.heap.size w wr) ∧ Hid (Wd wr w.heap.size a) ∧ Hid (Pg wr (w.heap.size + 1) 49 (upto a k)) ∧ Hid (Ok8 (goodAt a) k)) (fun _ _ _ i _ => 8 - (intOf i).toNat)
  case atStart => exact ⟨0, by omega, rfl, KK, WW, PP, hide (fun j hj => absurd hj (by omega))⟩
  case round =>
    clear KK WW PP
    obtain ⟨k, hk, rfl, KB, WB, PB, OK⟩ := hrel
    by_cases hlt : k < 8
    · have hcell := Wd.cell WB.out hlt
      have lw := Wd.lt WB.out
      have lp := Pg.lt PB.out
      obtain ⟨x0, x1⟩ := HI.out k hlt
      cases hc : good (a k)
      · have R := hide (join_bad hlt hc)
        have HG := hide hc
        obtain ⟨x, hx⟩ : ∃ x, x = a k := ⟨_, rfl⟩
        rw [← hx] at hcell x0 x1 HG
        clear hc hx
        go_wp2_with fail
        refine (dec_bad x _ x0 x1 HG.out).mono ?_
        rintro en w1 ⟨rfl, hb1⟩
        have K1 := hide (btrans KB.out hb1)
        clear hb1
        go_wp2_with fail
        go_ret2
        exact ⟨ret_pair R.out.1.symm R.out.2.symm, bal K1.out _⟩
      · have HG := hide hc
        have HS := hide (OK.out.step hc)
        have HU := hide (upto_step a k)
        obtain ⟨x, hx⟩ : ∃ x, x = a k := ⟨_, rfl⟩
        rw [← hx] at hcell x0 x1 HG HU
        clear hc hx
        go_wp2_with fail
        refine (dec_good x _ x0 x1 HG.out).mono ?_
        rintro en w1 ⟨rfl, hb1⟩
        have K1 := hide (btrans KB.out hb1)
        have W1 := hide (Wd.below WB.out hb1)
        have P1 := hide (Pg.below PB.out hb1)
        have lp1 := Pg.lt P1.out
        clear hb1
        obtain ⟨c0, c1, c2, c3, c4, c5⟩ := Pg.cells P1.out hlt
        have q := Pg.free P1.out
        have q0 := q (k * 6)
        have q1 := q (k * 6 + 1)
        have q2 := q (k * 6 + 2)
        have q3 := q (k * 6 + 3)
        have q4 := q (k * 6 + 4)
        have q5 := q (k * 6 + 5)
        clear q
        go_wp2
        go_roundw
        case rel => exact ⟨k + 1, by omega, by go_num, hide (bal (bset6k K1.out (by omega)) _), hide (Wd.below (Wd.far6k W1.out (by omega)) (bal (brefl _) _)), hide (Pg.below (by rw [← HU.out]; exact Pg.put P1.out hlt x) (bal (brefl _) _)), HS⟩
        case measure => simp [intOf]; omega
    · obtain rfl : k = 8 := by omega
      have A0 := hide (OK.out.all hlt)
      have PA := hide (show Pg wr (w.heap.size + 1) 49 a from PB.out)
      have KA := KB
      have lp := Pg.lt PA.out
      clear PB OK KB WB hk hlt
      rename World => wp
      go_wp2_with (refine wpList_load_row rfl 49 _ rfl (w.heap.size + 1) rfl 49 (pgCells a) (0, 0) _ PA.out Try.underlying49 rfl (by kernel_rfl) ?_)
      by_cases hz : chkR a = 0
      · have J := hide (join_ok A0.out hz)
        refine (check_0 a _ hz).mono ?_
        rintro en w2 ⟨rfl, hb2⟩
        have K2 := hide (btrans KA.out hb2)
        have P2 := hide (Pg.below PA.out hb2)
        have lp2 := Pg.lt P2.out
        have G2 := hide K2.out.size
        obtain ⟨c0, c1, c2, c3, c4, c5⟩ := Pg.first P2.out
        have PB := hide (Pg.below P2.out (bal (brefl _) (.cells #[.int .i64 (uk (a 0)), .int .i64 (un (a 0)), .bool (f3 (a 0)), .bool (f4 (a 0)), .bool (f5 (a 0)), .bool true] 23)))
        have XB := hide (Ent.new w2 (uk (a 0)) (un (a 0)) (f3 (a 0)) (f4 (a 0)) (f5 (a 0)) true)
        have KB := hide (bal K2.out (.cells #[.int .i64 (uk (a 0)), .int .i64 (un (a 0)), .bool (f3 (a 0)), .bool (f4 (a 0)), .bool (f5 (a 0)), .bool true] 23))
        clear hb2 hz
        go_wp2_with (refine wpList_load_row rfl 49 _ rfl (w.heap.size + 1) rfl 49 (pgCells a) (0, 0) _ PB.out Try.underlying49 rfl (by kernel_rfl) ?_)
        clear c0 c1 c2 c3 c4 c5
        go_loopw [11, 38] (fun _ i wr => ∃ k : Nat, k ≤ 8 ∧ i = .int .i64 k ∧ Hid (Below w.heap.size w wr) ∧ Hid (Ent wr w2.heap.size (uk (a 0)) (un (a 0)) (f3 (a 0)) (orUp (f4at a) k) (orUp (f5at a) k) true)) (fun _ i _ => 8 - (intOf i).toNat)
        case atStart => exact ⟨0, by omega, rfl, KB, hide (by rw [orUp_0, orUp_0]; exact XB.out)⟩
        case round =>
          clear KB XB PB
          obtain ⟨k, hk, rfl, KB, XB⟩ := hrel
          by_cases hlt : k < 8
          · have hx := fun w => index_arr a k hlt w
            have S4 := hide (orUp_step (f4at a) k)
            have S5 := hide (orUp_step (f5at a) k)
            rw [show f4at a k = f4 (a k) from rfl] at S4
            rw [show f5at a k = f5 (a k) from rfl] at S5
            have lx := Ent.lt XB.out
            generalize orUp (f4at a) k = A at *
            generalize orUp (f5at a) k = D at *
            cases A <;> cases D
            all_goals
              obtain ⟨x0, x1, x2, x3, x4, x5⟩ := Ent.cells XB.out
              obtain ⟨q0, q1, q2, q3, q4, q5⟩ := Ent.free XB.out
              go_wp2
              go_roundw
              case rel => exact ⟨k + 1, by omega, by go_num, hide (bal (bset (bset KB.out G2.out _) G2.out _) _), hide (by rw [S4.out, S5.out]; exact (XB.out.set3.set4).below (bal (brefl _) _))⟩
              case measure => simp [intOf]; omega
          · obtain rfl : k = 8 := by omega
            obtain ⟨x0, x1, x2, x3, x4, x5⟩ := Ent.cells XB.out
            generalize orUp (f4at a) 8 = A at *
            generalize orUp (f5at a) 8 = D at *
            have HW := hide J.out.1
            have HE := hide J.out.2
            go_wp2_with fail
            refine (enc_two (uk (a 0)) (un (a 0)) (f3 (a 0)) A D true _).mono ?_
            rintro en w9 ⟨rfl, hb9⟩
            have K9 := hide (btrans KB.out hb9)
            clear hb9 x0 x1 x2 x3 x4 x5
            go_wp2_with fail
            go_ret2
            exact ⟨ret_pair HW.out.symm HE.out.symm, K9.out⟩
      · have J := hide (join_chk A0.out hz)
        refine (check_any a _).mono ?_
        rintro en w2 ⟨rfl, hb2⟩
        have K2 := hide (btrans KA.out hb2)
        generalize chkR a = r at *
        have hz2 : (r != 0) = true := by simpa using hz
        clear hb2 hz
        go_wp2_with fail
        go_ret2
        exact ⟨ret_pair J.out.1.symm J.out.2.symm, K2.out⟩

end Go.Proofs.Ytacehgcgkpolhaa.Pt
