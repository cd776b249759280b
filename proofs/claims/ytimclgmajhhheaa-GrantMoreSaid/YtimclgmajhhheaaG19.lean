import Derived.Test.YtimclgmajhhheaaG18
namespace Go.Proofs.Ytimclgmajhhheaa.Gr
open Go Go.RowKit Ac
set_option linter.unusedVariables false
set_option linter.unusedSimpArgs false
set_option maxRecDepth 100000 in
set_option maxHeartbeats 8000000 in
theorem law_more (A : Option Addr) (cp : Nat) (Q : List A4) (B : Option Addr) (cq : Nat) (L : List A5) (f0 f1 f2 f3 : Int) (w : World) (hq : Qs w A Q) (hr : As w B L) (hQ : Q.length ≤ 9223372036854775807) (hQc : Q.length ≤ cp) (hcq : L.length ≤ cq) (hL : L.length ≤ 9223372036854775807) (h0 : 0 ≤ f0 ∧ f0 ≤ 65535) (h1 : 0 ≤ f1 ∧ f1 ≤ 65535) (h2 : 0 ≤ f2 ∧ f2 ≤ 65535) (h3 : 0 ≤ f3 ∧ f3 ≤ 65535) : Calls Try.prog 8 #[.slice A Q.length cp, .slice B L.length cq, .agg #[.int .u16 f0, .int .u16 f1, .int .u16 f2, .int .u16 f3]] w fun e w' => e = .returned (.bool (true)) ∧ Below w.heap.size w w' := by
  have AWK := hide (fun w => awake_any w)
  have Y := hide (Box.new w 52 #[.int .u16 f0, .int .u16 f1, .int .u16 f2, .int .u16 f3])
  have K := hide (bal (brefl w) (.cells #[.int .u16 f0, .int .u16 f1, .int .u16 f2, .int .u16 f3] 52))
  obtain ⟨W0, hW0⟩ : ∃ W0, W0 = w.alloc (.cells #[.int .u16 f0, .int .u16 f1, .int .u16 f2, .int .u16 f3] 52) := ⟨_, rfl⟩
  rw [← hW0] at Y K
  obtain ⟨g4, hg4⟩ : ∃ g4, g4 = w.heap.size := ⟨_, rfl⟩
  rw [← hg4] at Y
  have HW := hide hW0
  have HB := hide hg4
  clear hW0 hg4
  have FW := hide (fun w => few_any A B Q.length L.length cp cq w hQ hL)
  by_cases hf : (decide ((Q.length : Int) ≤ 20) && decide ((L.length : Int) ≤ 20)) = true
  rotate_left 1
  · have hf2 : (decide ((Q.length : Int) ≤ 20) && decide ((L.length : Int) ≤ 20)) = false := by simpa using hf
    rw [hf2] at FW
    clear hf hf2 hq hr Y
    go_enter Try.func8, Try.ntmps8
    go_upto_region 1 with fail
    rw [← HW.out]
    clear HW HB
    go_wp2_with fail
    refine (AWK.out _).mono ?_
    rintro e w1 ⟨rfl, hb⟩
    replace K := hide (btrans K.out hb)
    clear hb
    go_wp2_with fail
    refine (FW.out _).mono ?_
    rintro e w2 ⟨rfl, rfl⟩
    go_wp2_with fail
    refine (AWK.out _).mono ?_
    rintro e w3 ⟨rfl, hb⟩
    replace K := hide (btrans K.out hb)
    clear hb
    go_wp2
    go_ret
    exact ⟨rfl, K.out⟩
  have hq20 : Q.length ≤ 20 := by
    have := (Bool.and_eq_true _ _ ▸ hf).1
    have := of_decide_eq_true this
    omega
  rw [hf] at FW
  clear hf
  have VD := hide (fun w' (h : Below w.heap.size w w') => valid_any A cp Q B cq L w' (hq.below h) (hr.below h) (by omega) hcq hL)
  by_cases hz : svE Q L = 0
  rotate_left 1
  · rw [decide_eq_false hz] at VD
    clear hz hq hr Y
    go_enter Try.func8, Try.ntmps8
    go_upto_region 1 with fail
    rw [← HW.out]
    clear HW HB
    go_wp2_with fail
    refine (AWK.out _).mono ?_
    rintro e w1 ⟨rfl, hb⟩
    replace K := hide (btrans K.out hb)
    clear hb
    go_wp2_with fail
    refine (FW.out _).mono ?_
    rintro e w2 ⟨rfl, rfl⟩
    go_wp2_with fail
    refine (VD.out _ K.out).mono ?_
    rintro e w3 ⟨rfl, hb⟩
    replace K := hide (btrans K.out hb)
    clear hb
    go_wp2_with fail
    refine (AWK.out _).mono ?_
    rintro e w4 ⟨rfl, hb⟩
    replace K := hide (btrans K.out hb)
    clear hb
    go_wp2
    go_ret
    exact ⟨rfl, K.out⟩
  rw [decide_eq_true hz] at VD
  have V := vd_of (sv_ok hz).2.1
  have SUP := more_sup hz (show f0 ≤ f0 + f2 by omega) (show f1 ≤ f1 + f3 by omega)
  have hle := (svK_all Q L f0 f1).2.1
  have CUT := hide (fun i (h : i < svK Q L f0 f1) => more_cut (n := f0) (m := f1) hz h)
  have S1 := fun w' (h : Below w.heap.size w w') => serve_any A cp Q B cq L f0 f1 w' (hq.below h) (hr.below h) (by omega) hcq hL (by unfold i64r; omega) (by unfold i64r; omega)
  have S2 := fun w' (h : Below w.heap.size w w') => serve_any A cp Q B cq L (f0 + f2) (f1 + f3) w' (hq.below h) (hr.below h) (by omega) hcq hL (by unfold i64r; omega) (by unfold i64r; omega)
  have S3 := fun i A' c' w' (h : Below w.heap.size w w') (h1' : Qs w' A' (Q.drop i)) => serve_any A' c' (Q.drop i) B cq L f0 f1 w' h1' (hr.below h) (by rw [List.length_drop]; omega) hcq hL (by unfold i64r; omega) (by unfold i64r; omega)
  have E3 := fun i => sv_drop (k := i) hz V rfl
  unfold SvR at S1 S2 S3
  rw [hz, (sv_good hz).1] at S1 S2
  simp only [E3, (sv_good (E3 _)).1, List.length_drop] at S3
  have HQ := hide (fun w' (h : Below w.heap.size w w') => hq.below h)
  obtain ⟨k1, hk1⟩ : ∃ x, x = svK Q L f0 f1 := ⟨_, rfl⟩
  obtain ⟨k2, hk2⟩ : ∃ x, x = svK Q L (f0 + f2) (f1 + f3) := ⟨_, rfl⟩
  rw [← hk1] at S1 SUP CUT hle
  rw [← hk2] at S2 SUP
  generalize svR Q L f0 f1 = R1 at *
  generalize svR Q L (f0 + f2) (f1 + f3) = R2 at *
  clear hk1 hk2 E3 V hq hr hz
  replace S1 := hide S1
  replace S2 := hide S2
  replace S3 := hide S3
  have sup2 : ¬ k2 < k1 := by omega
  have sup3 : ¬ (k2 : Int) < (k1 : Int) := by omega
  have w0 : IntKind.i64.wrap f0 = f0 := IntWalk.i64_in _ (by omega)
  have w1 : IntKind.i64.wrap f1 = f1 := IntWalk.i64_in _ (by omega)
  have w2 : IntKind.i64.wrap f2 = f2 := IntWalk.i64_in _ (by omega)
  have w3 : IntKind.i64.wrap f3 = f3 := IntWalk.i64_in _ (by omega)
  have w02 : IntKind.i64.wrap (f0 + f2) = f0 + f2 := IntWalk.i64_in _ (by omega)
  have w13 : IntKind.i64.wrap (f1 + f3) = f1 + f3 := IntWalk.i64_in _ (by omega)
  go_enter Try.func8, Try.ntmps8
  go_upto_region 1 with fail
  rw [← HW.out, ← HB.out]
  clear HW HB
  go_wp2_with fail
  refine (AWK.out _).mono ?_
  rintro e wp ⟨rfl, hb⟩
  replace K := hide (btrans K.out hb)
  replace Y := hide (Y.out.below hb)
  clear hb
  try clear y0 y1 y2 y3
  have y0 := Box.cell Y.out 0
  have y1 := Box.cell Y.out 1
  have y2 := Box.cell Y.out 2
  have y3 := Box.cell Y.out 3
  go_wp2_with fail
  refine (FW.out _).mono ?_
  rintro e wq ⟨rfl, rfl⟩
  go_wp2_with fail
  refine (VD.out _ K.out).mono ?_
  rintro e wo ⟨rfl, hb⟩
  replace K := hide (btrans K.out hb)
  replace Y := hide (Y.out.below hb)
  clear hb
  try clear y0 y1 y2 y3
  have y0 := Box.cell Y.out 0
  have y1 := Box.cell Y.out 1
  have y2 := Box.cell Y.out 2
  have y3 := Box.cell Y.out 3
  go_wp2_with fail
  refine (S1.out _ K.out).mono ?_
  rintro e ws ⟨A1, c1, rfl, -, hb⟩
  replace K := hide (btrans K.out hb)
  replace Y := hide (Y.out.below hb)
  clear hb
  try clear y0 y1 y2 y3
  have y0 := Box.cell Y.out 0
  have y1 := Box.cell Y.out 1
  have y2 := Box.cell Y.out 2
  have y3 := Box.cell Y.out 3
  go_wp2_with fail
  refine (S2.out _ K.out).mono ?_
  rintro e wt ⟨A2, c2, rfl, -, hb⟩
  replace K := hide (btrans K.out hb)
  replace Y := hide (Y.out.below hb)
  clear hb
  try clear y0 y1 y2 y3
  have y0 := Box.cell Y.out 0
  have y1 := Box.cell Y.out 1
  have y2 := Box.cell Y.out 2
  have y3 := Box.cell Y.out 3
  clear S1 S2 VD FW AWK sup3 y0 y1 y2 y3
  have k12 : (k1 : Int) ≤ (k2 : Int) := by omega
  clear sup2
  go_wp2
  go_loopw [79, 13, 14, 15, 16] (fun i _ _ _ _ wr => ∃ j : Nat, j ≤ Q.length ∧ i = .int .i64 j ∧ Hid (Below w.heap.size w wr) ∧ Hid (Box wr g4 52 #[.int .u16 f0, .int .u16 f1, .int .u16 f2, .int .u16 f3])) (fun i _ _ _ _ _ => Q.length - (intOf i).toNat)
  case atStart => exact ⟨0, Nat.zero_le _, rfl, K, Y⟩
  case round =>
    clear K Y
    obtain ⟨j, hj, rfl, K, Y⟩ := hrel
    by_cases hlt : j < Q.length
    · have hl2 : (j : Int) < (Q.length : Int) := by omega
      have hj0 : (0 : Int) ≤ (j : Int) := by omega
      have hj1 : (j : Int) ≤ (Q.length : Int) := by omega
      have hj2 : (Q.length : Int) ≤ (cp : Int) := by omega
      have hj3 : (j : Int) ≤ (cp : Int) := by omega
      have CJ := hide (CUT.out j)
      have QJ := hide (fun w' (h : Below w.heap.size w w') => (HQ.out w' h).cutAt (k := j) hQc hj)
      have SJ := hide (S3.out j)
      generalize svK (Q.drop j) L f0 f1 = kj at *
      generalize svR (Q.drop j) L f0 f1 = Rj at *
      go_upto_region 10 with fail
      replace K := hide (btrans K.out (show Below wr.heap.size wr wr.drew from below_drewN (brefl _) 1))
      replace Y := hide (Y.out.below (show Below wr.heap.size wr wr.drew from below_drewN (brefl _) 1))
      refine wp_region_noPanic ?_
      refine wp_region_held_drew (S := (fun W => W.cell? ⟨g4, 0, none⟩ = some (.int .u16 f0) ∧ W.cell? ⟨g4, 1, none⟩ = some (.int .u16 f1))) (by kernel_rfl) ?_ (fun hHeld => ?_)
      · exact ⟨Box.cell Y.out 0, Box.cell Y.out 1⟩
      refine wpAnyH_take (i := 0) (oi := ⟨some 83, _, _, _, _, _⟩) (v := ?_) rfl (by kernel_rfl) (by kernel_rfl) (by kernel_rfl) (fun _ _ _ h => h) (Or.inl ⟨by kernel_rfl, ?_⟩) (by assumption) ?_
      rotate_left 1
      · (intro w hSw; (try dsimp only at hSw); go_simp) <;> (with_reducible rfl)
      (try simp only [Act.put, List.setIfInBounds_toArray, List.set_cons_succ, List.set_cons_zero])
      refine wpAnyH_take (i := 1) (oi := ⟨some 84, _, _, _, _, _⟩) (v := ?_) rfl (by kernel_rfl) (by kernel_rfl) (by kernel_rfl) (fun _ _ _ h => h) (Or.inl ⟨by kernel_rfl, ?_⟩) (by assumption) ?_
      rotate_left 1
      · (intro w hSw; (try dsimp only at hSw); go_simp) <;> (with_reducible rfl)
      (try simp only [Act.put, List.setIfInBounds_toArray, List.set_cons_succ, List.set_cons_zero])
      refine wpAnyH_take (i := 2) (oi := ⟨some 85, _, _, _, _, _⟩) (v := ?_) rfl (by kernel_rfl) (by kernel_rfl) (by kernel_rfl) (fun _ _ _ h => h) (Or.inl ⟨by kernel_rfl, ?_⟩) (by assumption) ?_
      rotate_left 1
      · (intro w hSw; (try dsimp only at hSw); go_simp) <;> (with_reducible rfl)
      (try simp only [Act.put, List.setIfInBounds_toArray, List.set_cons_succ, List.set_cons_zero])
      refine wpAnyH_take (i := 3) (oi := ⟨some 86, _, _, _, _, _⟩) (v := ?_) rfl (by kernel_rfl) (by kernel_rfl) (by kernel_rfl) (fun _ _ _ h => h) (Or.inl ⟨by kernel_rfl, ?_⟩) (by assumption) ?_
      rotate_left 1
      · (intro w hSw; (try dsimp only at hSw); go_simp) <;> (with_reducible rfl)
      (try simp only [Act.put, List.setIfInBounds_toArray, List.set_cons_succ, List.set_cons_zero])
      refine wpAnyH_take (i := 4) (oi := ⟨some 87, _, _, _, _, _⟩) (v := ?_) rfl (by kernel_rfl) (by kernel_rfl) (by kernel_rfl) (fun _ _ _ h => h) (Or.inl ⟨by kernel_rfl, ?_⟩) (by assumption) ?_
      rotate_left 1
      · (intro w hSw; (try dsimp only at hSw); go_simp) <;> (with_reducible rfl)
      (try simp only [Act.put, List.setIfInBounds_toArray, List.set_cons_succ, List.set_cons_zero])
      refine wpAnyH_take (i := 5) (oi := ⟨some 88, _, _, _, _, _⟩) (v := ?_) rfl (by kernel_rfl) (by kernel_rfl) (by kernel_rfl) (fun _ _ _ h => h) (Or.inl ⟨by kernel_rfl, ?_⟩) (by assumption) ?_
      rotate_left 1
      · (intro w hSw; (try dsimp only at hSw); go_simp) <;> (with_reducible rfl)
      (try simp only [Act.put, List.setIfInBounds_toArray, List.set_cons_succ, List.set_cons_zero])
      refine wpAnyH_take (i := 6) (oi := ⟨some 89, _, _, _, _, _⟩) (v := ?_) rfl (by kernel_rfl) (by kernel_rfl) (by kernel_rfl) (fun _ _ _ h => h) (Or.inl ⟨by kernel_rfl, ?_⟩) (by assumption) ?_
      rotate_left 1
      · (intro w hSw; (try dsimp only at hSw); go_simp) <;> (with_reducible rfl)
      (try simp only [Act.put, List.setIfInBounds_toArray, List.set_cons_succ, List.set_cons_zero])
      refine wpAnyH_take (i := 7) (oi := ⟨some 90, _, _, _, _, _⟩) (v := ?_) rfl (by kernel_rfl) (by kernel_rfl) (by kernel_rfl) (fun _ _ _ h => h) (Or.inl ⟨by kernel_rfl, ?_⟩) (by assumption) ?_
      rotate_left 1
      · (intro w hSw; (try dsimp only at hSw); go_simp) <;> (with_reducible rfl)
      (try simp only [Act.put, List.setIfInBounds_toArray, List.set_cons_succ, List.set_cons_zero])
      refine wpAnyH_take (i := 8) (oi := ⟨some 91, _, _, _, _, _⟩) (v := ?_) rfl (by kernel_rfl) (by kernel_rfl) (by kernel_rfl) (fun _ _ _ h => h) (Or.inl ⟨by kernel_rfl, ?_⟩) (by assumption) ?_
      rotate_left 1
      · (intro w hSw; (try dsimp only at hSw); go_simp) <;> (with_reducible rfl)
      (try simp only [Act.put, List.setIfInBounds_toArray, List.set_cons_succ, List.set_cons_zero])
      refine wpAnyH_take (i := 9) (oi := ⟨some 92, _, _, _, _, _⟩) (v := ?_) rfl (by kernel_rfl) (by kernel_rfl) (by kernel_rfl) (fun _ _ _ h => h) (Or.inl ⟨by kernel_rfl, ?_⟩) (by assumption) ?_
      rotate_left 1
      · (intro w hSw; (try dsimp only at hSw); go_simp) <;> (with_reducible rfl)
      (try simp only [Act.put, List.setIfInBounds_toArray, List.set_cons_succ, List.set_cons_zero])
      refine wpAnyH_ready (rs := [10]) (by kernel_rfl) (by simp) ?_
      refine AllReadyH.cons (o := ⟨some 93, _, _, _, _, _⟩) rfl (fun K' hK => ?_) AllReadyH.nil
      go_simp
      refine (SJ.out _ _ _ K.out (QJ.out _ K.out)).mono ?_
      rintro e wv ⟨Aj, cj, rfl, -, hb⟩
      replace K := hide (btrans K.out hb)
      replace Y := hide (Y.out.below hb)
      clear hb
      refine hK.out _ _ ?_ (fun hHeld => ?_)
      · exact ⟨Box.cell Y.out 0, Box.cell Y.out 1⟩
      clear hK K'
      (try simp only [Act.put, List.setIfInBounds_toArray, List.set_cons_succ, List.set_cons_zero])
      refine wpAnyH_take (i := 11) (oi := ⟨some 82, _, _, _, _, _⟩) (v := ?_) rfl (by kernel_rfl) (by kernel_rfl) (by kernel_rfl) (fun _ _ _ h => h) (Or.inl ⟨by kernel_rfl, ?_⟩) (by assumption) ?_
      rotate_left 1
      · (intro w hSw; (try dsimp only at hSw); go_simp) <;> (with_reducible rfl)
      (try simp only [Act.put, List.setIfInBounds_toArray, List.set_cons_succ, List.set_cons_zero])
      refine wpAnyH_take (i := 12) (oi := ⟨some 94, _, _, _, _, _⟩) (v := ?_) rfl (by kernel_rfl) (by kernel_rfl) (by kernel_rfl) (fun _ _ _ h => h) (Or.inl ⟨by kernel_rfl, ?_⟩) (by assumption) ?_
      rotate_left 1
      · (intro w hSw; (try dsimp only at hSw); go_simp) <;> (with_reducible rfl)
      (try simp only [Act.put, List.setIfInBounds_toArray, List.set_cons_succ, List.set_cons_zero])
      refine wpAnyH_take (i := 13) (oi := ⟨some 95, _, _, _, _, _⟩) (v := ?_) rfl (by kernel_rfl) (by kernel_rfl) (by kernel_rfl) (fun _ _ _ h => h) (Or.inl ⟨by kernel_rfl, ?_⟩) (by assumption) ?_
      rotate_left 1
      · (intro w hSw; (try dsimp only at hSw); go_simp) <;> (with_reducible rfl)
      (try simp only [Act.put, List.setIfInBounds_toArray, List.set_cons_succ, List.set_cons_zero])
      refine wpAnyH_take (i := 14) (oi := ⟨some 96, _, _, _, _, _⟩) (v := ?_) rfl (by kernel_rfl) (by kernel_rfl) (by kernel_rfl) (fun _ _ _ h => h) (Or.inl ⟨by kernel_rfl, ?_⟩) (by assumption) ?_
      rotate_left 1
      · (intro w hSw; (try dsimp only at hSw); go_simp) <;> (with_reducible rfl)
      (try simp only [Act.put, List.setIfInBounds_toArray, List.set_cons_succ, List.set_cons_zero])
      refine wpAnyH_take (i := 15) (oi := ⟨some 14, _, _, _, _, _⟩) (v := ?_) rfl (by kernel_rfl) (by kernel_rfl) (by kernel_rfl) (fun _ _ _ h => h) (Or.inl ⟨by kernel_rfl, ?_⟩) (by assumption) ?_
      rotate_left 1
      · (intro w hSw; (try dsimp only at hSw); go_simp) <;> (with_reducible rfl)
      (try simp only [Act.put, List.setIfInBounds_toArray, List.set_cons_succ, List.set_cons_zero])
      refine wpAnyH_take (i := 16) (oi := ⟨some 15, _, _, _, _, _⟩) (v := ?_) rfl (by kernel_rfl) (by kernel_rfl) (by kernel_rfl) (fun _ _ _ h => h) (Or.inl ⟨by kernel_rfl, ?_⟩) (by assumption) ?_
      rotate_left 1
      · (intro w hSw; (try dsimp only at hSw); go_simp) <;> (with_reducible rfl)
      (try simp only [Act.put, List.setIfInBounds_toArray, List.set_cons_succ, List.set_cons_zero])
      refine wpAnyH_take (i := 17) (oi := ⟨some 16, _, _, _, _, _⟩) (v := ?_) rfl (by kernel_rfl) (by kernel_rfl) (by kernel_rfl) (fun _ _ _ h => h) (Or.inl ⟨by kernel_rfl, ?_⟩) (by assumption) ?_
      rotate_left 1
      · (intro w hSw; (try dsimp only at hSw); go_simp) <;> (with_reducible rfl)
      (try simp only [Act.put, List.setIfInBounds_toArray, List.set_cons_succ, List.set_cons_zero])
      refine wpAnyH_done (by kernel_rfl) ?_ _
      refine NoPanic.normal ?_
      by_cases hjk : j < k1
      · have hjk2 : (j : Int) < (k1 : Int) := by omega
        have cc := CJ.out hjk
        have cc2 : ¬ (kj : Int) < (k1 : Int) - (j : Int) := by omega
        have wk : IntKind.i64.wrap ((k1 : Int) - (j : Int)) = (k1 : Int) - (j : Int) := IntWalk.i64_in _ (by omega)
        clear CJ
        go_wp2
        all_goals
          go_roundw
          case rel => first | exact ⟨_, _, _, _, _, _, ⟨j + 1, by omega, by go_num⟩, rfl, rfl, rfl, rfl, rfl, rfl⟩ | exact ⟨_, _, _, _, _, ⟨j + 1, by omega, by go_num⟩, rfl, rfl, rfl, rfl, rfl⟩ | exact ⟨j + 1, by omega, by go_num, K, Y⟩
          case measure => simp [intOf]; omega
      · have hjk2 : ¬ (j : Int) < (k1 : Int) := by omega
        clear CJ
        go_wp2
        all_goals
          go_roundw
          case rel => first | exact ⟨_, _, _, _, _, _, ⟨j + 1, by omega, by go_num⟩, rfl, rfl, rfl, rfl, rfl, rfl⟩ | exact ⟨_, _, _, _, _, ⟨j + 1, by omega, by go_num⟩, rfl, rfl, rfl, rfl, rfl⟩ | exact ⟨j + 1, by omega, by go_num, K, Y⟩
          case measure => simp [intOf]; omega
    · obtain rfl : j = Q.length := by omega
      go_wp2
      go_ret
      exact ⟨rfl, K.out⟩
end Go.Proofs.Ytimclgmajhhheaa.Gr
