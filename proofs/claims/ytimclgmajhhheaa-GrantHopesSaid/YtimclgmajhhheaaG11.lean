import Derived.Test.YtimclgmajhhheaaG10
namespace Go.Proofs.Ytimclgmajhhheaa.Gr
open Go Go.RowKit Ac
set_option linter.unusedVariables false
set_option linter.unusedSimpArgs false
set_option maxRecDepth 100000 in
set_option maxHeartbeats 8000000 in
theorem rserve_any (A : Option Addr) (cp : Nat) (Q : List A4) (B : Option Addr) (cq : Nat) (L : List A5) (n m : Int) (w : World) (hq : Qs w A Q) (hr : As w B L) (hQ : Q.length ≤ 100) (hcq : L.length ≤ cq) (hL : L.length ≤ 9223372036854775807) (hn : i64r n) (hm : i64r m) : Calls Try.prog 32 #[.slice A Q.length cp, .slice B L.length cq, .int .i64 n, .int .i64 m] w (SvR (svN Q L n m) (svR Q L n m) (svE Q L) w) := by
  have HQ := hide (fun w' (h : Below w.heap.size w w') => hq.below h)
  have CK := hide (fun w' (h : Below w.heap.size w w') => rqcheck_any A cp Q w' (hq.below h) (by omega))
  have AK := hide (fun w' (h : Below w.heap.size w w') => rcheck_any B cq L w' (hr.below h) hL)
  have K := hide (brefl w)
  unfold SvR
  by_cases h1 : ckQ Q = 0
  rotate_left 1
  · have e := sv_ck (L := L) h1
    obtain ⟨b1, b2⟩ := sv_bad (n := n) (m := m) (show svE Q L ≠ 0 by rw [e]; exact h1)
    rw [b1, b2, e]
    have b := ne_bool h1
    generalize ckQ Q = se at *
    clear b1 b2 h1 hq hr e
    go_enter Try.func32, Try.ntmps32
    go_wp2_with fail
    refine (CK.out _ K.out).mono ?_
    rintro e w2 ⟨rfl, hb⟩
    replace K := hide (btrans K.out hb)
    clear hb
    go_wp2
    go_ret3
    exact ⟨none, 0, rfl, owa_nil _ _, K.out⟩
  rw [h1] at CK
  by_cases h2 : chE L = 0
  rotate_left 1
  · have e := sv_ac h1 h2
    obtain ⟨b1, b2⟩ := sv_bad (n := n) (m := m) (show svE Q L ≠ 0 by rw [e]; exact h2)
    rw [b1, b2, e]
    have b := ne_bool h2
    generalize chE L = se at *
    clear b1 b2 h1 h2 hq hr e
    go_enter Try.func32, Try.ntmps32
    go_wp2_with fail
    refine (CK.out _ K.out).mono ?_
    rintro e w2 ⟨rfl, hb⟩
    replace K := hide (btrans K.out hb)
    clear hb
    go_wp2_with fail
    refine (AK.out _ K.out).mono ?_
    rintro e w3 ⟨rfl, hb⟩
    replace K := hide (btrans K.out hb)
    clear hb
    go_wp2
    go_ret3
    exact ⟨none, 0, rfl, owa_nil _ _, K.out⟩
  rw [h2] at AK
  have CL := hide (fun w' (h : Below w.heap.size w w') => copy_any B L cq w' (hr.below h) (by have := (vd_of h2).len.2; omega))
  unfold LR at CL
  have E6 := hide (fun (h3 : ¬ accs Q L) => (⟨sv_6 h1 h2 h3, sv_bad (n := n) (m := m) (show svE Q L ≠ 0 by rw [sv_6 h1 h2 h3]; omega)⟩ : svE Q L = 6 ∧ svN Q L n m = 0 ∧ svR Q L n m = []))
  have E0 := hide (fun (h3 : accs Q L) => sv_0 h1 h2 h3)
  obtain ⟨n0, hn0⟩ : ∃ x, x = svN Q L n m := ⟨_, rfl⟩
  obtain ⟨r0, hr0⟩ : ∃ x, x = svR Q L n m := ⟨_, rfl⟩
  obtain ⟨sq, hs0⟩ : ∃ x, x = svE Q L := ⟨_, rfl⟩
  rw [← hn0, ← hr0, ← hs0]
  rw [← hn0, ← hr0, ← hs0] at E6
  have HN0 := hide hn0
  have HR0 := hide hr0
  have HS0 := hide hs0
  clear hn0 hr0 hs0 h1 h2 hq hr
  go_enter Try.func32, Try.ntmps32
  go_wp2_with fail
  refine (CK.out _ K.out).mono ?_
  rintro e w2 ⟨rfl, hb⟩
  replace K := hide (btrans K.out hb)
  clear hb
  go_wp2_with fail
  refine (AK.out _ K.out).mono ?_
  rintro e w3 ⟨rfl, hb⟩
  replace K := hide (btrans K.out hb)
  clear hb
  go_wp2
  go_loop [12] (fun i => ∃ k : Nat, k ≤ Q.length ∧ i = .int .i64 k ∧ Hid (∀ j, j < k → (qAt Q j).ac < L.length)) (fun i => Q.length - (intOf i).toNat)
  case atStart => exact ⟨0, Nat.zero_le _, rfl, hide (fun j h => by omega)⟩
  case round =>
    obtain ⟨k, hk, rfl, N⟩ := hrel
    by_cases hlt : k < Q.length
    · have hl2 : (k : Int) < (Q.length : Int) := by omega
      have hk0 : (0 : Int) ≤ (k : Int) := by omega
      obtain ⟨b, off, rfl, hbl, -, y1, -, -⟩ := (HQ.out _ K.out).cells (brefl _) hlt
      have NX := hide (fun (h : (qAt Q k).ac < L.length) => all_next (P := fun j => (qAt Q j).ac < L.length) N.out h)
      have BD := hide (fun (h : ¬ (qAt Q k).ac < L.length) => E6.out (fun g => h (g k hlt)))
      obtain ⟨a, ha⟩ : ∃ a, a = (qAt Q k).ac := ⟨_, rfl⟩
      rw [← ha] at y1 NX BD
      clear ha
      by_cases h : a < L.length
      · have G := hide (NX.out h)
        clear NX BD
        go_wp2
        go_round
        case rel => exact ⟨k + 1, by omega, by go_num, G⟩
        case measure => simp [intOf]; omega
      · obtain ⟨g1, g2, g3⟩ := BD.out h
        have G1 := hide g1
        have G2 := hide g2
        have G3 := hide g3
        have h' : (L.length : Int) ≤ a := by omega
        clear NX BD g1 g2 g3
        go_wp2
        go_ret3
        refine ⟨none, 0, ?_, ?_, K.out⟩
        · rw [G1.out, G2.out, G3.out]; rfl
        · rw [G3.out]; exact owa_nil _ _
    · obtain rfl : k = Q.length := by omega
      have h0 := E0.out (fun j hj => N.out j hj)
      clear E6 E0 N
      obtain ⟨e1, e2, e3⟩ := sv_ok h0
      have V := vd_of e2
      have AO := hide (ckQ_ok e1).1
      have AC := hide e3
      have L8 := V.len
      have S0 := hide (sk_0 (Q := Q) (n := n) (m := m) V)
      have EG := sv_good (n := n) (m := m) h0
      have EKN := hide (fun k (h : svK Q L n m = k) => (⟨EG.1.trans h, EG.2.trans (by rw [h])⟩ : svN Q L n m = k ∧ svR Q L n m = svL Q L k))
      obtain ⟨sn, hsn⟩ : ∃ x, x = svN Q L n m := ⟨_, rfl⟩
      obtain ⟨sr, hsr⟩ : ∃ x, x = svR Q L n m := ⟨_, rfl⟩
      rw [← hsn, ← hsr] at EKN
      have HN := hide (HN0.out.trans hsn.symm)
      have HR := hide (HR0.out.trans hsr.symm)
      have HS := hide (HS0.out.trans h0)
      clear HN0 HR0 HS0
      have hn := hn
      have hm := hm
      unfold i64r at hn hm
      clear hsn hsr EG e1 e3
      clear h0 V e2
      go_wp2_with fail
      refine (CL.out _ K.out).mono ?_
      rintro e w4 ⟨A1, c1, rfl, hO, hb⟩
      have O := hide (row_mono hO K.out.size)
      replace K := hide (btrans K.out hb)
      clear hb hO CL
      go_wp2
      go_loopw [14, 13, 2, 3, 15, 16] (fun i v nv mv _ _ wr => ∃ (k : Nat) (A1 : Option Addr) (c1 : Nat), k ≤ Q.length ∧ i = .int .i64 k ∧ v = .slice A1 (svL Q L k).length c1 ∧ nv = .int .i64 (n - sumK Q k) ∧ mv = .int .i64 (m - sumT Q k) ∧ Hid (OwA w.heap.size wr (.slice A1 (svL Q L k).length c1) (svL Q L k)) ∧ Hid (Below w.heap.size w wr) ∧ Hid (Sk Q L n m k)) (fun i _ _ _ _ _ _ => Q.length - (intOf i).toNat)
      case atStart => exact ⟨0, A1, c1, Nat.zero_le _, rfl, rfl, by show _ = Value.int .i64 (n - 0); simp, by show _ = Value.int .i64 (m - 0); simp, O, K, S0⟩
      case round =>
        clear K O S0
        obtain ⟨k, A1, c1, hk, rfl, rfl, rfl, rfl, O, K, S⟩ := hrel
        by_cases hlt : k < Q.length
        · have hl2 : (k : Int) < (Q.length : Int) := by omega
          have hk0 : (0 : Int) ≤ (k : Int) := by omega
          have hQk := S.out.vd.len.2
          have QK := hide ((HQ.out _ K.out).cells (brefl _) hlt)
          have ok := AO.out k hlt
          have hac := AC.out k hlt
          have SI := hide (fun hg => sk_in S.out ok hac hg)
          have SN := hide (fun hg => sk_next S.out ok hac hg)
          have SE := hide (fun (hg : ¬ gr Q L n m k) => EKN.out k (svK_eq S.out.gr (by omega) (fun _ => hg)))
          have NN := hide (sh_nn (n := n - sumK Q k) (m := m - sumT Q k) S.out.vd ok (by rw [S.out.len]; exact hac))
          have eL : svL Q L (k + 1) = adL (svL Q L k) (qAt Q k).ac (tot (qAt Q k)) := rfl
          have eK : sumK Q (k + 1) = sumK Q k + (qAt Q k).ke := rfl
          have eT : sumT Q (k + 1) = sumT Q k + tot (qAt Q k) := rfl
          have eG : gr Q L n m k = ((shS (qAt Q k) (svL Q L k) (n - sumK Q k) (m - sumT Q k)).c ≤ 0) := rfl
          have hlM := S.out.len
          have hV := S.out.vd
          have nb := S.out.n1
          have mb := S.out.m1
          have nc := S.out.n0
          have mc := S.out.m0
          have hlo : -9223372036854775808 ≤ n - sumK Q k := by omega
          have hlp : -9223372036854775808 ≤ m - sumT Q k := by omega
          rw [eG] at SI SN SE
          obtain ⟨a, ha⟩ : ∃ a, a = qAt Q k := ⟨_, rfl⟩
          obtain ⟨M, hM⟩ : ∃ M, M = svL Q L k := ⟨_, rfl⟩
          obtain ⟨nn, hnn⟩ : ∃ x, x = n - sumK Q k := ⟨_, rfl⟩
          obtain ⟨mm, hmm⟩ : ∃ x, x = m - sumT Q k := ⟨_, rfl⟩
          have eK2 : n - sumK Q (k + 1) = nn - (qAt Q k).ke := by omega
          have eT2 : m - sumT Q (k + 1) = mm - tot (qAt Q k) := by omega
          rw [← hM, ← hnn, ← hmm] at SI NN
          rw [← hM, ← hnn, ← hmm] at SN
          rw [← hM, ← hnn, ← hmm] at SE
          rw [← hM] at eL hlM hV
          rw [← hnn] at hlo nb nc
          rw [← hmm] at hlp mb mc
          rw [← hM] at O
          rw [← hM, ← hnn, ← hmm]
          rw [← ha] at QK ok hac SI SN SE NN eL eK2 eT2
          have EL := hide eL
          have LEM := hide hM
          have EK2 := hide eK2
          have ET2 := hide eT2
          have HA := hide ha
          clear eL eK eT eG eK2 eT2 ha hM hnn hmm S
          obtain ⟨pc, ac, ke, us⟩ := a
          dsimp only at QK hac SI SN SE NN EL EK2 ET2
          have TT : tot ⟨pc, ac, ke, us⟩ = ke + us := rfl
          rw [TT] at SI EL ET2
          clear TT
          obtain ⟨b, off, rfl, hbl, y0, y1, y2, y3⟩ := QK.out
          have i1 := ok.2.2.1
          have i2 := ok.2.2.2
          have i0 := ok.2.1
          unfold inr at i1 i2
          dsimp only at i1 i2 i0
          obtain ⟨a1, a2⟩ := i1
          obtain ⟨d1, d2⟩ := i2
          have TQ := hide (fun w => rtot_q pc ac ke us w ok)
          obtain ⟨hA1, hcM⟩ := owa_as O.out
          have YC := (fun W (hW : Below wr.heap.size wr W) => Qs.at (L := Q) (((HQ.out _ K.out).below hW)) hlt)
          rw [← HA.out] at YC
          dsimp only at YC
          replace YC := hide YC
          clear HA
          have SC := fun w' (h : Below wr.heap.size wr w') => rshort_any pc ac ke us A1 c1 M nn mm w' (hA1.below h) hcM (by omega)
          unfold ShR at SC
          have e9 := sh_ok (n := nn) (m := mm) ok (mE_0 (chE_0 hV) ⟨i0, show ac < M.length by omega⟩)
          rw [← e9.1, ← e9.2] at SC
          replace SC := hide SC
          have CG := hide (fun (hs : stp M (ke + us) (pth M ac) = -1) (ht : inr (ke + us)) w' (h : Below wr.heap.size wr w') => rcharge_any A1 c1 M ac (ke + us) w' (hA1.below h) hcM (by omega))
          have CO := hide (fun (hs : stp M (ke + us) (pth M ac) = -1) (ht : inr (ke + us)) => cgR_ok hV i0 (show ac < M.length by omega) ht hs)
          have KR := hide (brefl wr)
          clear hA1 ok hlM nc mc hV e9
          obtain ⟨ss, hss⟩ : ∃ s, s = shS ⟨pc, ac, ke, us⟩ M nn mm := ⟨_, rfl⟩
          rw [← hss] at SC SI SN SE NN
          clear hss
          obtain ⟨s0, s1, s2⟩ := ss
          dsimp only at SC SI SN SE NN
          go_wp2_with fail
          refine (SC.out _ KR.out).mono ?_
          rintro e wb ⟨rfl, hb⟩
          replace K := hide (btrans K.out hb)
          replace KR := hide (btrans KR.out hb)
          replace O := hide (row_below O.out hb)
          clear hb y0 y1 y2 y3 SC
          go_upto_region 17 with fail
          have Mm := bal (brefl wb) (.cells #[.int .i64 s0, .int .i64 s1, .bool s2] 38)
          have Z := hide (SB.new wb s0 s1 s2)
          replace K := hide (btrans K.out Mm)
          replace KR := hide (btrans KR.out Mm)
          replace O := hide (row_below O.out Mm)
          obtain ⟨b15, hb15⟩ : ∃ x, x = wb.heap.size := ⟨_, rfl⟩
          rw [← hb15] at Z ⊢
          clear hb15 Mm
          generalize wb.alloc (.cells #[.int .i64 s0, .int .i64 s1, .bool s2] 38) = wc at *
          obtain ⟨z0, z1, z2⟩ := SB.cells Z.out
          have nn0 := NN.out
          by_cases hc : 0 < s0
          · have EN := hide (SE.out (by omega)).1
            have ER := hide (SE.out (by omega)).2
            have d1 : (s0 != 0) = true := bne_iff_ne.2 (by omega)
            clear SE SI SN NN CG CO
            go_wp2
            go_ret3
            refine ⟨A1, c1, ?_, ?_, K.out⟩
            · rw [HN.out, HR.out, HS.out, EN.out, ER.out]; rfl
            · rw [HR.out, ER.out]; exact O.out
          · obtain ⟨g1, g2, g3, g4, g5⟩ := SI.out (by omega)
            have S' := hide (SN.out (by omega))
            have co := CO.out g1 g4
            have CG2 := hide (CG.out g1 g4)
            unfold CgR at CG2
            rw [co.1, co.2.1, co.2.2, ← EL.out] at CG2
            have hlen2 := hide (show (svL Q L (k + 1)).length ≤ 8 from S'.out.vd.len.2)
            obtain rfl : s0 = 0 := by omega
            clear SE SI SN NN CG CO hc g1 g5 co
            go_upto_region 19 with fail
            replace K := hide (show Below w.heap.size w wc.drew from btrans K.out (below_drewN (brefl _) 1))
            replace KR := hide (show Below wr.heap.size wr wc.drew from btrans KR.out (below_drewN (brefl _) 1))
            clear z0 z1 z2
            refine wp_region_noPanic ?_
            refine wp_region_held_drew (S := (fun W => W.cell? ⟨b, off + k * 4, none⟩ = some (.int .i64 pc) ∧ W.cell? ⟨b, off + k * 4 + 1, none⟩ = some (.int .i64 ac) ∧ W.cell? ⟨b, off + k * 4 + 2, none⟩ = some (.int .i64 ke) ∧ W.cell? ⟨b, off + k * 4 + 3, none⟩ = some (.int .i64 us))) (by kernel_rfl) ?_ (fun hHeld => ?_)
            · exact YC.out _ KR.out
            refine wpAnyH_take (i := 0) (oi := ⟨some 66, _, _, _, _, _⟩) (v := ?_) rfl (by kernel_rfl) (by kernel_rfl) (by kernel_rfl) (fun _ _ _ h => h) (Or.inl ⟨by kernel_rfl, ?_⟩) (by assumption) ?_
            rotate_left 1
            · (intro w hSw; (try dsimp only at hSw); go_simp) <;> (with_reducible rfl)
            (try simp only [Act.put, List.setIfInBounds_toArray, List.set_cons_succ, List.set_cons_zero])
            refine wpAnyH_take (i := 1) (oi := ⟨some 67, _, _, _, _, _⟩) (v := ?_) rfl (by kernel_rfl) (by kernel_rfl) (by kernel_rfl) (fun _ _ _ h => h) (Or.inl ⟨by kernel_rfl, ?_⟩) (by assumption) ?_
            rotate_left 1
            · (intro w hSw; (try dsimp only at hSw); go_simp) <;> (with_reducible rfl)
            (try simp only [Act.put, List.setIfInBounds_toArray, List.set_cons_succ, List.set_cons_zero])
            refine wpAnyH_take (i := 2) (oi := ⟨some 68, _, _, _, _, _⟩) (v := ?_) rfl (by kernel_rfl) (by kernel_rfl) (by kernel_rfl) (fun _ _ _ h => h) (Or.inl ⟨by kernel_rfl, ?_⟩) (by assumption) ?_
            rotate_left 1
            · (intro w hSw; (try dsimp only at hSw); go_simp) <;> (with_reducible rfl)
            (try simp only [Act.put, List.setIfInBounds_toArray, List.set_cons_succ, List.set_cons_zero])
            refine wpAnyH_take (i := 3) (oi := ⟨some 69, _, _, _, _, _⟩) (v := ?_) rfl (by kernel_rfl) (by kernel_rfl) (by kernel_rfl) (fun _ _ _ h => h) (Or.inl ⟨by kernel_rfl, ?_⟩) (by assumption) ?_
            rotate_left 1
            · (intro w hSw; (try dsimp only at hSw); go_simp) <;> (with_reducible rfl)
            (try simp only [Act.put, List.setIfInBounds_toArray, List.set_cons_succ, List.set_cons_zero])
            refine wpAnyH_take (i := 4) (oi := ⟨some 70, _, _, _, _, _⟩) (v := ?_) rfl (by kernel_rfl) (by kernel_rfl) (by kernel_rfl) (fun _ _ _ h => h) (Or.inl ⟨by kernel_rfl, ?_⟩) (by assumption) ?_
            rotate_left 1
            · (intro w hSw; (try dsimp only at hSw); go_simp) <;> (with_reducible rfl)
            (try simp only [Act.put, List.setIfInBounds_toArray, List.set_cons_succ, List.set_cons_zero])
            refine wpAnyH_take (i := 5) (oi := ⟨some 71, _, _, _, _, _⟩) (v := ?_) rfl (by kernel_rfl) (by kernel_rfl) (by kernel_rfl) (fun _ _ _ h => h) (Or.inl ⟨by kernel_rfl, ?_⟩) (by assumption) ?_
            rotate_left 1
            · (intro w hSw; (try dsimp only at hSw); go_simp) <;> (with_reducible rfl)
            (try simp only [Act.put, List.setIfInBounds_toArray, List.set_cons_succ, List.set_cons_zero])
            refine wpAnyH_take (i := 6) (oi := ⟨some 72, _, _, _, _, _⟩) (v := ?_) rfl (by kernel_rfl) (by kernel_rfl) (by kernel_rfl) (fun _ _ _ h => h) (Or.inl ⟨by kernel_rfl, ?_⟩) (by assumption) ?_
            rotate_left 1
            · (intro w hSw; (try dsimp only at hSw); go_simp) <;> (with_reducible rfl)
            (try simp only [Act.put, List.setIfInBounds_toArray, List.set_cons_succ, List.set_cons_zero])
            refine wpAnyH_take (i := 7) (oi := ⟨some 73, _, _, _, _, _⟩) (v := ?_) rfl (by kernel_rfl) (by kernel_rfl) (by kernel_rfl) (fun _ _ _ h => h) (Or.inl ⟨by kernel_rfl, ?_⟩) (by assumption) ?_
            rotate_left 1
            · (intro w hSw; (try dsimp only at hSw); go_simp) <;> (with_reducible rfl)
            (try simp only [Act.put, List.setIfInBounds_toArray, List.set_cons_succ, List.set_cons_zero])
            refine wpAnyH_take (i := 8) (oi := ⟨some 74, _, _, _, _, _⟩) (v := ?_) rfl (by kernel_rfl) (by kernel_rfl) (by kernel_rfl) (fun _ _ _ h => h) (Or.inl ⟨by kernel_rfl, ?_⟩) (by assumption) ?_
            rotate_left 1
            · (intro w hSw; (try dsimp only at hSw); go_simp) <;> (with_reducible rfl)
            (try simp only [Act.put, List.setIfInBounds_toArray, List.set_cons_succ, List.set_cons_zero])
            refine wpAnyH_take (i := 9) (oi := ⟨some 75, _, _, _, _, _⟩) (v := ?_) rfl (by kernel_rfl) (by kernel_rfl) (by kernel_rfl) (fun _ _ _ h => h) (Or.inl ⟨by kernel_rfl, ?_⟩) (by assumption) ?_
            rotate_left 1
            · (intro w hSw; (try dsimp only at hSw); go_simp) <;> (with_reducible rfl)
            (try simp only [Act.put, List.setIfInBounds_toArray, List.set_cons_succ, List.set_cons_zero])
            refine wpAnyH_ready (rs := [10]) (by kernel_rfl) (by simp) ?_
            refine AllReadyH.cons (o := ⟨some 76, _, _, _, _, _⟩) rfl (fun K' hK => ?_) AllReadyH.nil
            go_simp
            refine (TQ.out _).mono ?_
            rintro e wd ⟨rfl, hb⟩
            replace K := hide (btrans K.out hb)
            replace KR := hide (btrans KR.out hb)
            clear hb
            refine hK.out _ _ ?_ (fun hHeld => ?_)
            · exact YC.out _ KR.out
            clear hK K'
            (try simp only [Act.put, List.setIfInBounds_toArray, List.set_cons_succ, List.set_cons_zero])
            refine wpAnyH_ready (rs := [11]) (by kernel_rfl) (by simp) ?_
            refine AllReadyH.cons (o := ⟨some 77, _, _, _, _, _⟩) rfl (fun K' hK => ?_) AllReadyH.nil
            go_simp
            refine (CG2.out _ KR.out).mono ?_
            rintro e we ⟨A2, c2, rfl, hO, hb⟩
            have O2 := hide (row_mono hO K.out.size)
            replace K := hide (btrans K.out hb)
            replace KR := hide (btrans KR.out hb)
            clear hb hO
            refine hK.out _ _ ?_ (fun hHeld => ?_)
            · exact YC.out _ KR.out
            clear hK K'
            (try simp only [Act.put, List.setIfInBounds_toArray, List.set_cons_succ, List.set_cons_zero])
            refine wpAnyH_take (i := 12) (oi := ⟨some 65, _, _, _, _, _⟩) (v := ?_) rfl (by kernel_rfl) (by kernel_rfl) (by kernel_rfl) (fun _ _ _ h => h) (Or.inl ⟨by kernel_rfl, ?_⟩) (by assumption) ?_
            rotate_left 1
            · (intro w hSw; (try dsimp only at hSw); go_simp) <;> (with_reducible rfl)
            (try simp only [Act.put, List.setIfInBounds_toArray, List.set_cons_succ, List.set_cons_zero])
            refine wpAnyH_take (i := 13) (oi := ⟨some 78, _, _, _, _, _⟩) (v := ?_) rfl (by kernel_rfl) (by kernel_rfl) (by kernel_rfl) (fun _ _ _ h => h) (Or.inl ⟨by kernel_rfl, ?_⟩) (by assumption) ?_
            rotate_left 1
            · (intro w hSw; (try dsimp only at hSw); go_simp) <;> (with_reducible rfl)
            (try simp only [Act.put, List.setIfInBounds_toArray, List.set_cons_succ, List.set_cons_zero])
            refine wpAnyH_take (i := 14) (oi := ⟨some 79, _, _, _, _, _⟩) (v := ?_) rfl (by kernel_rfl) (by kernel_rfl) (by kernel_rfl) (fun _ _ _ h => h) (Or.inl ⟨by kernel_rfl, ?_⟩) (by assumption) ?_
            rotate_left 1
            · (intro w hSw; (try dsimp only at hSw); go_simp) <;> (with_reducible rfl)
            (try simp only [Act.put, List.setIfInBounds_toArray, List.set_cons_succ, List.set_cons_zero])
            refine wpAnyH_take (i := 15) (oi := ⟨some 80, _, _, _, _, _⟩) (v := ?_) rfl (by kernel_rfl) (by kernel_rfl) (by kernel_rfl) (fun _ _ _ h => h) (Or.inl ⟨by kernel_rfl, ?_⟩) (by assumption) ?_
            rotate_left 1
            · (intro w hSw; (try dsimp only at hSw); go_simp) <;> (with_reducible rfl)
            (try simp only [Act.put, List.setIfInBounds_toArray, List.set_cons_succ, List.set_cons_zero])
            refine wpAnyH_take (i := 16) (oi := ⟨some 13, _, _, _, _, _⟩) (v := ?_) rfl (by kernel_rfl) (by kernel_rfl) (by kernel_rfl) (fun _ _ _ h => h) (Or.inl ⟨by kernel_rfl, ?_⟩) (by assumption) ?_
            rotate_left 1
            · (intro w hSw; (try dsimp only at hSw); go_simp) <;> (with_reducible rfl)
            (try simp only [Act.put, List.setIfInBounds_toArray, List.set_cons_succ, List.set_cons_zero])
            refine wpAnyH_done (by kernel_rfl) ?_ _
            refine NoPanic.normal ?_
            go_upto_region 20 with fail
            replace K := hide (show Below w.heap.size w we.drew from btrans K.out (below_drewN (brefl _) 1))
            replace KR := hide (show Below wr.heap.size wr we.drew from btrans KR.out (below_drewN (brefl _) 1))
            replace O2 := hide (row_below O2.out (show Below we.heap.size we we.drew from below_drewN (brefl _) 1))
            have w1 : IntKind.i64.wrap (nn - ke) = nn - ke := IntWalk.i64_in _ (by omega)
            have w2 : IntKind.i64.wrap (mm - (ke + us)) = mm - (ke + us) := IntWalk.i64_in _ (by omega)
            refine wp_region_noPanic ?_
            refine wp_region_held_drew (S := (fun W => W.cell? ⟨b, off + k * 4, none⟩ = some (.int .i64 pc) ∧ W.cell? ⟨b, off + k * 4 + 1, none⟩ = some (.int .i64 ac) ∧ W.cell? ⟨b, off + k * 4 + 2, none⟩ = some (.int .i64 ke) ∧ W.cell? ⟨b, off + k * 4 + 3, none⟩ = some (.int .i64 us))) (by kernel_rfl) ?_ (fun hHeld => ?_)
            · exact YC.out _ KR.out
            refine wpAnyH_take (i := 0) (oi := ⟨some 81, _, _, _, _, _⟩) (v := ?_) rfl (by kernel_rfl) (by kernel_rfl) (by kernel_rfl) (fun _ _ _ h => h) (Or.inl ⟨by kernel_rfl, ?_⟩) (by assumption) ?_
            rotate_left 1
            · (intro w hSw; (try dsimp only at hSw); go_simp) <;> (with_reducible rfl)
            (try simp only [Act.put, List.setIfInBounds_toArray, List.set_cons_succ, List.set_cons_zero])
            refine wpAnyH_take (i := 1) (oi := ⟨some 82, _, _, _, _, _⟩) (v := ?_) rfl (by kernel_rfl) (by kernel_rfl) (by kernel_rfl) (fun _ _ _ h => h) (Or.inl ⟨by kernel_rfl, ?_⟩) (by assumption) ?_
            rotate_left 1
            · (intro w hSw; (try dsimp only at hSw); go_simp) <;> (with_reducible rfl)
            (try simp only [Act.put, List.setIfInBounds_toArray, List.set_cons_succ, List.set_cons_zero])
            refine wpAnyH_take (i := 2) (oi := ⟨some 83, _, _, _, _, _⟩) (v := ?_) rfl (by kernel_rfl) (by kernel_rfl) (by kernel_rfl) (fun _ _ _ h => h) (Or.inl ⟨by kernel_rfl, ?_⟩) (by assumption) ?_
            rotate_left 1
            · (intro w hSw; (try dsimp only at hSw); go_simp) <;> (with_reducible rfl)
            (try simp only [Act.put, List.setIfInBounds_toArray, List.set_cons_succ, List.set_cons_zero])
            refine wpAnyH_take (i := 3) (oi := ⟨some 84, _, _, _, _, _⟩) (v := ?_) rfl (by kernel_rfl) (by kernel_rfl) (by kernel_rfl) (fun _ _ _ h => h) (Or.inl ⟨by kernel_rfl, ?_⟩) (by assumption) ?_
            rotate_left 1
            · (intro w hSw; (try dsimp only at hSw); go_simp) <;> (with_reducible rfl)
            (try simp only [Act.put, List.setIfInBounds_toArray, List.set_cons_succ, List.set_cons_zero])
            refine wpAnyH_take (i := 4) (oi := ⟨some 85, _, _, _, _, _⟩) (v := ?_) rfl (by kernel_rfl) (by kernel_rfl) (by kernel_rfl) (fun _ _ _ h => h) (Or.inl ⟨by kernel_rfl, ?_⟩) (by assumption) ?_
            rotate_left 1
            · (intro w hSw; (try dsimp only at hSw); go_simp) <;> (with_reducible rfl)
            (try simp only [Act.put, List.setIfInBounds_toArray, List.set_cons_succ, List.set_cons_zero])
            refine wpAnyH_take (i := 5) (oi := ⟨some 86, _, _, _, _, _⟩) (v := ?_) rfl (by kernel_rfl) (by kernel_rfl) (by kernel_rfl) (fun _ _ _ h => h) (Or.inl ⟨by kernel_rfl, ?_⟩) (by assumption) ?_
            rotate_left 1
            · (intro w hSw; (try dsimp only at hSw); go_simp) <;> (with_reducible rfl)
            (try simp only [Act.put, List.setIfInBounds_toArray, List.set_cons_succ, List.set_cons_zero])
            refine wpAnyH_take (i := 6) (oi := ⟨some 87, _, _, _, _, _⟩) (v := ?_) rfl (by kernel_rfl) (by kernel_rfl) (by kernel_rfl) (fun _ _ _ h => h) (Or.inl ⟨by kernel_rfl, ?_⟩) (by assumption) ?_
            rotate_left 1
            · (intro w hSw; (try dsimp only at hSw); go_simp) <;> (with_reducible rfl)
            (try simp only [Act.put, List.setIfInBounds_toArray, List.set_cons_succ, List.set_cons_zero])
            refine wpAnyH_take (i := 7) (oi := ⟨some 88, _, _, _, _, _⟩) (v := ?_) rfl (by kernel_rfl) (by kernel_rfl) (by kernel_rfl) (fun _ _ _ h => h) (Or.inl ⟨by kernel_rfl, ?_⟩) (by assumption) ?_
            rotate_left 1
            · (intro w hSw; (try dsimp only at hSw); go_simp) <;> (with_reducible rfl)
            (try simp only [Act.put, List.setIfInBounds_toArray, List.set_cons_succ, List.set_cons_zero])
            refine wpAnyH_take (i := 8) (oi := ⟨some 89, _, _, _, _, _⟩) (v := ?_) rfl (by kernel_rfl) (by kernel_rfl) (by kernel_rfl) (fun _ _ _ h => h) (Or.inl ⟨by kernel_rfl, ?_⟩) (by assumption) ?_
            rotate_left 1
            · (intro w hSw; (try dsimp only at hSw); go_simp) <;> (with_reducible rfl)
            (try simp only [Act.put, List.setIfInBounds_toArray, List.set_cons_succ, List.set_cons_zero])
            refine wpAnyH_take (i := 9) (oi := ⟨some 90, _, _, _, _, _⟩) (v := ?_) rfl (by kernel_rfl) (by kernel_rfl) (by kernel_rfl) (fun _ _ _ h => h) (Or.inl ⟨by kernel_rfl, ?_⟩) (by assumption) ?_
            rotate_left 1
            · (intro w hSw; (try dsimp only at hSw); go_simp) <;> (with_reducible rfl)
            (try simp only [Act.put, List.setIfInBounds_toArray, List.set_cons_succ, List.set_cons_zero])
            refine wpAnyH_take (i := 10) (oi := ⟨some 91, _, _, _, _, _⟩) (v := ?_) rfl (by kernel_rfl) (by kernel_rfl) (by kernel_rfl) (fun _ _ _ h => h) (Or.inl ⟨by kernel_rfl, ?_⟩) (by assumption) ?_
            rotate_left 1
            · (intro w hSw; (try dsimp only at hSw); go_simp) <;> (with_reducible rfl)
            (try simp only [Act.put, List.setIfInBounds_toArray, List.set_cons_succ, List.set_cons_zero])
            refine wpAnyH_take (i := 11) (oi := ⟨some 92, _, _, _, _, _⟩) (v := ?_) rfl (by kernel_rfl) (by kernel_rfl) (by kernel_rfl) (fun _ _ _ h => h) (Or.inl ⟨by kernel_rfl, ?_⟩) (by assumption) ?_
            rotate_left 1
            · (intro w hSw; (try dsimp only at hSw); go_simp) <;> (with_reducible rfl)
            (try simp only [Act.put, List.setIfInBounds_toArray, List.set_cons_succ, List.set_cons_zero])
            refine wpAnyH_ready (rs := [12]) (by kernel_rfl) (by simp) ?_
            refine AllReadyH.cons (o := ⟨some 93, _, _, _, _, _⟩) rfl (fun K' hK => ?_) AllReadyH.nil
            go_simp
            refine (TQ.out _).mono ?_
            rintro e wg ⟨rfl, hb⟩
            replace K := hide (btrans K.out hb)
            replace KR := hide (btrans KR.out hb)
            replace O2 := hide (row_below O2.out hb)
            clear hb
            refine hK.out _ _ ?_ (fun hHeld => ?_)
            · exact YC.out _ KR.out
            clear hK K'
            (try simp only [Act.put, List.setIfInBounds_toArray, List.set_cons_succ, List.set_cons_zero])
            refine wpAnyH_take (i := 13) (oi := ⟨some 94, _, _, _, _, _⟩) (v := ?_) rfl (by kernel_rfl) (by kernel_rfl) (by kernel_rfl) (fun _ _ _ h => h) (Or.inl ⟨by kernel_rfl, ?_⟩) (by assumption) ?_
            rotate_left 1
            · (intro w hSw; (try dsimp only at hSw); go_simp) <;> (with_reducible rfl)
            (try simp only [Act.put, List.setIfInBounds_toArray, List.set_cons_succ, List.set_cons_zero])
            refine wpAnyH_take (i := 14) (oi := ⟨some 2, _, _, _, _, _⟩) (v := ?_) rfl (by kernel_rfl) (by kernel_rfl) (by kernel_rfl) (fun _ _ _ h => h) (Or.inl ⟨by kernel_rfl, ?_⟩) (by assumption) ?_
            rotate_left 1
            · (intro w hSw; (try dsimp only at hSw); go_simp) <;> (with_reducible rfl)
            (try simp only [Act.put, List.setIfInBounds_toArray, List.set_cons_succ, List.set_cons_zero])
            refine wpAnyH_take (i := 15) (oi := ⟨some 3, _, _, _, _, _⟩) (v := ?_) rfl (by kernel_rfl) (by kernel_rfl) (by kernel_rfl) (fun _ _ _ h => h) (Or.inl ⟨by kernel_rfl, ?_⟩) (by assumption) ?_
            rotate_left 1
            · (intro w hSw; (try dsimp only at hSw); go_simp) <;> (with_reducible rfl)
            (try simp only [Act.put, List.setIfInBounds_toArray, List.set_cons_succ, List.set_cons_zero])
            refine wpAnyH_done (by kernel_rfl) ?_ _
            refine NoPanic.normal ?_
            go_wp2
            go_roundw
            case rel => exact ⟨k + 1, A2, c2, by omega, by go_num, rfl, by rw [EK2.out], by rw [ET2.out], O2, K, S'⟩
            case measure => simp [intOf]; omega
        · obtain rfl : k = Q.length := by omega
          have EN := hide (EKN.out _ (svK_eq S.out.gr (Nat.le_refl _) (fun h => by omega))).1
          have ER := hide (EKN.out _ (svK_eq S.out.gr (Nat.le_refl _) (fun h => by omega))).2
          clear EKN
          go_wp2
          go_ret3
          refine ⟨A1, c1, ?_, ?_, K.out⟩
          · rw [HN.out, HR.out, HS.out, EN.out, ER.out]; rfl
          · rw [HR.out, ER.out]; exact O.out
end Go.Proofs.Ytimclgmajhhheaa.Gr
