import Derived.Test.YtncdilkcblakhaaT3b
namespace Go.Proofs.Ytncdilkcblakhaa.In
open Go Go.RowKit
set_option linter.unusedVariables false
set_option linter.unusedSimpArgs false
set_option maxRecDepth 100000 in
set_option maxHeartbeats 16000000 in
theorem law_whole (A : Option Addr) (c : Nat) (L : List Stp) (Ap : Option Addr) (cp : Nat) (ps : Fs) (w : World) (h : RdS w A L) (hok : OkS L) (hp : BsF w Ap ps) (hn : L.length ≤ 9223372036854775807) (hpn : ps.length ≤ 9223372036854775807) : Calls Try.prog 11 #[.slice A L.length c, .slice Ap ps.length cp] w (LawT w) := by
  obtain ⟨i0, hi0, hz0, hz1, hz2⟩ := info_parts info60
  have AW := hide (fun w => awake14_any w)
  unfold LawT
  by_cases h30 : 30 < L.length
  · have hgt : (30 : Int) < L.length := by omega
    clear h hp
    go_enter Try.func11, Try.ntmps11
    go_wp2_with fail
    refine (AW.out _).mono ?_
    rintro e w1 ⟨rfl, hb⟩
    have K := hide hb
    clear hb
    go_wp2_with fail
    refine (AW.out _).mono ?_
    rintro e w2 ⟨rfl, hb⟩
    replace K := hide (btrans K.out hb)
    clear hb
    go_wp2
    go_ret
    exact ⟨rfl, K.out⟩
  · have hgt : ¬ (30 : Int) < L.length := by omega
    by_cases h100 : 100 < ps.length
    · have hgt2 : (100 : Int) < ps.length := by omega
      clear h hp
      go_enter Try.func11, Try.ntmps11
      go_wp2_with fail
      refine (AW.out _).mono ?_
      rintro e w1 ⟨rfl, hb⟩
      have K := hide hb
      clear hb
      go_wp2_with fail
      refine (AW.out _).mono ?_
      rintro e w2 ⟨rfl, hb⟩
      replace K := hide (btrans K.out hb)
      clear hb
      go_wp2
      go_ret
      exact ⟨rfl, K.out⟩
    · have hgt2 : ¬ (100 : Int) < ps.length := by omega
      have hL30 : L.length ≤ 30 := by omega
      have HR := hide h
      have HP := hide hp
      have HOK := hide hok
      have hp100 : ps.length ≤ 100 := by omega
      clear h hp hok h30 h100
      have C1 := hide (fun w => inodeOf_any 1 1 w (by omega) (by omega))
      unfold IoR at C1
      rw [show sOf 1 = 1 from rfl, show mOf 1 1 = 1 from rfl, show bOf 1 1 = blk 1 1 from rfl] at C1
      go_enter Try.func11, Try.ntmps11
      go_wp2_with fail
      refine (AW.out _).mono ?_
      rintro e w1 ⟨rfl, hb⟩
      have K := hide hb
      clear hb AW
      go_wp2_with fail
      refine (C1.out _).mono ?_
      rintro e w2 ⟨A1, c1, rfl, hO, hc, hB⟩
      replace K := hide (btrans K.out hB)
      have HS := hide (show BsB w2 A1 (blk 1 1) from OwB.bs hO)
      have HC := hide hc
      clear hO hB C1 hc
      have RB := hide (rdB_new w2 A1 c1 (blk 1 1) HS.out (blk_len 1 1) HC.out)
      have C2 := hide (Dv.new_any 4 (some ⟨w2.heap.size, 0, none⟩) [blk 1 1] 1 (w2.alloc (.cells #[.slice A1 32 c1] 23)) RB.out (Nat.le_refl _) (by decide))
      rw [nwE_one (by omega) (blk_len 1 1), if_pos rfl] at C2
      unfold Dv.DvR2 at C2
      have IN := hide (Inv.new (s := 1) (m := 1) (by decide))
      generalize Dv.nwD 4 [blk 1 1] = D at *
      change Hid (Calls Try.prog 29 #[.int .i64 4, .slice (some ⟨w2.heap.size, 0, none⟩) 1 1] (w2.alloc (.cells #[.slice A1 32 c1] 23)) _) at C2
      have K2 := hide (bal K.out (.cells #[.slice A1 32 c1] 23))
      go_wp2_with fail
      refine C2.out.mono ?_
      rintro e w3 ⟨v, rfl, hD, hB⟩
      replace K := hide (btrans K2.out hB)
      obtain ⟨B1, d1, B2, d2, B3, d3, rfl⟩ := hD.form
      unfold Dv.dv at hD ⊢
      have KS := hide K.out.size
      have M := bal (brefl w3) (.cells (dvA D B1 d1 B2 d2 B3 d3) 57)
      have X := hide (show DB (w3.alloc (.cells (dvA D B1 d1 B2 d2 B3 d3) 57)) w3.heap.size D B1 d1 B2 d2 B3 d3 from ⟨Box.new w3 57 _, devown_below (devown_mono hD) M⟩)
      replace K := hide (btrans K.out M)
      clear hD hB C2 K2 RB HC M HS
      unfold dvA at X K
      go_upto_region 5 with fail
      obtain ⟨g, hg⟩ : ∃ g, g = w3.heap.size := ⟨_, rfl⟩
      have HG := hide (show w.heap.size ≤ g by rw [hg]; exact KS.out)
      rw [← hg] at X ⊢
      clear hg
      generalize w3.alloc (.cells #[.int .i64 D.dep, .int .i64 D.nxt, .slice B1 D.bl.length d1, .slice B2 D.ca.length d2, .slice B3 D.qu.length d3] 57) = w4 at *
      obtain ⟨B, hB⟩ : ∃ B, B = w.heap.size := ⟨_, rfl⟩
      have HB := hide hB
      rw [← hB] at HG KS
      replace K := hide (show Below B w w4 by rw [hB]; exact K.out)
      have HR2 := hide (fun w' (hb : Below B w w') => show RdS w' A L from fun hne => by
        obtain ⟨b, off, e, hl, hc⟩ := HR.out hne
        rw [hB] at hb
        refine ⟨b, off, e, Nat.lt_of_lt_of_le hl hb.size, fun k hk => ?_⟩
        obtain ⟨b', o', e', _, r⟩ := HR.out.cells hb hk
        rw [e] at e'; injection e' with e'; injection e' with e1 e2; subst e1 e2
        exact r)
      have HP2 := hide (fun w' (hb : Below B w w') => show Dv.RdT w' Ap ps from HP.out.below (by rw [← hB]; exact hb))
      clear HR HP hB
      have M := bal (brefl w4) (.cells #[.int .i64 1, .int .i64 1] 60)
      have SB := hide (show B ≤ w4.heap.size from Nat.le_trans HG.out (Nat.le_of_lt X.out.1.lt))
      have O := hide (show OwW B (w4.alloc (.cells #[.int .i64 1, .int .i64 1] 60)) (.slice (some ⟨w4.heap.size, 0, none⟩) 1 1) [(1, 1)] from ⟨rfl, .inr ⟨w4.heap.size, 1, #[.int .i64 1, .int .i64 1], rfl, SB.out, heap_alloc_new w4 _, Nat.le_refl _, by unfold maxLen; omega, rfl, rfl⟩⟩)
      replace X := hide (show ∃ A1 d1 A2 d2 A3 d3, DB (w4.alloc (.cells #[.int .i64 1, .int .i64 1] 60)) g D A1 d1 A2 d2 A3 d3 from ⟨_, _, _, _, _, _, X.out.below M⟩)
      replace K := hide (K.out.trans (M.mono SB.out))
      clear M SB
      go_wp2
      generalize w4.alloc (.cells #[.int .i64 1, .int .i64 1] 60) = w5 at *
      go_loopw [10, 60] (fun a i wx => ∃ (k : Nat) (ws : Wr) (D : Dv.Dev) (Aw : Option Addr) (nw cw : Nat), k ≤ L.length ∧ i = .int .i64 k ∧ a = .slice Aw nw cw ∧ Hid (ws.length = nw) ∧ nw ≤ k + 1 ∧ Hid (OwW B wx (.slice Aw nw cw) ws) ∧ Hid (Inv D ws) ∧ Hid (∃ A1 d1 A2 d2 A3 d3, DB wx g D A1 d1 A2 d2 A3 d3) ∧ Hid (Below B w wx)) (fun _ i _ => L.length - (intOf i).toNat)
      case atStart => exact ⟨0, [(1, 1)], D, _, 1, 1, Nat.zero_le _, rfl, rfl, hide rfl, by omega, O, IN, X, K⟩
      case round =>
        clear O IN X K
        obtain ⟨k, ws, D, Aw, nw, cw, hk, rfl, rfl, HN, hnw, O, IN, X, K⟩ := hrel
        by_cases hlt : k < L.length
        · have hl2 : (k : Int) < (L.length : Int) := by omega
          have hk0 : (0 : Int) ≤ (k : Int) := by omega
          obtain ⟨b, o, rfl, hb, c0, c1, c2, c3, c4⟩ := (HR2.out _ K.out).cells (brefl _) hlt
          have ok := HOK.out k hlt
          rcases hst : sAt L k with ⟨sz, mk, dn, fl, fs⟩
          rw [hst] at c0 c1 c2 c3 c4 ok
          clear hst
          simp only at c0 c1 c2 c3 c4 ok
          have C1 := hide (fun w => inodeOf_any sz mk w ok.1 ok.2)
          unfold IoR at C1
          have EB := hide (bOf_ok ok.1 ok.2)
          have EL := hide (show bOf sz mk = blk (sOf sz) (mOf sz mk) from rfl)
          clear ok
          generalize sOf sz = s at *
          generalize mOf sz mk = m at *
          rw [EL.out] at C1
          obtain ⟨A1, d1, A2, d2, A3, d3, X⟩ := X.out
          have M := bal (brefl wr) (.cells #[.int .u8 sz, .int .u16 mk, .bool dn, .bool fl, .bool fs] 63)
          have SB := hide (show B ≤ wr.heap.size from Nat.le_trans HG.out (Nat.le_of_lt X.1.lt))
          have E := hide (Box.new wr 63 #[.int .u8 sz, .int .u16 mk, .bool dn, .bool fl, .bool fs])
          replace O := hide (row_below O.out M)
          replace X := hide (X.below M)
          replace K := hide (K.out.trans (M.mono SB.out))
          have SB6 := hide (show B ≤ (wr.alloc (.cells #[.int .u8 sz, .int .u16 mk, .bool dn, .bool fl, .bool fs] 63)).heap.size by rw [alloc_size']; have := SB.out; omega)
          go_upto_region 11 with fail
          obtain ⟨g2, hg2⟩ : ∃ g, g = wr.heap.size := ⟨_, rfl⟩
          rw [← hg2] at E ⊢
          clear hg2 c0 c1 c2 c3 c4 M
          generalize wr.alloc (.cells #[.int .u8 sz, .int .u16 mk, .bool dn, .bool fl, .bool fs] 63) = w6 at *
          have e0 := E.out.cell 0
          have e1 := E.out.cell 1
          simp at e0 e1
          go_upto_region 12 with (go_at_call 28; refine (C1.out _).mono ?_; rintro e w7 ⟨A7, c7, rfl, hO, hc7, hB⟩)
          replace O := hide (row_below O.out hB)
          replace X := hide (X.out.below hB)
          replace E := hide (E.out.below hB)
          have SB7 := hide (Nat.le_trans SB6.out hB.size)
          replace K := hide (K.out.trans (hB.mono SB6.out))
          have U7 := hide (show Dv.IsBs w7 (.slice A7 32 c7) (blk s m) from ⟨A7, c7, by rw [blk_len], by rw [blk_len]; exact hc7, OwB.bs hO⟩)
          clear e0 e1 hB hO hc7 C1
          have C2 := hide (Dv.submit_any _ D 2 0 _ _ w7 X.out.2.is IN.out.big U7.out)
          obtain ⟨x0, x1, x2, x3, x4⟩ := X.out.cells
          obtain ⟨er, her⟩ : ∃ er, er = Dv.sbE D 2 0 (blk s m).length := ⟨_, rfl⟩
          have NX := hide (fun (e0 : er = 0) => IN.out.sbw EB.out (her ▸ e0))
          obtain ⟨E2, hE2⟩ : ∃ E2, E2 = (if er = 0 then Dv.sbD D 2 0 (blk s m) else Dv.zeroD) := ⟨_, rfl⟩
          rw [← her, ← hE2] at C2
          unfold Dv.DvR3 at C2
          have HE2 := hide (show er = 0 → E2 = Dv.sbD D 2 0 (blk s m) from fun h => by rw [hE2, if_pos h])
          clear her hE2
          generalize (if er = 0 then D.nxt else 0) = id at *
          go_upto_if 81 with (go_at_call 30; refine C2.out.mono ?_; rintro e w8 ⟨v, rfl, hD, hB⟩; obtain ⟨F1, f1, F2, f2, F3, f3, rfl⟩ := hD.form; unfold Dv.dv)
          replace O := hide (row_below O.out hB)
          replace X := hide (X.out.below hB)
          replace E := hide (E.out.below hB)
          replace K := hide (K.out.trans (hB.mono SB7.out))
          have SBY := hide (Nat.le_trans SB7.out hB.size)
          have M := bal (brefl w8) (.cells #[.int .i64 E2.dep, .int .i64 E2.nxt, .slice F1 E2.bl.length f1, .slice F2 E2.ca.length f2, .slice F3 E2.qu.length f3] 57)
          have Y := hide (Box.new w8 57 #[.int .i64 E2.dep, .int .i64 E2.nxt, .slice F1 E2.bl.length f1, .slice F2 E2.ca.length f2, .slice F3 E2.qu.length f3])
          have DE := hide (devown_below (devown_mono hD) M)
          replace O := hide (row_below O.out M)
          replace X := hide (X.out.below M)
          replace E := hide (E.out.below M)
          replace K := hide (K.out.trans (M.mono SBY.out))
          have SBZ := hide (show B ≤ (w8.alloc (.cells #[.int .i64 E2.dep, .int .i64 E2.nxt, .slice F1 E2.bl.length f1, .slice F2 E2.ca.length f2, .slice F3 E2.qu.length f3] 57)).heap.size by rw [alloc_size']; have := SBY.out; omega)
          obtain ⟨g8, hg8⟩ : ∃ g, g = w8.heap.size := ⟨_, rfl⟩
          rw [← hg8] at Y ⊢
          clear hg8 hB hD M
          generalize w8.alloc (.cells #[.int .i64 E2.dep, .int .i64 E2.nxt, .slice F1 E2.bl.length f1, .slice F2 E2.ca.length f2, .slice F3 E2.qu.length f3] 57) = w9 at *
          go_cut [10] (fun a wx => ∃ (ws : Wr) (D : Dv.Dev) (Aw : Option Addr) (nw cw : Nat), a = .slice Aw nw cw ∧ Hid (ws.length = nw) ∧ nw ≤ k + 2 ∧ Hid (OwW B wx (.slice Aw nw cw) ws) ∧ Hid (Inv D ws) ∧ Hid (∃ A1 d1 A2 d2 A3 d3, DB wx g D A1 d1 A2 d2 A3 d3) ∧ Hid (Below B w wx) ∧ Hid (Box wx g2 63 #[.int .u8 sz, .int .u16 mk, .bool dn, .bool fl, .bool fs]))
          case first =>
            by_cases he : er = 0
            · have E2E := HE2.out he
              have I2 := NX.out he
              rw [← E2E] at I2
              subst he
              obtain ⟨x0, x1, x2, x3, x4⟩ := X.out.cells
              obtain ⟨z0, z1, z2, z3, z4⟩ := X.out.frozen
              have y0 := Y.out.cell 0
              have y1 := Y.out.cell 1
              have y2 := Y.out.cell 2
              have y3 := Y.out.cell 3
              have y4 := Y.out.cell 4
              simp at y0 y1 y2 y3 y4
              have hgl := X.out.1.lt
              have KP := put5_kp (B := B) X.out.1 HG.out (.int .i64 E2.dep) (.int .i64 E2.nxt) (.slice F1 E2.bl.length f1) (.slice F2 E2.ca.length f2) (.slice F3 E2.qu.length f3)
              have PX := hide (X.out.put DE.out)
              have PO := hide (row_kp O.out KP (by decide))
              have PE := hide (E.out.kp KP (by decide))
              have PK := hide (K.out.trans KP.below)
              clear E2E NX HE2
              go_upto_region 15 with fail
              obtain ⟨w10, hw10⟩ : ∃ w10, w10 = put5 w9 g (.int .i64 E2.dep) (.int .i64 E2.nxt) (.slice F1 E2.bl.length f1) (.slice F2 E2.ca.length f2) (.slice F3 E2.qu.length f3) := ⟨_, rfl⟩
              rw [← hw10] at PX PO PE PK
              unfold put5 at hw10
              rw [← hw10]
              clear hw10 KP x0 x1 x2 x3 x4 z0 z1 z2 z3 z4 y0 y1 y2 y3 y4 hgl O X E K Y DE
              have SB10 := hide (show B ≤ w10.heap.size from Nat.le_trans HG.out (Nat.le_of_lt PX.out.1.lt))
              have M := bal (brefl w10) (.cells #[.int .i64 s, .int .i64 m] 60)
              have OA := hide (show (w10.alloc (.cells #[.int .i64 s, .int .i64 m] 60)).ownsRow B 60 2 (.slice Aw nw cw) nw (cW ws) by
                have := row_below PO.out M
                rwa [HN.out] at this)
              have NB := hide (two_new60 w10 (.int .i64 s) (.int .i64 m))
              have SA := hide (show B ≤ (w10.alloc (.cells #[.int .i64 s, .int .i64 m] 60)).heap.size by rw [alloc_size']; have := SB10.out; omega)
              replace PX := hide (PX.out.below M)
              replace PE := hide (PE.out.below M)
              replace PK := hide (PK.out.trans (M.mono SB10.out))
              clear M PO
              go_wp2_with (at_builtin; refine wpList_append_own_at _ rfl (.tmp 83) (.tmp 87) 61 rfl B 60 i0 _ 2 16 Try.underlying61 hi0 hz0 hz1 hz2 rfl (by omega) (.slice Aw nw cw) nw (cW ws) rfl OA.out ⟨w10.heap.size, 0, none⟩ 1 1 [.int .i64 s, .int .i64 m] rfl rfl NB.out (by intro u hu; simp at hu; rcases hu with rfl | rfl <;> rfl) (by simp only [maxLen]; omega) (by omega) SA.out ?_; intro v4 w4 hown4 hg4 _ hat4; obtain ⟨A4, cp4, ev4, _⟩ := row_form hown4; subst ev4)
              have KP := Kp.grown OA.out hg4 (Nat.le_refl B) SA.out
              have HN2 := hide (show (ws ++ [(s, m)]).length = nw + 1 by rw [List.length_append, HN.out]; rfl)
              have PO := hide (show OwW B w4 (.slice A4 (nw + 1) cp4) (ws ++ [(s, m)]) by
                unfold OwW
                rw [HN2.out, cW_append]
                exact hown4)
              replace PX := hide (PX.out.kp60 KP)
              replace PE := hide (PE.out.kp KP (by decide))
              replace PK := hide (PK.out.trans KP.below)
              go_meet
              exact ⟨_, _, _, _, _, rfl, HN2, by omega, PO, hide I2, hide ⟨_, _, _, _, _, _, PX.out⟩, PK, PE⟩
            · have hne : (er == 0) = false := by simpa using he
              go_wp2
              go_meet
              exact ⟨ws, D, Aw, nw, cw, rfl, HN, by omega, O, IN, hide ⟨_, _, _, _, _, _, X.out⟩, K, E⟩
          case rest =>
            clear O IN X K E HN Y DE NX HE2 C2 U7
            obtain ⟨ws, D, Aw, nw, cw, rfl, HN, hnw, O, IN, X, K, E⟩ := hcut
            have e4 := E.out.cell 4
            simp at e4
            go_upto_if 90 with fail
            go_cut [10] (fun a wx => ∃ (ws : Wr) (D : Dv.Dev) (Aw : Option Addr) (nw cw : Nat), a = .slice Aw nw cw ∧ Hid (ws.length = nw) ∧ nw ≤ k + 2 ∧ Hid (OwW B wx (.slice Aw nw cw) ws) ∧ Hid (Inv D ws) ∧ Hid (∃ A1 d1 A2 d2 A3 d3, DB wx g D A1 d1 A2 d2 A3 d3) ∧ Hid (Below B w wx) ∧ Hid (Box wx g2 63 #[.int .u8 sz, .int .u16 mk, .bool dn, .bool fl, .bool fs]))
            case first =>
              cases fs
              · go_wp2
                go_meet
                exact ⟨ws, D, Aw, nw, cw, rfl, HN, hnw, O, IN, X, K, E⟩
              · obtain ⟨A1, d1, A2, d2, A3, d3, X⟩ := X.out
                replace X := hide X
                have SBc := hide (show B ≤ wc.heap.size from Nat.le_trans HG.out (Nat.le_of_lt X.out.1.lt))
                have C2 := hide (Dv.submit_any _ D 3 0 (.slice none 0 0) [] wc X.out.2.is IN.out.big ⟨none, 0, rfl, Nat.le_refl _, fun h => absurd rfl h⟩)
                obtain ⟨x0, x1, x2, x3, x4⟩ := X.out.cells
                obtain ⟨er, her⟩ : ∃ er, er = Dv.sbE D 3 0 ([] : By).length := ⟨_, rfl⟩
                have NX := hide (fun (e0 : er = 0) => IN.out.sbf (her ▸ e0))
                obtain ⟨E2, hE2⟩ : ∃ E2, E2 = (if er = 0 then Dv.sbD D 3 0 [] else Dv.zeroD) := ⟨_, rfl⟩
                rw [← her, ← hE2] at C2
                unfold Dv.DvR3 at C2
                have HE2 := hide (show er = 0 → E2 = Dv.sbD D 3 0 [] from fun h => by rw [hE2, if_pos h])
                clear her hE2
                generalize (if er = 0 then D.nxt else 0) = id at *
                go_upto_if 98 with (go_at_call 30; refine C2.out.mono ?_; rintro e w12 ⟨v, rfl, hD, hB⟩; obtain ⟨F1, f1, F2, f2, F3, f3, rfl⟩ := hD.form; unfold Dv.dv)
                replace O := hide (row_below O.out hB)
                replace X := hide (X.out.below hB)
                replace E := hide (E.out.below hB)
                replace K := hide (K.out.trans (hB.mono SBc.out))
                have SBd := hide (Nat.le_trans SBc.out hB.size)
                have M := bal (brefl w12) (.cells #[.int .i64 E2.dep, .int .i64 E2.nxt, .slice F1 E2.bl.length f1, .slice F2 E2.ca.length f2, .slice F3 E2.qu.length f3] 57)
                have Y := hide (Box.new w12 57 #[.int .i64 E2.dep, .int .i64 E2.nxt, .slice F1 E2.bl.length f1, .slice F2 E2.ca.length f2, .slice F3 E2.qu.length f3])
                have DE := hide (devown_below (devown_mono hD) M)
                replace O := hide (row_below O.out M)
                replace X := hide (X.out.below M)
                replace E := hide (E.out.below M)
                replace K := hide (K.out.trans (M.mono SBd.out))
                obtain ⟨g12, hg8⟩ : ∃ g, g = w12.heap.size := ⟨_, rfl⟩
                rw [← hg8] at Y ⊢
                clear hg8 hB hD M
                generalize w12.alloc (.cells #[.int .i64 E2.dep, .int .i64 E2.nxt, .slice F1 E2.bl.length f1, .slice F2 E2.ca.length f2, .slice F3 E2.qu.length f3] 57) = w13 at *
                clear x0 x1 x2 x3 x4 e4
                by_cases he : er = 0
                · have E2E := HE2.out he
                  have I2 := NX.out he
                  rw [← E2E] at I2
                  subst he
                  obtain ⟨x0, x1, x2, x3, x4⟩ := X.out.cells
                  obtain ⟨z0, z1, z2, z3, z4⟩ := X.out.frozen
                  have y0 := Y.out.cell 0
                  have y1 := Y.out.cell 1
                  have y2 := Y.out.cell 2
                  have y3 := Y.out.cell 3
                  have y4 := Y.out.cell 4
                  simp at y0 y1 y2 y3 y4
                  have hgl := X.out.1.lt
                  have KP := put5_kp (B := B) X.out.1 HG.out (.int .i64 E2.dep) (.int .i64 E2.nxt) (.slice F1 E2.bl.length f1) (.slice F2 E2.ca.length f2) (.slice F3 E2.qu.length f3)
                  have PX := hide (X.out.put DE.out)
                  have PO := hide (row_kp O.out KP (by decide))
                  have PE := hide (E.out.kp KP (by decide))
                  have PK := hide (K.out.trans KP.below)
                  clear KP O X E K Y DE
                  clear E2E NX HE2
                  go_wp2
                  go_meet
                  exact ⟨_, _, _, _, _, rfl, HN, hnw, PO, hide I2, hide ⟨_, _, _, _, _, _, PX.out⟩, PK, PE⟩
                · have hne : (er == 0) = false := by simpa using he
                  go_wp2
                  go_meet
                  exact ⟨ws, D, Aw, nw, cw, rfl, HN, hnw, O, IN, hide ⟨_, _, _, _, _, _, X.out⟩, K, E⟩
            case rest =>
              clear O IN X K E HN e4
              obtain ⟨ws, D, Aw, nw, cw, rfl, HN, hnw, O, IN, X, K, E⟩ := hcut
              have e2 := E.out.cell 2
              have e3 := E.out.cell 3
              simp at e2 e3
              go_upto_if 101 with fail
              cases dn
              · go_wp2
                go_roundw
                case rel => first | exact ⟨k + 1, ws, D, Aw, nw, cw, by omega, by go_num, rfl, HN, by omega, O, IN, X, K⟩ | ((repeat apply Exists.intro); exact ⟨⟨k + 1, ws, D, Aw, nw, cw, by omega, by go_num, rfl, HN, by omega, O, IN, X, K⟩, rfl⟩)
                case measure => simp [intOf]; omega
              · obtain ⟨A1, d1, A2, d2, A3, d3, X⟩ := X.out
                replace X := hide X
                have SBc := hide (show B ≤ wc.heap.size from Nat.le_trans HG.out (Nat.le_of_lt X.out.1.lt))
                have hql : (D.qu.length : Int) ≤ 16 := by have := IN.out.vd.ql; have := IN.out.vd.d1; omega
                have wq : IntKind.i64.wrap ((D.qu.length : Int) - 1) = (D.qu.length : Int) - 1 := by rw [IntKind.wrap_i64]; omega
                have C2 := hide (Dv.complete_any _ D ((D.qu.length : Int) - 1) (!fl) wc X.out.2.is IN.out.big)
                obtain ⟨x0, x1, x2, x3, x4⟩ := X.out.cells
                obtain ⟨er, her⟩ : ∃ er, er = Dv.cmE D ((D.qu.length : Int) - 1) := ⟨_, rfl⟩
                have NX := hide (fun (e0 : er = 0) => IN.out.cm (p := ((D.qu.length : Int) - 1).toNat) (ok := !fl) (by
                  rw [her] at e0
                  unfold Dv.cmE at e0
                  rw [if_neg (by rw [Dv.chk_of IN.out.vd]; simp)] at e0
                  by_cases c : (D.qu.length : Int) - 1 < 0 ∨ (D.qu.length : Int) ≤ (D.qu.length : Int) - 1
                  · rw [if_pos c] at e0; exact absurd e0 (by decide)
                  · omega))
                obtain ⟨E2, hE2⟩ : ∃ E2, E2 = (if er = 0 then Dv.cmD D ((D.qu.length : Int) - 1).toNat (!fl) else Dv.zeroD) := ⟨_, rfl⟩
                rw [← her, ← hE2] at C2
                unfold Dv.DqR at C2
                have HE2 := hide (show er = 0 → E2 = Dv.cmD D ((D.qu.length : Int) - 1).toNat (!fl) from fun h => by rw [hE2, if_pos h])
                clear her hE2 hql
                generalize (if er = 0 then Dv.cmQ D ((D.qu.length : Int) - 1).toNat (!fl) else Dv.zeroQ) = rq at *
                go_upto_if 116 with (go_at_call 31; refine C2.out.mono ?_; rintro e w12 ⟨v, u, rfl, hD, hu, hB⟩; obtain ⟨F1, f1, F2, f2, F3, f3, rfl⟩ := hD.form; obtain ⟨Au, cu, rfl, _, _⟩ := Dv.OwnBy.is hu; unfold Dv.dv)
                replace O := hide (row_below O.out hB)
                replace X := hide (X.out.below hB)
                replace E := hide (E.out.below hB)
                replace K := hide (K.out.trans (hB.mono SBc.out))
                have SBd := hide (Nat.le_trans SBc.out hB.size)
                have M := bal (bal (brefl w12) (.cells #[.int .i64 E2.dep, .int .i64 E2.nxt, .slice F1 E2.bl.length f1, .slice F2 E2.ca.length f2, .slice F3 E2.qu.length f3] 57)) (.cells #[.int .i64 rq.1, .int .i64 rq.2.1, .int .i64 rq.2.2.1, .slice Au rq.2.2.2.length cu] 67)
                have Y := hide ((Box.new w12 57 #[.int .i64 E2.dep, .int .i64 E2.nxt, .slice F1 E2.bl.length f1, .slice F2 E2.ca.length f2, .slice F3 E2.qu.length f3]).more (.cells #[.int .i64 rq.1, .int .i64 rq.2.1, .int .i64 rq.2.2.1, .slice Au rq.2.2.2.length cu] 67))
                have DE := hide (devown_below (devown_mono hD) M)
                replace O := hide (row_below O.out M)
                replace X := hide (X.out.below M)
                replace E := hide (E.out.below M)
                replace K := hide (K.out.trans (M.mono SBd.out))
                obtain ⟨g12, hg8⟩ : ∃ g, g = w12.heap.size := ⟨_, rfl⟩
                rw [← hg8] at Y ⊢
                clear hg8 hB hD M
                generalize (w12.alloc (.cells #[.int .i64 E2.dep, .int .i64 E2.nxt, .slice F1 E2.bl.length f1, .slice F2 E2.ca.length f2, .slice F3 E2.qu.length f3] 57)).alloc (.cells #[.int .i64 rq.1, .int .i64 rq.2.1, .int .i64 rq.2.2.1, .slice Au rq.2.2.2.length cu] 67) = w13 at *
                clear x0 x1 x2 x3 x4 e2 e3 wq hu
                by_cases he : er = 0
                · have E2E := HE2.out he
                  have I2 := NX.out he
                  rw [← E2E] at I2
                  subst he
                  obtain ⟨x0, x1, x2, x3, x4⟩ := X.out.cells
                  obtain ⟨z0, z1, z2, z3, z4⟩ := X.out.frozen
                  have y0 := Y.out.cell 0
                  have y1 := Y.out.cell 1
                  have y2 := Y.out.cell 2
                  have y3 := Y.out.cell 3
                  have y4 := Y.out.cell 4
                  simp at y0 y1 y2 y3 y4
                  have hgl := X.out.1.lt
                  have KP := put5_kp (B := B) X.out.1 HG.out (.int .i64 E2.dep) (.int .i64 E2.nxt) (.slice F1 E2.bl.length f1) (.slice F2 E2.ca.length f2) (.slice F3 E2.qu.length f3)
                  have PX := hide (X.out.put DE.out)
                  have PO := hide (row_kp O.out KP (by decide))
                  have PE := hide (E.out.kp KP (by decide))
                  have PK := hide (K.out.trans KP.below)
                  clear KP O X E K Y DE
                  clear E2E NX HE2
                  have I3 := hide I2
                  clear I2
                  go_wp2
                  have X := hide (show ∃ A1 d1 A2 d2 A3 d3, DB (put5 w13 g (.int .i64 E2.dep) (.int .i64 E2.nxt) (.slice F1 E2.bl.length f1) (.slice F2 E2.ca.length f2) (.slice F3 E2.qu.length f3)) g E2 A1 d1 A2 d2 A3 d3 from ⟨_, _, _, _, _, _, PX.out⟩)
                  go_roundw
                  case rel => first | exact ⟨k + 1, ws, E2, Aw, nw, cw, by omega, by go_num, rfl, HN, by omega, PO, I3, X, PK⟩ | ((repeat apply Exists.intro); exact ⟨⟨k + 1, ws, E2, Aw, nw, cw, by omega, by go_num, rfl, HN, by omega, PO, I3, X, PK⟩, rfl⟩)
                  case measure => simp [intOf]; omega
                · have hne : (er == 0) = false := by simpa using he
                  replace X := hide (show ∃ A1 d1 A2 d2 A3 d3, DB w13 g D A1 d1 A2 d2 A3 d3 from ⟨_, _, _, _, _, _, X.out⟩)
                  go_wp2
                  go_roundw
                  case rel => first | exact ⟨k + 1, ws, D, Aw, nw, cw, by omega, by go_num, rfl, HN, by omega, O, IN, X, K⟩ | ((repeat apply Exists.intro); exact ⟨⟨k + 1, ws, D, Aw, nw, cw, by omega, by go_num, rfl, HN, by omega, O, IN, X, K⟩, rfl⟩)
                  case measure => simp [intOf]; omega
        · obtain rfl : k = L.length := by omega
          obtain ⟨A1, d1, A2, d2, A3, d3, X⟩ := X.out
          replace X := hide X
          have SBc := hide (show B ≤ wr.heap.size from Nat.le_trans HG.out (Nat.le_of_lt X.out.1.lt))
          have C2 := hide (Dv.crash_any _ D Ap ps cp wr X.out.2.is IN.out.big (HP2.out _ K.out) hpn)
          rw [Dv.chk_of IN.out.vd, if_pos rfl] at C2
          unfold Dv.DvR2 at C2
          obtain ⟨p, hp, he, hdu⟩ := IN.out.cr ps
          have BG := hide (Dv.big_crD (ps := ps) IN.out.vd)
          obtain ⟨x0, x1, x2, x3, x4⟩ := X.out.cells
          generalize Dv.crD D ps = E2 at *
          have HDU := hide hdu
          have HE := hide he
          have HPM := hide hp
          clear hdu he hp IN
          obtain ⟨s, m⟩ := p
          simp only at HDU HE
          go_upto_region 26 with (go_at_call 32; refine C2.out.mono ?_; rintro e w12 ⟨v, rfl, hD, hB⟩; obtain ⟨F1, f1, F2, f2, F3, f3, rfl⟩ := hD.form; unfold Dv.dv)
          replace O := hide (row_below O.out hB)
          replace K := hide (K.out.trans (hB.mono SBc.out))
          have SBd := hide (Nat.le_trans SBc.out hB.size)
          unfold Dv.dv at hD
          have M := bal (brefl w12) (.cells #[.int .i64 E2.dep, .int .i64 E2.nxt, .slice F1 E2.bl.length f1, .slice F2 E2.ca.length f2, .slice F3 E2.qu.length f3] 57)
          have Y := hide (Box.new w12 57 #[.int .i64 E2.dep, .int .i64 E2.nxt, .slice F1 E2.bl.length f1, .slice F2 E2.ca.length f2, .slice F3 E2.qu.length f3])
          have C3 := hide (Dv.durable_any _ E2 0 _ (hD.is.below M) BG.out)
          unfold Dv.ByR at C3
          rw [HDU.out] at C3
          replace O := hide (row_below O.out M)
          replace K := hide (K.out.trans (M.mono SBd.out))
          have SBe := hide (show B ≤ (w12.alloc (.cells #[.int .i64 E2.dep, .int .i64 E2.nxt, .slice F1 E2.bl.length f1, .slice F2 E2.ca.length f2, .slice F3 E2.qu.length f3] 57)).heap.size by rw [alloc_size']; have := SBd.out; omega)
          obtain ⟨g12, hg8⟩ : ∃ g, g = w12.heap.size := ⟨_, rfl⟩
          rw [← hg8] at Y ⊢
          clear hg8 hB hD M x0 x1 x2 x3 x4 X C2
          generalize w12.alloc (.cells #[.int .i64 E2.dep, .int .i64 E2.nxt, .slice F1 E2.bl.length f1, .slice F2 E2.ca.length f2, .slice F3 E2.qu.length f3] 57) = w13 at *
          have y0 := Y.out.cell 0
          have y1 := Y.out.cell 1
          have y2 := Y.out.cell 2
          have y3 := Y.out.cell 3
          have y4 := Y.out.cell 4
          simp at y0 y1 y2 y3 y4
          go_wp2_with (go_at_call 33; refine C3.out.mono ?_; rintro e w14 ⟨u, rfl, hu, hB⟩; obtain ⟨A4, c4, rfl, hc4, hb4⟩ := Dv.OwnBy.is hu; rw [blk_len])
          have C4 := hide (dec_any A4 c4 (blk s m) w14 (show BsB w14 A4 (blk s m) from hb4) (blk_byt HE.out) (by rw [blk_len]; decide))
          unfold DeR at C4
          rw [dE_blk HE.out, dR_blk HE.out, blk_len] at C4
          replace O := hide (row_below O.out hB)
          replace K := hide (K.out.trans (hB.mono SBe.out))
          have SBf := hide (Nat.le_trans SBe.out hB.size)
          refine C4.out.mono ?_
          rintro e w15 ⟨rfl, hB2⟩
          replace O := hide (row_below O.out hB2)
          replace K := hide (K.out.trans (hB2.mono SBf.out))
          have SBg := hide (Nat.le_trans SBf.out hB2.size)
          clear hB hB2 hu hb4 hc4 y0 y1 y2 y3 y4 C3 C4 Y
          have hnw2 : ws.length = nw := HN.out
          go_wp2
          go_loopw [136] (fun i wx => ∃ j : Nat, j ≤ nw ∧ i = .int .i64 j ∧ Hid (∀ t (h : t < ws.length), t < j → ws[t] ≠ (s, m)) ∧ Hid (OwW B wx (.slice Aw nw cw) ws) ∧ Hid (Below B w wx) ∧ Hid (B ≤ wx.heap.size)) (fun i _ => nw - (intOf i).toNat)
          case atStart => exact ⟨0, Nat.zero_le _, rfl, hide (fun t h1 h2 => by omega), O, K, SBg⟩
          case round =>
            clear O K SBg
            obtain ⟨j, hj, rfl, N, O, K, SBg⟩ := hrel
            by_cases hjl : j < nw
            · have hl2 : (j : Int) < (nw : Int) := by omega
              have hj0 : (0 : Int) ≤ (j : Int) := by omega
              have hjw : j < ws.length := by omega
              obtain ⟨g3, rfl, hg3, q0, q1⟩ := O.out.cells hjw
              have NN := hide (fun (h : ws[j] ≠ (s, m)) t (ht : t < ws.length) (h2 : t < j + 1) => show ws[t] ≠ (s, m) by
                by_cases e : t = j
                · subst e; exact h
                · exact N.out t ht (by omega))
              rcases hab : ws[j] with ⟨a, b⟩
              rw [hab] at q0 q1 NN
              simp only at q0 q1
              have M := bal (brefl wr) (.cells #[.int .i64 a, .int .i64 b] 60)
              have Y := hide (Box.new wr 60 #[.int .i64 a, .int .i64 b])
              have O2 := hide (row_below O.out M)
              have K2 := hide (K.out.trans (M.mono SBg.out))
              have SB2 := hide (show B ≤ (wr.alloc (.cells #[.int .i64 a, .int .i64 b] 60)).heap.size by rw [alloc_size']; have := SBg.out; omega)
              clear O K M hjw hab
              go_upto_region 32 with fail
              obtain ⟨g4, hg4⟩ : ∃ g, g = wr.heap.size := ⟨_, rfl⟩
              rw [← hg4] at Y ⊢
              clear hg4 q0 q1 hg3
              generalize wr.alloc (.cells #[.int .i64 a, .int .i64 b] 60) = w16 at *
              have y0 := Y.out.cell 0
              have y1 := Y.out.cell 1
              simp at y0 y1
              by_cases ha : a = s
              · by_cases hb : b = m
                · subst ha hb
                  have Q := eq60 a b a b w16
                  rw [show (a == a && b == b) = true by simp] at Q
                  clear NN N
                  go_wp2
                  go_ret
                  exact ⟨rfl, by rw [← HB.out]; exact K2.out⟩
                · have hbe : (b == m) = false := by simpa using hb
                  replace NN := hide (NN.out (by simpa using fun _ => hb))
                  clear hb
                  subst ha
                  have Q := eq60 a b a m w16
                  rw [hbe, Bool.and_false] at Q
                  go_wp2
                  go_roundw
                  case rel => first | exact ⟨j + 1, by omega, by go_num, hide NN, O2, K2, SB2⟩ | ((repeat apply Exists.intro); exact ⟨⟨j + 1, by omega, by go_num, hide NN, O2, K2, SB2⟩, rfl⟩)
                  case measure => simp [intOf]; omega
              · have hae : (a == s) = false := by simpa using ha
                replace NN := hide (NN.out (by simpa using fun h => absurd h ha))
                have Q := eq60 a b s m w16
                rw [hae, Bool.false_and] at Q
                clear ha
                go_wp2
                go_roundw
                case rel => first | exact ⟨j + 1, by omega, by go_num, hide NN, O2, K2, SB2⟩ | ((repeat apply Exists.intro); exact ⟨⟨j + 1, by omega, by go_num, hide NN, O2, K2, SB2⟩, rfl⟩)
                case measure => simp [intOf]; omega
            · exfalso
              obtain ⟨t, ht, e⟩ := List.mem_iff_getElem.1 HPM.out
              exact N.out t ht (by omega) e
end Go.Proofs.Ytncdilkcblakhaa.In
