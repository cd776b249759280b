import Derived.Test.YtflplldamefhoaaPl4
import Derived.Test.YtflplldamefhoaaSm
namespace Go.Proofs.Ytflplldamefhoaa.Bd
open Go Go.RowKit
set_option linter.unusedVariables false
def lenOf : Value → Nat
  | .slice _ n _ => n
  | _ => 0
set_option maxRecDepth 100000 in
set_option maxHeartbeats 16000000 in
theorem law_back (s c : Int) (hs : 0 ≤ s ∧ s < 256) (hc : 0 ≤ c ∧ c < 256) (A : Option Addr) (O : List St) (cap : Nat) (Ap : Option Addr) (pks : List Int) (cp : Nat) (w : World) (hr : Sts w A O) (hi : StsIn O) (hl : O.length ≤ 9223372036854775807) (hpk : Pk w Ap pks) (hpn : pks.length ≤ 9223372036854775807) : Calls Try.prog 13 #[.agg #[.int .u8 s, .int .u8 c], .slice A O.length cap, .slice Ap pks.length cp] w fun e w' => e = .returned (.bool true) ∧ Below w.heap.size w w' := by
  have AW := hide (fun w1 => awake_any w1)
  have BX := hide (Box.new w 50 #[.int .u8 s, .int .u8 c])
  have K0 := hide (bal (brefl w) (.cells #[.int .u8 s, .int .u8 c] 50))
  obtain ⟨ga, hga⟩ : ∃ g, g = w.heap.size := ⟨_, rfl⟩
  obtain ⟨W0, hW0⟩ : ∃ W0, W0 = (w.alloc (.cells #[.int .u8 s, .int .u8 c] 50)) := ⟨_, rfl⟩
  rw [← hga, ← hW0] at BX
  rw [← hW0] at K0
  by_cases h30 : O.length ≤ 30
  · have d3 : decide ((30 : Int) < (O.length : Int)) = false := decide_eq_false (by omega)
    have PL := hide (fun w1 (hb : Below w.heap.size w w1) => play_any s c hs hc A O cap w1 h30 (hr.below hb) hi)
    unfold PlR at PL
    have HP := hide (pS_par s c)
    obtain ⟨q, hq⟩ : ∃ q, q = pS s c := ⟨_, rfl⟩
    have HQ := hide hq
    rw [← hq] at PL HP
    clear hq hr hi hl
    go_enter Try.func13, Try.ntmps13
    go_upto_region 1 with fail
    rw [← hga, ← hW0]
    clear hga hW0
    go_upto_region 3 with (first | (go_at_call 14; refine (AW.out _).mono ?_; rintro e w1 ⟨rfl, hb⟩; replace BX := hide (BX.out.below hb); replace K0 := hide (K0.out.trans (hb.mono K0.out.size)); clear hb; have a0 := BX.out.cell 0; have a1 := BX.out.cell 1; simp at a0 a1))
    go_wp2_with fail
    refine (PL.out _ K0.out).mono ?_
    rintro e w2 ⟨v, L, H, U, d, rfl, oz, oh, hb2, V, D, hH⟩
    have VV := hide V
    have DD := hide D
    have HLE := hide (show H.length ≤ 30 by omega)
    go_upto_region 4 with (refine wpList_store_row rfl 25 _ _ rfl w2.heap.size (znC q v) rfl rfl 25 (znC p0 nv) (Box.new w2 25 _) (by kernel_rfl) rfl (one_zone oz.rd) ?_)
    have ee : (w2.alloc (.cells #[.int .i64 0, .int .i64 0, .int .i64 0, .int .i64 0, .int .i64 0, .slice none 0 0, .slice none 0 0, .slice none 0 0, .slice none 0 0, .slice none 0 0] 25)).setRow w2.heap.size (znC q v) = w2.alloc (.cells (znC q v) 25) := setRow_new w2 _ _ 25
    rw [ee]
    have M := bal (brefl w2) (.cells (znC q v) 25)
    have X := hide (Box.new w2 25 (znC q v))
    have OZ := hide ((oz.mono K0.out.size).below M)
    have OH := hide (row_below (row_mono oh K0.out.size) M)
    replace BX := hide ((BX.out.below hb2).below M)
    have K := hide ((K0.out.trans (hb2.mono K0.out.size)).trans (M.mono (Nat.le_trans K0.out.size hb2.size)))
    have GB := hide (show w.heap.size ≤ w2.heap.size from Nat.le_trans K0.out.size hb2.size)
    obtain ⟨g1, hg1⟩ : ∃ g, g = w2.heap.size := ⟨_, rfl⟩
    rw [← hg1] at X GB ⊢
    clear ee M hb2 oz oh V D hH PL AW K0 a0 a1
    generalize w2.alloc (.cells (znC q v) 25) = w3 at *
    clear hg1
    have Y := BX
    have HPK := hide hpk
    have NW := hide (fun W => (show Calls Try.prog 18 #[.int .i64 0, .int .i64 0, .int .i64 (s % 16), .int .i64 (1 + c % 64), .int .i64 0] W _ from new_any (pS s c) (pS_pr s c) W))
    unfold ZE at NW
    rw [show nwE (pS s c) = 0 by unfold nwE; rw [if_pos (pS_par s c)], ← HQ.out] at NW
    clear BX hpk HQ
    go_wp2
    go_loopw [8, 10] (fun u b wr => ∃ (nn : Nat) (v : Nat → Value) (L : Fl) (H : List He) (U : Option Addr) (d : Nat), u = .slice U H.length d ∧ b = .int .i64 nn ∧ nn + H.length ≤ 30 ∧ Hid (Box wr g1 25 (znC q v)) ∧ Hid (Box wr ga 50 #[.int .u8 s, .int .u8 c]) ∧ Hid (OwZ w.heap.size wr v L) ∧ Hid (OwH w.heap.size wr (.slice U H.length d) H) ∧ Hid (Vd q L) ∧ Hid (Hd q L H) ∧ Hid (Below w.heap.size w wr)) (fun u _ _ => lenOf u)
    case atStart => exact ⟨0, v, L, H, U, d, rfl, rfl, by have := HLE.out; omega, X, Y, OZ, OH, VV, DD, K⟩
    case round =>
      clear X Y OZ OH VV DD K HLE
      obtain ⟨nn, v, L, H, U, d, rfl, rfl, hnn, X, Y, OZ, OH, VV, DD, K⟩ := hrel
      have HLE := hide (show H.length ≤ 30 by omega)
      by_cases hpos : 0 < H.length
      · have hpi : (0 : Int) < (H.length : Int) := by omega
        go_upto_if 44 with fail
        go_cut [11] (fun s11 wx => ∃ i : Nat, s11 = .int .i64 i ∧ i < H.length ∧ wx = wr)
        case first =>
          by_cases hp : nn < pks.length
          · obtain ⟨b2, off2, rfl, hbl2, pc, px0, px1⟩ := HPK.out.cells K.out hp
            obtain ⟨x2, hx2⟩ : ∃ x, x = pks.getD nn 0 := ⟨_, rfl⟩
            rw [← hx2] at pc px0 px1
            clear hx2
            obtain ⟨i, hi⟩ : ∃ i : Nat, x2 % (H.length : Int) = i := ⟨(x2 % H.length).toNat, by have := Int.emod_nonneg x2 (b := (H.length : Int)) (by omega); omega⟩
            have hil : i < H.length := by have := Int.emod_lt_of_pos x2 (b := (H.length : Int)) (by omega); omega
            have hne : ¬ ((H.length : Int) = 0) := by omega
            have hnp : (nn : Int) < (pks.length : Int) := by omega
            have hn0 : (0 : Int) ≤ (nn : Int) := by omega
            have hdt : decide ((nn : Int) < (pks.length : Int)) = true := decide_eq_true hnp
            go_wp2
            go_meet
            exact ⟨i, by rw [hi], hil, rfl⟩
          · have hdt : decide ((nn : Int) < (pks.length : Int)) = false := decide_eq_false (by omega)
            have hnp : ¬ ((nn : Int) < (pks.length : Int)) := by omega
            go_wp2
            go_meet
            exact ⟨0, rfl, hpos, rfl⟩
        case rest =>
          obtain ⟨i, rfl, hil, rfl⟩ := hcut
          clear hpos hpi
          obtain ⟨gh, rfl, hgl, hgB, h0, h1⟩ := OwH.cell OH.out hil
          have hb1 := DD.out.blk _ (heAt_mem hil)
          have hb2 := DD.out.out _ (heAt_mem hil)
          have hsp := he_split hil
          generalize hhe : heAt H i = he at *
          obtain ⟨f, kk⟩ := he
          replace hsp := hide hsp
          replace hb1 := hide hb1
          replace hb2 := hide hb2
          simp only at h0 h1
          go_wp2
          have KD := below_drewN (brefl wc) 1
          replace X := hide (show Box wc.drew g1 25 (znC q v) from X.out.below KD)
          replace Y := hide (show Box wc.drew ga 50 #[.int .u8 s, .int .u8 c] from Y.out.below KD)
          replace OZ := hide (show OwZ w.heap.size wc.drew v L from OZ.out.below KD)
          replace OH := hide (show OwH w.heap.size wc.drew (.slice (some ⟨gh, 0, none⟩) H.length d) H from row_below OH.out KD)
          replace K := hide (show Below w.heap.size w wc.drew from K.out.trans (KD.mono K.out.size))
          have H0 := hide (show wc.drew.cell? ⟨gh, i * 2, none⟩ = some (.int .i64 f) from (KD.cell (p := ⟨gh, i * 2, none⟩) hgl).trans h0)
          have H1 := hide (show wc.drew.cell? ⟨gh, i * 2 + 1, none⟩ = some (.int .i64 (kk : Int)) from (KD.cell (p := ⟨gh, i * 2 + 1, none⟩) hgl).trans h1)
          have HGL := hide (show gh < wc.drew.heap.size from Nat.lt_of_lt_of_le hgl KD.size)
          have CE := hide (fun (W : World) (hW : Below wc.drew.heap.size wc.drew W) => (⟨X.out.below hW, (hW.cell (p := ⟨gh, i * 2, none⟩) HGL.out).trans H0.out, (hW.cell (p := ⟨gh, i * 2 + 1, none⟩) HGL.out).trans H1.out⟩ : Box W g1 25 (znC q v) ∧ W.cell? ⟨gh, i * 2, none⟩ = some (.int .i64 f) ∧ W.cell? ⟨gh, i * 2 + 1, none⟩ = some (.int .i64 (kk : Int))))
          have hf64 : i64r f := by have := blk_bd HP.out hb1.out.2; have := bw_pos kk; unfold i64r; omega
          have FR := hide (fun (W : World) (hW : Below wc.drew.heap.size wc.drew W) => free_any q v L f kk hf64 W (ZIn.of_vd HP.out VV.out.toLst (OZ.out.rd.below hW)))
          rw [frE_held HP.out VV.out hb1.out.1 hb1.out.2 hb2.out] at FR
          unfold ZE at FR
          have hil2 : (i : Int) < (H.length : Int) := by omega
          clear KD h0 h1 hgl
          refine wp_region_noPanic ?_
          refine wp_region_held_drew (S := (fun W => Box W g1 25 (znC q v) ∧ W.cell? ⟨gh, i * 2, none⟩ = some (.int .i64 f) ∧ W.cell? ⟨gh, i * 2 + 1, none⟩ = some (.int .i64 (kk : Int)))) (by kernel_rfl) ?_ (fun hHeld => ?_)
          · exact CE.out _ (brefl _)
          generalize wc.drew = w4 at *
          have KK := hide (brefl w4)
          refine wpAnyH_take (i := 0) (oi := ⟨some 54, _, _, _, _, _⟩) (v := .agg (znC q v)) rfl (by kernel_rfl) (by kernel_rfl) (by kernel_rfl) (fun _ _ _ h => h) (Or.inl ⟨by kernel_rfl, ?_⟩) (by assumption) ?_
          · (intro w hSw; obtain ⟨y0, y1, y2, y3, y4, y5, y6, y7, y8, y9⟩ := box_all hSw.1; go_simp) <;> rfl
          (try simp only [Act.put, List.setIfInBounds_toArray, List.set_cons_succ, List.set_cons_zero])
          refine wpAnyH_take (i := 1) (oi := ⟨some 55, _, _, _, _, _⟩) (v := ?_) rfl (by kernel_rfl) (by kernel_rfl) (by kernel_rfl) (fun _ _ _ h => h) (Or.inl ⟨by kernel_rfl, ?_⟩) (by assumption) ?_
          rotate_left 1
          · (intro w hSw; (try dsimp only at hSw); go_simp) <;> (with_reducible rfl)
          (try simp only [Act.put, List.setIfInBounds_toArray, List.set_cons_succ, List.set_cons_zero])
          refine wpAnyH_take (i := 2) (oi := ⟨some 56, _, _, _, _, _⟩) (v := ?_) rfl (by kernel_rfl) (by kernel_rfl) (by kernel_rfl) (fun _ _ _ h => h) (Or.inl ⟨by kernel_rfl, ?_⟩) (by assumption) ?_
          rotate_left 1
          · (intro w hSw; (try dsimp only at hSw); go_simp) <;> (with_reducible rfl)
          (try simp only [Act.put, List.setIfInBounds_toArray, List.set_cons_succ, List.set_cons_zero])
          refine wpAnyH_take (i := 3) (oi := ⟨some 57, _, _, _, _, _⟩) (v := ?_) rfl (by kernel_rfl) (by kernel_rfl) (by kernel_rfl) (fun _ _ _ h => h) (Or.inl ⟨by kernel_rfl, ?_⟩) (by assumption) ?_
          rotate_left 1
          · (intro w hSw; (try dsimp only at hSw); go_simp) <;> (with_reducible rfl)
          (try simp only [Act.put, List.setIfInBounds_toArray, List.set_cons_succ, List.set_cons_zero])
          refine wpAnyH_take (i := 4) (oi := ⟨some 58, _, _, _, _, _⟩) (v := ?_) rfl (by kernel_rfl) (by kernel_rfl) (by kernel_rfl) (fun _ _ _ h => h) (Or.inl ⟨by kernel_rfl, ?_⟩) (by assumption) ?_
          rotate_left 1
          · (intro w hSw; (try dsimp only at hSw); go_simp) <;> (with_reducible rfl)
          (try simp only [Act.put, List.setIfInBounds_toArray, List.set_cons_succ, List.set_cons_zero])
          refine wpAnyH_take (i := 5) (oi := ⟨some 59, _, _, _, _, _⟩) (v := ?_) rfl (by kernel_rfl) (by kernel_rfl) (by kernel_rfl) (fun _ _ _ h => h) (Or.inl ⟨by kernel_rfl, ?_⟩) (by assumption) ?_
          rotate_left 1
          · (intro w hSw; (try dsimp only at hSw); go_simp) <;> (with_reducible rfl)
          (try simp only [Act.put, List.setIfInBounds_toArray, List.set_cons_succ, List.set_cons_zero])
          refine wpAnyH_take (i := 6) (oi := ⟨some 60, _, _, _, _, _⟩) (v := ?_) rfl (by kernel_rfl) (by kernel_rfl) (by kernel_rfl) (fun _ _ _ h => h) (Or.inl ⟨by kernel_rfl, ?_⟩) (by assumption) ?_
          rotate_left 1
          · (intro w hSw; (try dsimp only at hSw); go_simp) <;> (with_reducible rfl)
          (try simp only [Act.put, List.setIfInBounds_toArray, List.set_cons_succ, List.set_cons_zero])
          refine wpAnyH_take (i := 7) (oi := ⟨some 61, _, _, _, _, _⟩) (v := ?_) rfl (by kernel_rfl) (by kernel_rfl) (by kernel_rfl) (fun _ _ _ h => h) (Or.inl ⟨by kernel_rfl, ?_⟩) (by assumption) ?_
          rotate_left 1
          · (intro w hSw; (try dsimp only at hSw); go_simp) <;> (with_reducible rfl)
          (try simp only [Act.put, List.setIfInBounds_toArray, List.set_cons_succ, List.set_cons_zero])
          refine wpAnyH_take (i := 8) (oi := ⟨some 62, _, _, _, _, _⟩) (v := ?_) rfl (by kernel_rfl) (by kernel_rfl) (by kernel_rfl) (fun _ _ _ h => h) (Or.inl ⟨by kernel_rfl, ?_⟩) (by assumption) ?_
          rotate_left 1
          · (intro w hSw; (try dsimp only at hSw); go_simp) <;> (with_reducible rfl)
          (try simp only [Act.put, List.setIfInBounds_toArray, List.set_cons_succ, List.set_cons_zero])
          refine wpAnyH_take (i := 9) (oi := ⟨some 63, _, _, _, _, _⟩) (v := ?_) rfl (by kernel_rfl) (by kernel_rfl) (by kernel_rfl) (fun _ _ _ h => h) (Or.inl ⟨by kernel_rfl, ?_⟩) (by assumption) ?_
          rotate_left 1
          · (intro w hSw; (try dsimp only at hSw); go_simp) <;> (with_reducible rfl)
          (try simp only [Act.put, List.setIfInBounds_toArray, List.set_cons_succ, List.set_cons_zero])
          refine wpAnyH_take (i := 10) (oi := ⟨some 64, _, _, _, _, _⟩) (v := ?_) rfl (by kernel_rfl) (by kernel_rfl) (by kernel_rfl) (fun _ _ _ h => h) (Or.inl ⟨by kernel_rfl, ?_⟩) (by assumption) ?_
          rotate_left 1
          · (intro w hSw; (try dsimp only at hSw); go_simp) <;> (with_reducible rfl)
          (try simp only [Act.put, List.setIfInBounds_toArray, List.set_cons_succ, List.set_cons_zero])
          refine wpAnyH_ready (rs := [11, 15]) (by kernel_rfl) (by simp) ?_
          refine AllReadyH.cons (o := ⟨some 65, _, _, _, _, _⟩) rfl (fun K' hK => ?_) ?_
          · go_simp
            refine (FR.out _ KK.out).mono ?_
            rintro e wf ⟨q2, vf, Lf, rfl, of, hbf, zg⟩
            obtain rfl : q = q2 := (zg.ok rfl).1.symm
            have VF := hide (zg.ok rfl).2.1
            have SF := hide (zg.ok rfl).2.2
            have OF := hide (of.mono (Nat.le_trans K.out.size KK.out.size))
            replace KK := hide (btrans KK.out hbf)
            clear hbf of zg
            refine hK.out _ _ ?_ (fun hHeld => ?_)
            · exact CE.out _ KK.out
            clear hK K'
            (try simp only [Act.put, List.setIfInBounds_toArray, List.set_cons_succ, List.set_cons_zero])
            refine wpAnyH_take (i := 12) (oi := ⟨some 53, _, _, _, _, _⟩) (v := ?_) rfl (by kernel_rfl) (by kernel_rfl) (by kernel_rfl) (fun _ _ _ h => h) (Or.inl ⟨by kernel_rfl, ?_⟩) (by assumption) ?_
            rotate_left 1
            · (intro w hSw; (try dsimp only at hSw); go_simp) <;> (with_reducible rfl)
            (try simp only [Act.put, List.setIfInBounds_toArray, List.set_cons_succ, List.set_cons_zero])
            refine wpAnyH_take (i := 13) (oi := ⟨some 66, _, _, _, _, _⟩) (v := ?_) rfl (by kernel_rfl) (by kernel_rfl) (by kernel_rfl) (fun _ _ _ h => h) (Or.inl ⟨by kernel_rfl, ?_⟩) (by assumption) ?_
            rotate_left 1
            · (intro w hSw; (try dsimp only at hSw); go_simp) <;> (with_reducible rfl)
            (try simp only [Act.put, List.setIfInBounds_toArray, List.set_cons_succ, List.set_cons_zero])
            refine wpAnyH_take (i := 14) (oi := ⟨some 67, _, _, _, _, _⟩) (v := ?_) rfl (by kernel_rfl) (by kernel_rfl) (by kernel_rfl) (fun _ _ _ h => h) (Or.inl ⟨by kernel_rfl, ?_⟩) (by assumption) ?_
            rotate_left 1
            · (intro w hSw; (try dsimp only at hSw); go_simp) <;> (with_reducible rfl)
            (try simp only [Act.put, List.setIfInBounds_toArray, List.set_cons_succ, List.set_cons_zero])
            refine wpAnyH_ready (rs := [15]) (by kernel_rfl) (by simp) ?_
            refine AllReadyH.cons (o := ⟨some 12, _, _, _, _, _⟩) rfl (fun K' hK => ?_) AllReadyH.nil
            go_simp
            rw [znC0]
            have CB := hide (Box.new wf 25 (znC p0 nv))
            have HSZ : w4.heap.size ≤ wf.heap.size := KK.out.size
            replace OF := hide (OF.out.below (bal (brefl _) (.cells (znC p0 nv) 25)))
            replace KK := hide (bal KK.out (.cells (znC p0 nv) 25))
            obtain ⟨cb, hcb⟩ : ∃ cb, cb = wf.heap.size := ⟨_, rfl⟩
            have HCB := hide (show w4.heap.size ≤ cb by rw [hcb]; exact HSZ)
            rw [← hcb] at CB ⊢
            clear hcb HSZ
            generalize wf.alloc (.cells (znC p0 nv) 25) = we at *
            refine hK.out _ _ ?_ (fun hHeld => ?_)
            · exact CE.out _ KK.out
            clear hK K'
            (try simp only [Act.put, List.setIfInBounds_toArray, List.set_cons_succ, List.set_cons_zero])
            refine wpAnyH_ready (rs := [16]) (by kernel_rfl) (by simp) ?_
            refine AllReadyH.cons (o := ⟨none, _, _, _, _, _⟩) rfl (fun K' hK => ?_) AllReadyH.nil
            refine wp_store_row 25 _ _ rfl cb (znC q vf) rfl rfl 25 (znC p0 nv) CB.out (by kernel_rfl) rfl (one_zone OF.out.rd) ?_
            have KS := kp_row (B := w4.heap.size) (cs := znC q vf) CB.out HCB.out
            have CB2 := hide (box_row (cs := znC q vf) CB.out)
            replace OF := hide (OF.out.kp KS (by decide))
            replace KK := hide (KK.out.trans KS.below)
            clear KS CB
            generalize we.setRow cb (znC q vf) = wg at *
            refine hK.out _ _ ?_ (fun hHeld => ?_)
            · exact CE.out _ KK.out
            clear hK K'
            (try simp only [Act.put, List.setIfInBounds_toArray, List.set_cons_succ, List.set_cons_zero])
            refine wpAnyH_take (i := 17) (oi := ⟨some 13, _, _, _, _, _⟩) (v := ?_) rfl (by kernel_rfl) (by kernel_rfl) (by kernel_rfl) (fun _ _ _ h => h) (Or.inl ⟨by kernel_rfl, ?_⟩) (by assumption) ?_
            rotate_left 1
            · (intro w hSw; (try dsimp only at hSw); go_simp) <;> (with_reducible rfl)
            (try simp only [Act.put, List.setIfInBounds_toArray, List.set_cons_succ, List.set_cons_zero])
            refine wpAnyH_done (by kernel_rfl) ?_ _
            refine NoPanic.normal ?_
            have XG := hide hHeld.1
            replace Y := hide (Y.out.below KK.out)
            replace OH := hide (row_below OH.out KK.out)
            replace K := hide (K.out.trans (KK.out.mono K.out.size))
            clear hHeld CE FR KK X OZ H0 H1 HGL
            go_upto_region 16 with (first | (refine wpList_load_row rfl 25 _ rfl cb rfl 25 (znC q vf) (0, 0) _ CB2.out Try.underlying25 rfl (by kernel_rfl) ?_) | (refine wpList_store_row rfl 25 _ _ rfl g1 (znC q vf) rfl rfl 25 (znC q v) XG.out (by kernel_rfl) rfl (one_zone OF.out.rd) ?_))
            have KS := kp_row (B := w.heap.size) (cs := znC q vf) XG.out GB.out
            have X2 := hide (box_row (cs := znC q vf) XG.out)
            replace Y := hide (Y.out.kp KS (by decide))
            replace OF := hide (OF.out.kp KS (by decide))
            replace OH := hide (row_kp OH.out KS (by decide))
            replace K := hide (K.out.trans KS.below)
            clear KS XG CB2
            generalize wg.setRow g1 (znC q vf) = wh at *
            have hcap : H.length ≤ d := by
              obtain ⟨A9, c9, e9, h9⟩ := row_form OH.out
              injection e9 with _ _ e9
              rw [e9]; exact h9
            obtain ⟨gx, ex, hgl, hgB, _⟩ := row_cell OH.out (show H.length ≠ 0 by omega)
            injection ex with ex; injection ex with ex; subst ex
            have KD := below_drewN (brefl wh) 1
            replace X2 := hide (show Box wh.drew g1 25 (znC q vf) from X2.out.below KD)
            replace Y := hide (show Box wh.drew ga 50 #[.int .u8 s, .int .u8 c] from Y.out.below KD)
            replace OF := hide (show OwZ w.heap.size wh.drew vf Lf from OF.out.below KD)
            replace OH := hide (show OwH w.heap.size wh.drew (.slice (some ⟨gh, 0, none⟩) H.length d) H from row_below OH.out KD)
            replace K := hide (show Below w.heap.size w wh.drew from K.out.trans (KD.mono K.out.size))
            have HGL := hide (show gh < wh.drew.heap.size from Nat.lt_of_lt_of_le hgl KD.size)
            have hi1 : (i : Int) + 1 ≤ (H.length : Int) := by omega
            have hi2 : IntKind.i64.wrap ((i : Int) + 1) = (i : Int) + 1 := IntWalk.i64_in _ (by have := HLE.out; omega)
            have hi3 : (H.length : Int) ≤ (d : Int) := by omega
            have hi4 : (i : Int) ≤ (H.length : Int) := by omega
            have hi5 : (0 : Int) ≤ (i : Int) + 1 := by omega
            have hn1 : i ≤ d := by omega
            have hn2 : i + 1 ≤ H.length := by omega
            have hn3 : H.length ≤ d := hcap
            have hn4 : i + 1 ≤ d := by omega
            obtain ⟨ad, hif, hnews⟩ : ∃ ad : Addr, (if d = i + 1 then some (⟨gh, 0, none⟩ : Addr) else some ⟨gh, (i + 1) * 2, none⟩) = some ad ∧ ∀ W : World, (∀ j u, (hcs H)[j]? = some u → W.cell? ⟨gh, j, none⟩ = some u) → ∀ j u, (hcs (H.drop (i + 1)))[j]? = some u → W.cell? (ad.add j) = some u := by
              by_cases e : d = i + 1
              · refine ⟨_, if_pos e, fun W hW j u hj => ?_⟩
                rw [List.drop_eq_nil_of_le (by omega)] at hj
                simp [hcs] at hj
              · refine ⟨_, if_neg e, fun W hW j u hj => ?_⟩
                rw [hcs_drop, List.getElem?_drop] at hj
                have ea : (⟨gh, (i + 1) * 2, none⟩ : Addr).add j = ⟨gh, (i + 1) * 2 + j, none⟩ := by unfold Addr.add; by_cases h : j = 0 <;> simp [h]
                rw [ea]
                exact hW _ _ hj
            have HNW := hide hnews
            clear KD hgl hgB hcap hnews
            refine wp_region_noPanic ?_
            refine wp_region_held_drew (S := (fun _ => True)) (by kernel_rfl) ?_ (fun hHeld => ?_)
            · trivial
            generalize wh.drew = wi at *
            refine wpAnyH_take (i := 1) (oi := ⟨some 72, _, _, _, _, _⟩) (v := ?_) rfl (by kernel_rfl) (by kernel_rfl) (by kernel_rfl) (fun _ _ _ h => h) (Or.inl ⟨by kernel_rfl, ?_⟩) (by assumption) ?_
            rotate_left 1
            · (intro w hSw; (try dsimp only at hSw); go_simp) <;> (with_reducible rfl)
            (try simp only [Act.put, List.setIfInBounds_toArray, List.set_cons_succ, List.set_cons_zero])
            refine wpAnyH_take (i := 2) (oi := ⟨some 73, _, _, _, _, _⟩) (v := ?_) rfl (by kernel_rfl) (by kernel_rfl) (by kernel_rfl) (fun _ _ _ h => h) (Or.inl ⟨by kernel_rfl, ?_⟩) (by assumption) ?_
            rotate_left 1
            · (intro w hSw; (try dsimp only at hSw); go_simp) <;> (with_reducible rfl)
            (try simp only [Act.put, List.setIfInBounds_toArray, List.set_cons_succ, List.set_cons_zero])
            refine wpAnyH_take (i := 3) (oi := ⟨some 74, _, _, _, _, _⟩) (v := ?_) rfl (by kernel_rfl) (by kernel_rfl) (by kernel_rfl) (fun _ _ _ h => h) (Or.inl ⟨by kernel_rfl, ?_⟩) (by assumption) ?_
            rotate_left 1
            · (intro w hSw; (try dsimp only at hSw); go_simp) <;> (with_reducible rfl)
            (try simp only [Act.put, List.setIfInBounds_toArray, List.set_cons_succ, List.set_cons_zero])
            refine wpAnyH_take (i := 5) (oi := ⟨some 76, _, _, _, _, _⟩) (v := ?_) rfl (by kernel_rfl) (by kernel_rfl) (by kernel_rfl) (fun _ _ _ h => h) (Or.inl ⟨by kernel_rfl, ?_⟩) (by assumption) ?_
            rotate_left 1
            · (intro w hSw; (try dsimp only at hSw); go_simp) <;> (with_reducible rfl)
            (try simp only [Act.put, List.setIfInBounds_toArray, List.set_cons_succ, List.set_cons_zero])
            refine wpAnyH_take (i := 6) (oi := ⟨some 77, _, _, _, _, _⟩) (v := ?_) rfl (by kernel_rfl) (by kernel_rfl) (by kernel_rfl) (fun _ _ _ h => h) (Or.inl ⟨by kernel_rfl, ?_⟩) (by assumption) ?_
            rotate_left 1
            · (intro w hSw; (try dsimp only at hSw); go_simp) <;> (with_reducible rfl)
            (try simp only [Act.put, List.setIfInBounds_toArray, List.set_cons_succ, List.set_cons_zero])
            refine wpAnyH_take (i := 7) (oi := ⟨some 78, _, _, _, _, _⟩) (v := ?_) rfl (by kernel_rfl) (by kernel_rfl) (by kernel_rfl) (fun _ _ _ h => h) (Or.inl ⟨by kernel_rfl, ?_⟩) (by assumption) ?_
            rotate_left 1
            · (intro w hSw; (try dsimp only at hSw); go_simp) <;> (with_reducible rfl)
            (try simp only [Act.put, List.setIfInBounds_toArray, List.set_cons_succ, List.set_cons_zero])
            refine wpAnyH_take (i := 8) (oi := ⟨some 79, _, _, _, _, _⟩) (v := ?_) rfl (by kernel_rfl) (by kernel_rfl) (by kernel_rfl) (fun _ _ _ h => h) (Or.inl ⟨by kernel_rfl, ?_⟩) (by assumption) ?_
            rotate_left 1
            · (intro w hSw; (try dsimp only at hSw); go_simp) <;> (with_reducible rfl)
            (try simp only [Act.put, List.setIfInBounds_toArray, List.set_cons_succ, List.set_cons_zero])
            refine wpAnyH_ready (rs := [0]) (by kernel_rfl) (by simp) ?_
            refine AllReadyH.cons (o := _) rfl (fun K' hK => ?_) AllReadyH.nil
            go_simp
            have M := bal (brefl wi) (.cells #[] 55)
            have EW := hide (show (wi.alloc (.cells #[] 55)).ownsRow w.heap.size 55 2 (.slice (some ⟨wi.heap.size, 0, none⟩) 0 0) 0 [] from row_mono (World.ownsRow_made wi #[] 0 (Nat.le_refl _) (Nat.zero_le _) (by simp)) K.out.size)
            replace X2 := hide (X2.out.below M)
            replace Y := hide (Y.out.below M)
            replace OF := hide (OF.out.below M)
            replace OH := hide (row_below OH.out M)
            replace K := hide (K.out.trans (M.mono K.out.size))
            have NEG := hide (show gh ≠ wi.heap.size from Nat.ne_of_lt HGL.out)
            obtain ⟨ge, hge⟩ : ∃ ge, ge = wi.heap.size := ⟨_, rfl⟩
            rw [← hge] at EW NEG ⊢
            clear hge M HGL
            generalize wi.alloc (.cells #[] 55) = wj at *
            refine hK.out _ _ ?_ (fun hHeld => ?_)
            · trivial
            clear hK K'
            (try simp only [Act.put, List.setIfInBounds_toArray, List.set_cons_succ, List.set_cons_zero])
            refine wpAnyH_ready (rs := [4]) (by kernel_rfl) (by simp) ?_
            refine AllReadyH.cons (o := _) rfl (fun K' hK => ?_) AllReadyH.nil
            obtain ⟨i0, hi0, hz0, hz1, hz2⟩ := info_parts info55
            refine wp_append_own _ (.tmp 71) (.tmp 74) 46 rfl w.heap.size 55 i0 _ 2 16 Try.underlying46 hi0 hz0 hz1 hz2 rfl (by omega) (.slice (some ⟨ge, 0, none⟩) 0 0) 0 [] rfl EW.out ⟨gh, 0, none⟩ i d (hcs (H.take i)) rfl (by rw [hcs_length, List.length_take, Nat.min_eq_left (by omega)]) (OwH.some OH.out (by omega)) (fun u hu => hcs_one _ u hu) (by simp only [maxLen]; have := HLE.out; omega) (by have := HLE.out; omega) K.out.size ?_
            intro v4 wk hown4 hg4 _
            obtain ⟨A4, c4, rfl, _⟩ := row_form hown4
            have KG := Kp.grown (B := w.heap.size) EW.out hg4 (Nat.le_refl _) K.out.size
            replace X2 := hide (X2.out.kp KG (by decide))
            replace Y := hide (Y.out.kp KG (by decide))
            replace OF := hide (OF.out.kp KG (by decide))
            replace K := hide (K.out.trans KG.below)
            replace OH := hide (OH.out.kept hg4 (.inr (fun e => NEG.out (by simpa [Value.ownBlock] using e))))
            have E4 := hide hown4
            clear EW KG hown4 hg4 NEG
            refine hK.out _ _ ?_ (fun hHeld => ?_)
            · trivial
            clear hK K'
            (try simp only [Act.put, List.setIfInBounds_toArray, List.set_cons_succ, List.set_cons_zero])
            refine wpAnyH_ready (rs := [9]) (by kernel_rfl) (by simp) ?_
            refine AllReadyH.cons (o := _) rfl (fun K' hK => ?_) AllReadyH.nil
            refine wp_append_own _ (.tmp 75) (.tmp 79) 46 rfl w.heap.size 55 i0 _ 2 16 Try.underlying46 hi0 hz0 hz1 hz2 rfl (by omega) (.slice A4 (0 + i) c4) (0 + i) ([] ++ hcs (H.take i)) rfl E4.out ad (H.length - (i + 1)) (d - (i + 1)) (hcs (H.drop (i + 1))) rfl (by rw [hcs_length, List.length_drop]) (HNW.out _ (OwH.all OH.out (by omega))) (fun u hu => hcs_one _ u hu) (by simp only [maxLen]; have := HLE.out; omega) (by have := HLE.out; omega) K.out.size ?_
            intro v5 wl hown5 hg5 _
            obtain ⟨A5, c5, rfl, _⟩ := row_form hown5
            have KG := Kp.grown (B := w.heap.size) E4.out hg5 (Nat.le_refl _) K.out.size
            replace X2 := hide (X2.out.kp KG (by decide))
            replace Y := hide (Y.out.kp KG (by decide))
            replace OF := hide (OF.out.kp KG (by decide))
            replace K := hide (K.out.trans KG.below)
            have hl5 : 0 + i + (H.length - (i + 1)) = (H.take i ++ H.drop (i + 1)).length := by rw [List.length_append, List.length_take, List.length_drop, Nat.min_eq_left (by omega)]; omega
            have hl6 := hide (show (H.take i ++ H.drop (i + 1)).length + 1 = H.length by rw [← hl5]; omega)
            rw [List.nil_append, ← hcs_append, hl5] at hown5
            rw [hl5]
            have OH5 := hide hown5
            clear E4 KG hown5 hg5 OH hl5 hz0 hz1 hz2 hi0
            have D5 := hide (Hd.give (L2 := Lf) (by rw [← hsp.out]; exact DD.out) (fun x => by rw [SF.out x, Int.toNat_natCast]))
            generalize H.take i ++ H.drop (i + 1) = H5 at *
            refine hK.out _ _ ?_ (fun hHeld => ?_)
            · trivial
            clear hK K'
            (try simp only [Act.put, List.setIfInBounds_toArray, List.set_cons_succ, List.set_cons_zero])
            refine wpAnyH_take (i := 10) (oi := ⟨some 8, _, _, _, _, _⟩) (v := ?_) rfl (by kernel_rfl) (by kernel_rfl) (by kernel_rfl) (fun _ _ _ h => h) (Or.inl ⟨by kernel_rfl, ?_⟩) (by assumption) ?_
            rotate_left 1
            · (intro w hSw; (try dsimp only at hSw); go_simp) <;> (with_reducible rfl)
            (try simp only [Act.put, List.setIfInBounds_toArray, List.set_cons_succ, List.set_cons_zero])
            refine wpAnyH_done (by kernel_rfl) ?_ _
            refine NoPanic.normal ?_
            go_wp2
            go_roundw
            case rel => exact ⟨nn + 1, vf, Lf, H5, A5, c5, rfl, by go_num, by have := hl6.out; omega, X2, Y, OF, OH5, VF, D5, K⟩
            case measure => have := hl6.out; simp [lenOf]; omega
          refine AllReadyH.cons (o := ⟨some 12, _, _, _, _, _⟩) rfl (fun K' hK => ?_) AllReadyH.nil
          go_simp
          rw [znC0]
          have CB := hide (Box.new w4 25 (znC p0 nv))
          have HSZ : w4.heap.size ≤ w4.heap.size := KK.out.size
          replace KK := hide (bal KK.out (.cells (znC p0 nv) 25))
          obtain ⟨cb, hcb⟩ : ∃ cb, cb = w4.heap.size := ⟨_, rfl⟩
          have HCB := hide (show w4.heap.size ≤ cb by rw [hcb]; exact HSZ)
          rw [← hcb] at CB ⊢
          clear hcb HSZ
          generalize w4.alloc (.cells (znC p0 nv) 25) = we at *
          refine hK.out _ _ ?_ (fun hHeld => ?_)
          · exact CE.out _ KK.out
          clear hK K'
          (try simp only [Act.put, List.setIfInBounds_toArray, List.set_cons_succ, List.set_cons_zero])
          refine wpAnyH_ready (rs := [11]) (by kernel_rfl) (by simp) ?_
          refine AllReadyH.cons (o := ⟨some 65, _, _, _, _, _⟩) rfl (fun K' hK => ?_) AllReadyH.nil
          go_simp
          refine (FR.out _ KK.out).mono ?_
          rintro e wf ⟨q2, vf, Lf, rfl, of, hbf, zg⟩
          obtain rfl : q = q2 := (zg.ok rfl).1.symm
          have VF := hide (zg.ok rfl).2.1
          have SF := hide (zg.ok rfl).2.2
          have OF := hide (of.mono (Nat.le_trans K.out.size KK.out.size))
          replace CB := hide (CB.out.below hbf)
          replace KK := hide (btrans KK.out hbf)
          clear hbf of zg
          refine hK.out _ _ ?_ (fun hHeld => ?_)
          · exact CE.out _ KK.out
          clear hK K'
          (try simp only [Act.put, List.setIfInBounds_toArray, List.set_cons_succ, List.set_cons_zero])
          refine wpAnyH_take (i := 12) (oi := ⟨some 53, _, _, _, _, _⟩) (v := ?_) rfl (by kernel_rfl) (by kernel_rfl) (by kernel_rfl) (fun _ _ _ h => h) (Or.inl ⟨by kernel_rfl, ?_⟩) (by assumption) ?_
          rotate_left 1
          · (intro w hSw; (try dsimp only at hSw); go_simp) <;> (with_reducible rfl)
          (try simp only [Act.put, List.setIfInBounds_toArray, List.set_cons_succ, List.set_cons_zero])
          refine wpAnyH_take (i := 13) (oi := ⟨some 66, _, _, _, _, _⟩) (v := ?_) rfl (by kernel_rfl) (by kernel_rfl) (by kernel_rfl) (fun _ _ _ h => h) (Or.inl ⟨by kernel_rfl, ?_⟩) (by assumption) ?_
          rotate_left 1
          · (intro w hSw; (try dsimp only at hSw); go_simp) <;> (with_reducible rfl)
          (try simp only [Act.put, List.setIfInBounds_toArray, List.set_cons_succ, List.set_cons_zero])
          refine wpAnyH_take (i := 14) (oi := ⟨some 67, _, _, _, _, _⟩) (v := ?_) rfl (by kernel_rfl) (by kernel_rfl) (by kernel_rfl) (fun _ _ _ h => h) (Or.inl ⟨by kernel_rfl, ?_⟩) (by assumption) ?_
          rotate_left 1
          · (intro w hSw; (try dsimp only at hSw); go_simp) <;> (with_reducible rfl)
          (try simp only [Act.put, List.setIfInBounds_toArray, List.set_cons_succ, List.set_cons_zero])
          refine wpAnyH_ready (rs := [16]) (by kernel_rfl) (by simp) ?_
          refine AllReadyH.cons (o := ⟨none, _, _, _, _, _⟩) rfl (fun K' hK => ?_) AllReadyH.nil
          refine wp_store_row 25 _ _ rfl cb (znC q vf) rfl rfl 25 (znC p0 nv) CB.out (by kernel_rfl) rfl (one_zone OF.out.rd) ?_
          have KS := kp_row (B := w4.heap.size) (cs := znC q vf) CB.out HCB.out
          have CB2 := hide (box_row (cs := znC q vf) CB.out)
          replace OF := hide (OF.out.kp KS (by decide))
          replace KK := hide (KK.out.trans KS.below)
          clear KS CB
          generalize wf.setRow cb (znC q vf) = wg at *
          refine hK.out _ _ ?_ (fun hHeld => ?_)
          · exact CE.out _ KK.out
          clear hK K'
          (try simp only [Act.put, List.setIfInBounds_toArray, List.set_cons_succ, List.set_cons_zero])
          refine wpAnyH_take (i := 17) (oi := ⟨some 13, _, _, _, _, _⟩) (v := ?_) rfl (by kernel_rfl) (by kernel_rfl) (by kernel_rfl) (fun _ _ _ h => h) (Or.inl ⟨by kernel_rfl, ?_⟩) (by assumption) ?_
          rotate_left 1
          · (intro w hSw; (try dsimp only at hSw); go_simp) <;> (with_reducible rfl)
          (try simp only [Act.put, List.setIfInBounds_toArray, List.set_cons_succ, List.set_cons_zero])
          refine wpAnyH_done (by kernel_rfl) ?_ _
          refine NoPanic.normal ?_
          have XG := hide hHeld.1
          replace Y := hide (Y.out.below KK.out)
          replace OH := hide (row_below OH.out KK.out)
          replace K := hide (K.out.trans (KK.out.mono K.out.size))
          clear hHeld CE FR KK X OZ H0 H1 HGL
          go_upto_region 16 with (first | (refine wpList_load_row rfl 25 _ rfl cb rfl 25 (znC q vf) (0, 0) _ CB2.out Try.underlying25 rfl (by kernel_rfl) ?_) | (refine wpList_store_row rfl 25 _ _ rfl g1 (znC q vf) rfl rfl 25 (znC q v) XG.out (by kernel_rfl) rfl (one_zone OF.out.rd) ?_))
          have KS := kp_row (B := w.heap.size) (cs := znC q vf) XG.out GB.out
          have X2 := hide (box_row (cs := znC q vf) XG.out)
          replace Y := hide (Y.out.kp KS (by decide))
          replace OF := hide (OF.out.kp KS (by decide))
          replace OH := hide (row_kp OH.out KS (by decide))
          replace K := hide (K.out.trans KS.below)
          clear KS XG CB2
          generalize wg.setRow g1 (znC q vf) = wh at *
          have hcap : H.length ≤ d := by
            obtain ⟨A9, c9, e9, h9⟩ := row_form OH.out
            injection e9 with _ _ e9
            rw [e9]; exact h9
          obtain ⟨gx, ex, hgl, hgB, _⟩ := row_cell OH.out (show H.length ≠ 0 by omega)
          injection ex with ex; injection ex with ex; subst ex
          have KD := below_drewN (brefl wh) 1
          replace X2 := hide (show Box wh.drew g1 25 (znC q vf) from X2.out.below KD)
          replace Y := hide (show Box wh.drew ga 50 #[.int .u8 s, .int .u8 c] from Y.out.below KD)
          replace OF := hide (show OwZ w.heap.size wh.drew vf Lf from OF.out.below KD)
          replace OH := hide (show OwH w.heap.size wh.drew (.slice (some ⟨gh, 0, none⟩) H.length d) H from row_below OH.out KD)
          replace K := hide (show Below w.heap.size w wh.drew from K.out.trans (KD.mono K.out.size))
          have HGL := hide (show gh < wh.drew.heap.size from Nat.lt_of_lt_of_le hgl KD.size)
          have hi1 : (i : Int) + 1 ≤ (H.length : Int) := by omega
          have hi2 : IntKind.i64.wrap ((i : Int) + 1) = (i : Int) + 1 := IntWalk.i64_in _ (by have := HLE.out; omega)
          have hi3 : (H.length : Int) ≤ (d : Int) := by omega
          have hi4 : (i : Int) ≤ (H.length : Int) := by omega
          have hi5 : (0 : Int) ≤ (i : Int) + 1 := by omega
          have hn1 : i ≤ d := by omega
          have hn2 : i + 1 ≤ H.length := by omega
          have hn3 : H.length ≤ d := hcap
          have hn4 : i + 1 ≤ d := by omega
          obtain ⟨ad, hif, hnews⟩ : ∃ ad : Addr, (if d = i + 1 then some (⟨gh, 0, none⟩ : Addr) else some ⟨gh, (i + 1) * 2, none⟩) = some ad ∧ ∀ W : World, (∀ j u, (hcs H)[j]? = some u → W.cell? ⟨gh, j, none⟩ = some u) → ∀ j u, (hcs (H.drop (i + 1)))[j]? = some u → W.cell? (ad.add j) = some u := by
            by_cases e : d = i + 1
            · refine ⟨_, if_pos e, fun W hW j u hj => ?_⟩
              rw [List.drop_eq_nil_of_le (by omega)] at hj
              simp [hcs] at hj
            · refine ⟨_, if_neg e, fun W hW j u hj => ?_⟩
              rw [hcs_drop, List.getElem?_drop] at hj
              have ea : (⟨gh, (i + 1) * 2, none⟩ : Addr).add j = ⟨gh, (i + 1) * 2 + j, none⟩ := by unfold Addr.add; by_cases h : j = 0 <;> simp [h]
              rw [ea]
              exact hW _ _ hj
          have HNW := hide hnews
          clear KD hgl hgB hcap hnews
          refine wp_region_noPanic ?_
          refine wp_region_held_drew (S := (fun _ => True)) (by kernel_rfl) ?_ (fun hHeld => ?_)
          · trivial
          generalize wh.drew = wi at *
          refine wpAnyH_take (i := 1) (oi := ⟨some 72, _, _, _, _, _⟩) (v := ?_) rfl (by kernel_rfl) (by kernel_rfl) (by kernel_rfl) (fun _ _ _ h => h) (Or.inl ⟨by kernel_rfl, ?_⟩) (by assumption) ?_
          rotate_left 1
          · (intro w hSw; (try dsimp only at hSw); go_simp) <;> (with_reducible rfl)
          (try simp only [Act.put, List.setIfInBounds_toArray, List.set_cons_succ, List.set_cons_zero])
          refine wpAnyH_take (i := 2) (oi := ⟨some 73, _, _, _, _, _⟩) (v := ?_) rfl (by kernel_rfl) (by kernel_rfl) (by kernel_rfl) (fun _ _ _ h => h) (Or.inl ⟨by kernel_rfl, ?_⟩) (by assumption) ?_
          rotate_left 1
          · (intro w hSw; (try dsimp only at hSw); go_simp) <;> (with_reducible rfl)
          (try simp only [Act.put, List.setIfInBounds_toArray, List.set_cons_succ, List.set_cons_zero])
          refine wpAnyH_take (i := 3) (oi := ⟨some 74, _, _, _, _, _⟩) (v := ?_) rfl (by kernel_rfl) (by kernel_rfl) (by kernel_rfl) (fun _ _ _ h => h) (Or.inl ⟨by kernel_rfl, ?_⟩) (by assumption) ?_
          rotate_left 1
          · (intro w hSw; (try dsimp only at hSw); go_simp) <;> (with_reducible rfl)
          (try simp only [Act.put, List.setIfInBounds_toArray, List.set_cons_succ, List.set_cons_zero])
          refine wpAnyH_take (i := 5) (oi := ⟨some 76, _, _, _, _, _⟩) (v := ?_) rfl (by kernel_rfl) (by kernel_rfl) (by kernel_rfl) (fun _ _ _ h => h) (Or.inl ⟨by kernel_rfl, ?_⟩) (by assumption) ?_
          rotate_left 1
          · (intro w hSw; (try dsimp only at hSw); go_simp) <;> (with_reducible rfl)
          (try simp only [Act.put, List.setIfInBounds_toArray, List.set_cons_succ, List.set_cons_zero])
          refine wpAnyH_take (i := 6) (oi := ⟨some 77, _, _, _, _, _⟩) (v := ?_) rfl (by kernel_rfl) (by kernel_rfl) (by kernel_rfl) (fun _ _ _ h => h) (Or.inl ⟨by kernel_rfl, ?_⟩) (by assumption) ?_
          rotate_left 1
          · (intro w hSw; (try dsimp only at hSw); go_simp) <;> (with_reducible rfl)
          (try simp only [Act.put, List.setIfInBounds_toArray, List.set_cons_succ, List.set_cons_zero])
          refine wpAnyH_take (i := 7) (oi := ⟨some 78, _, _, _, _, _⟩) (v := ?_) rfl (by kernel_rfl) (by kernel_rfl) (by kernel_rfl) (fun _ _ _ h => h) (Or.inl ⟨by kernel_rfl, ?_⟩) (by assumption) ?_
          rotate_left 1
          · (intro w hSw; (try dsimp only at hSw); go_simp) <;> (with_reducible rfl)
          (try simp only [Act.put, List.setIfInBounds_toArray, List.set_cons_succ, List.set_cons_zero])
          refine wpAnyH_take (i := 8) (oi := ⟨some 79, _, _, _, _, _⟩) (v := ?_) rfl (by kernel_rfl) (by kernel_rfl) (by kernel_rfl) (fun _ _ _ h => h) (Or.inl ⟨by kernel_rfl, ?_⟩) (by assumption) ?_
          rotate_left 1
          · (intro w hSw; (try dsimp only at hSw); go_simp) <;> (with_reducible rfl)
          (try simp only [Act.put, List.setIfInBounds_toArray, List.set_cons_succ, List.set_cons_zero])
          refine wpAnyH_ready (rs := [0]) (by kernel_rfl) (by simp) ?_
          refine AllReadyH.cons (o := _) rfl (fun K' hK => ?_) AllReadyH.nil
          go_simp
          have M := bal (brefl wi) (.cells #[] 55)
          have EW := hide (show (wi.alloc (.cells #[] 55)).ownsRow w.heap.size 55 2 (.slice (some ⟨wi.heap.size, 0, none⟩) 0 0) 0 [] from row_mono (World.ownsRow_made wi #[] 0 (Nat.le_refl _) (Nat.zero_le _) (by simp)) K.out.size)
          replace X2 := hide (X2.out.below M)
          replace Y := hide (Y.out.below M)
          replace OF := hide (OF.out.below M)
          replace OH := hide (row_below OH.out M)
          replace K := hide (K.out.trans (M.mono K.out.size))
          have NEG := hide (show gh ≠ wi.heap.size from Nat.ne_of_lt HGL.out)
          obtain ⟨ge, hge⟩ : ∃ ge, ge = wi.heap.size := ⟨_, rfl⟩
          rw [← hge] at EW NEG ⊢
          clear hge M HGL
          generalize wi.alloc (.cells #[] 55) = wj at *
          refine hK.out _ _ ?_ (fun hHeld => ?_)
          · trivial
          clear hK K'
          (try simp only [Act.put, List.setIfInBounds_toArray, List.set_cons_succ, List.set_cons_zero])
          refine wpAnyH_ready (rs := [4]) (by kernel_rfl) (by simp) ?_
          refine AllReadyH.cons (o := _) rfl (fun K' hK => ?_) AllReadyH.nil
          obtain ⟨i0, hi0, hz0, hz1, hz2⟩ := info_parts info55
          refine wp_append_own _ (.tmp 71) (.tmp 74) 46 rfl w.heap.size 55 i0 _ 2 16 Try.underlying46 hi0 hz0 hz1 hz2 rfl (by omega) (.slice (some ⟨ge, 0, none⟩) 0 0) 0 [] rfl EW.out ⟨gh, 0, none⟩ i d (hcs (H.take i)) rfl (by rw [hcs_length, List.length_take, Nat.min_eq_left (by omega)]) (OwH.some OH.out (by omega)) (fun u hu => hcs_one _ u hu) (by simp only [maxLen]; have := HLE.out; omega) (by have := HLE.out; omega) K.out.size ?_
          intro v4 wk hown4 hg4 _
          obtain ⟨A4, c4, rfl, _⟩ := row_form hown4
          have KG := Kp.grown (B := w.heap.size) EW.out hg4 (Nat.le_refl _) K.out.size
          replace X2 := hide (X2.out.kp KG (by decide))
          replace Y := hide (Y.out.kp KG (by decide))
          replace OF := hide (OF.out.kp KG (by decide))
          replace K := hide (K.out.trans KG.below)
          replace OH := hide (OH.out.kept hg4 (.inr (fun e => NEG.out (by simpa [Value.ownBlock] using e))))
          have E4 := hide hown4
          clear EW KG hown4 hg4 NEG
          refine hK.out _ _ ?_ (fun hHeld => ?_)
          · trivial
          clear hK K'
          (try simp only [Act.put, List.setIfInBounds_toArray, List.set_cons_succ, List.set_cons_zero])
          refine wpAnyH_ready (rs := [9]) (by kernel_rfl) (by simp) ?_
          refine AllReadyH.cons (o := _) rfl (fun K' hK => ?_) AllReadyH.nil
          refine wp_append_own _ (.tmp 75) (.tmp 79) 46 rfl w.heap.size 55 i0 _ 2 16 Try.underlying46 hi0 hz0 hz1 hz2 rfl (by omega) (.slice A4 (0 + i) c4) (0 + i) ([] ++ hcs (H.take i)) rfl E4.out ad (H.length - (i + 1)) (d - (i + 1)) (hcs (H.drop (i + 1))) rfl (by rw [hcs_length, List.length_drop]) (HNW.out _ (OwH.all OH.out (by omega))) (fun u hu => hcs_one _ u hu) (by simp only [maxLen]; have := HLE.out; omega) (by have := HLE.out; omega) K.out.size ?_
          intro v5 wl hown5 hg5 _
          obtain ⟨A5, c5, rfl, _⟩ := row_form hown5
          have KG := Kp.grown (B := w.heap.size) E4.out hg5 (Nat.le_refl _) K.out.size
          replace X2 := hide (X2.out.kp KG (by decide))
          replace Y := hide (Y.out.kp KG (by decide))
          replace OF := hide (OF.out.kp KG (by decide))
          replace K := hide (K.out.trans KG.below)
          have hl5 : 0 + i + (H.length - (i + 1)) = (H.take i ++ H.drop (i + 1)).length := by rw [List.length_append, List.length_take, List.length_drop, Nat.min_eq_left (by omega)]; omega
          have hl6 := hide (show (H.take i ++ H.drop (i + 1)).length + 1 = H.length by rw [← hl5]; omega)
          rw [List.nil_append, ← hcs_append, hl5] at hown5
          rw [hl5]
          have OH5 := hide hown5
          clear E4 KG hown5 hg5 OH hl5 hz0 hz1 hz2 hi0
          have D5 := hide (Hd.give (L2 := Lf) (by rw [← hsp.out]; exact DD.out) (fun x => by rw [SF.out x, Int.toNat_natCast]))
          generalize H.take i ++ H.drop (i + 1) = H5 at *
          refine hK.out _ _ ?_ (fun hHeld => ?_)
          · trivial
          clear hK K'
          (try simp only [Act.put, List.setIfInBounds_toArray, List.set_cons_succ, List.set_cons_zero])
          refine wpAnyH_take (i := 10) (oi := ⟨some 8, _, _, _, _, _⟩) (v := ?_) rfl (by kernel_rfl) (by kernel_rfl) (by kernel_rfl) (fun _ _ _ h => h) (Or.inl ⟨by kernel_rfl, ?_⟩) (by assumption) ?_
          rotate_left 1
          · (intro w hSw; (try dsimp only at hSw); go_simp) <;> (with_reducible rfl)
          (try simp only [Act.put, List.setIfInBounds_toArray, List.set_cons_succ, List.set_cons_zero])
          refine wpAnyH_done (by kernel_rfl) ?_ _
          refine NoPanic.normal ?_
          go_wp2
          go_roundw
          case rel => exact ⟨nn + 1, vf, Lf, H5, A5, c5, rfl, by go_num, by have := hl6.out; omega, X2, Y, OF, OH5, VF, D5, K⟩
          case measure => have := hl6.out; simp [lenOf]; omega
      · obtain rfl : H = [] := List.eq_nil_of_length_eq_zero (by omega)
        have a0 := Y.out.cell 0
        have a1 := Y.out.cell 1
        simp at a0 a1
        have WH := hide (fun x => Hd.whole DD.out x)
        have LL := hide (fun k hk => Nat.le_trans (lst_len HP.out VV.out.toLst (k := k) hk) (show 256 ≤ 1000000 by omega))
        go_wp2_with fail
        refine (NW.out _).mono ?_
        rintro e wn ⟨q2, vn, Ln, rfl, on, hbn, zg⟩
        obtain rfl : q = q2 := (zg.ok rfl).1.symm
        have HE := hide (vd_eq VV.out (zg.ok rfl).2.1 (fun x => (WH.out x).trans ((zg.ok rfl).2.2 x).symm))
        go_upto_region 18 with (refine wpList_store_row rfl 25 _ _ rfl wn.heap.size (znC q vn) rfl rfl 25 (znC p0 nv) (Box.new wn 25 _) (by kernel_rfl) rfl (one_zone on.rd) ?_)
        have ee : (wn.alloc (.cells #[.int .i64 0, .int .i64 0, .int .i64 0, .int .i64 0, .int .i64 0, .slice none 0 0, .slice none 0 0, .slice none 0 0, .slice none 0 0, .slice none 0 0] 25)).setRow wn.heap.size (znC q vn) = wn.alloc (.cells (znC q vn) 25) := setRow_new wn _ _ 25
        rw [ee]
        have M := bal (brefl wn) (.cells (znC q vn) 25)
        have X2 := hide (Box.new wn 25 (znC q vn))
        have ON := hide (on.rd.below M)
        replace X := hide ((X.out.below hbn).below M)
        replace OZ := hide ((OZ.out.below hbn).below M)
        replace K := hide ((K.out.trans (hbn.mono K.out.size)).trans (M.mono (Nat.le_trans K.out.size hbn.size)))
        obtain ⟨g2, hg2⟩ : ∃ g, g = wn.heap.size := ⟨_, rfl⟩
        rw [← hg2] at X2 ⊢
        clear ee M hbn on zg NW Y OH DD WH a0 a1
        generalize wn.alloc (.cells (znC q vn) 25) = wz at *
        clear hg2
        have SM := hide (same_any q v vn L Ln wz OZ.out.rd ON.out HE.out LL.out)
        obtain ⟨y0, y1, y2, y3, y4, y5, y6, y7, y8, y9⟩ := box_all X.out
        obtain ⟨z0, z1, z2, z3, z4, z5, z6, z7, z8, z9⟩ := box_all X2.out
        go_wp2_with (go_at_call 20; refine SM.out.mono ?_; rintro e w7 ⟨rfl, hb⟩)
        go_ret
        exact ⟨rfl, K.out.trans (hb.mono K.out.size)⟩
  · have d3 : decide ((30 : Int) < (O.length : Int)) = true := decide_eq_true (by omega)
    clear hr hi
    go_enter Try.func13, Try.ntmps13
    go_upto_region 1 with fail
    rw [← hga, ← hW0]
    clear hga hW0
    go_upto_region 2 with (first | (go_at_call 14; refine (AW.out _).mono ?_; rintro e w1 ⟨rfl, hb⟩; replace BX := hide (BX.out.below hb); replace K0 := hide (K0.out.trans (hb.mono K0.out.size)); clear hb; have a0 := BX.out.cell 0; have a1 := BX.out.cell 1; simp at a0 a1))
    go_wp2_with (go_at_call 14; refine (AW.out _).mono ?_; rintro e w3 ⟨rfl, hb⟩)
    go_ret
    exact ⟨rfl, K0.out.trans (hb.mono K0.out.size)⟩
end Go.Proofs.Ytflplldamefhoaa.Bd
