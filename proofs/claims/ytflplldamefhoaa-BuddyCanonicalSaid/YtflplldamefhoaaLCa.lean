import Derived.Test.YtflplldamefhoaaPl4
import Derived.Test.YtflplldamefhoaaR17
import Derived.Test.YtflplldamefhoaaCt2
import Derived.Test.YtflplldamefhoaaBd
import Derived.Test.YtflplldamefhoaaShelf2
namespace Go.Proofs.Ytflplldamefhoaa.Bd
open Go Go.RowKit
set_option linter.unusedVariables false
set_option maxRecDepth 100000 in
set_option maxHeartbeats 16000000 in
theorem law_canonical0 (hS : SortC) (hN : SortN) (s c : Int) (hs : 0 ≤ s ∧ s < 256) (hc : 0 ≤ c ∧ c < 256) (A : Option Addr) (O : List St) (cap : Nat) (w : World) (hr : Sts w A O) (hi : StsIn O) (hl : O.length ≤ 9223372036854775807) : Calls Try.prog 10 #[.int .u8 s, .int .u8 c, .slice A O.length cap] w fun e w' => e = .returned (.bool true) ∧ Below w.heap.size w w' := by
  have AW := hide (fun w1 => awake_any w1)
  have K0 := hide (brefl w)
  by_cases h30 : O.length ≤ 30
  · have d3 : decide ((30 : Int) < (O.length : Int)) = false := decide_eq_false (by omega)
    have PL := hide (fun w1 (hb : Below w.heap.size w w1) => play_any s c hs hc A O cap w1 h30 (hr.below hb) hi)
    unfold PlR at PL
    have HP := hide (pS_par s c)
    obtain ⟨q, hq⟩ : ∃ q, q = pS s c := ⟨_, rfl⟩
    have HQ := hide hq
    rw [← hq] at PL HP
    clear hq hr hi hl
    go_enter Try.func10, Try.ntmps10
    go_upto_region 3 with (first | (go_at_call 14; refine (AW.out _).mono ?_; rintro e w1 ⟨rfl, hb⟩; replace K0 := hide (K0.out.trans (hb.mono K0.out.size)); clear hb; skip))
    go_wp2_with fail
    refine (PL.out _ K0.out).mono ?_
    rintro e w2 ⟨v, L, H, U, d, rfl, oz, oh, hb2, V, D, hH⟩
    have VV := hide V
    have DD := hide D
    have HLE := hide (show H.length ≤ 30 by omega)
    go_upto_region 4 with (refine wpList_store_row rfl 25 _ _ rfl w2.heap.size (znC q v) rfl rfl 25 (znC p0 nv) (Box.new w2 25 _) (by kernel_rfl) rfl (one_zone oz.rd) ?_)
    have ee : (w2.alloc (.cells #[.int .i64 0, .int .i64 0, .int .i64 0, .int .i64 0, .int .i64 0, .slice none 0 0, .slice none 0 0, .slice none 0 0, .slice none 0 0, .slice none 0 0] 25)).setRow w2.heap.size (znC q v) = w2.alloc (.cells (znC q v) 25) := setRow_new w2 _ _ 25
    rw [ee]
    have M := bal (brefl w2) (.cells (znC q v) 25)
    have X := hide (Box.new w2 25 (znC q v))
    have OZ := hide ((oz.mono K0.out.size).below M)
    have OH := hide (row_below (row_mono oh K0.out.size) M)
    skip
    have K := hide ((K0.out.trans (hb2.mono K0.out.size)).trans (M.mono (Nat.le_trans K0.out.size hb2.size)))
    have GB := hide (show w.heap.size ≤ w2.heap.size from Nat.le_trans K0.out.size hb2.size)
    obtain ⟨g1, hg1⟩ : ∃ g, g = w2.heap.size := ⟨_, rfl⟩
    rw [← hg1] at X GB ⊢
    clear ee M hb2 oz oh V D hH PL AW K0
    generalize w2.alloc (.cells (znC q v) 25) = w3 at *
    clear hg1
    have ZIN := hide (fun (W : World) (hb : Below w3.drew.heap.size w3.drew W) => (ZIn.of_vd HP.out VV.out.toLst ((OZ.out.rd.below (below_drewN (brefl w3) 1)).below hb) : ZIn W q v L))
    have FM := hide (fun (W : World) (hb : Below w3.drew.heap.size w3.drew W) => frames_any hS hN q v L W (ZIN.out W hb))
    rw [frs_vd HP.out VV.out] at FM
    have BD := hide (bd_fr HP.out VV.out)
    have HFS := hide (fst_fr HP.out VV.out)
    have F64 := hide (fr_64 HP.out VV.out)
    have HLN := hide (show (fr L 256).length ≤ 256 from fr_len L 256)
    have CN := hide (fun (W : World) (hb : Below w3.drew.heap.size w3.drew W) => count_any q v L W (ZIN.out W hb))
    rw [cnt_frs, frs_vd HP.out VV.out] at CN
    have CK := hide (fun (W : World) (hb : Below w3.drew.heap.size w3.drew W) => check_any q v L W (ZIN.out W hb))
    rw [chk_zero.2 ⟨HP.out, VV.out⟩] at CK
    generalize fr L 256 = fs at *
    have BL := hide (fun (W : World) (hb : Below w3.drew.heap.size w3.drew W) (A1 : Option Addr) (d1 : Nat) (r : Bi W A1 fs) (h : fs.length ≤ d1) => build_any q v L A1 d1 fs W (par_pr HP.out) (ZIN.out W hb).rd r (by have := HLN.out; omega) h F64.out)
    rw [BD.out] at BL
    unfold ZE at BL
    replace X := hide (show Box w3.drew g1 25 (znC q v) from X.out.below (below_drewN (brefl w3) 1))
    replace OZ := hide (show OwZ w.heap.size w3.drew v L from OZ.out.below (below_drewN (brefl w3) 1))
    replace K := hide (show Below w.heap.size w w3.drew from K.out.trans ((below_drewN (brefl w3) 1).mono K.out.size))
    clear OH BD F64
    go_wp2
    refine wp_region_noPanic ?_
    refine wp_region_held_drew (S := (fun W => Box W g1 25 (znC q v))) (by kernel_rfl) ?_ (fun hHeld => ?_)
    · exact X.out
    generalize w3.drew = w4 at *
    have KK := hide (brefl w4)
    refine wpAnyH_take (i := 0) (oi := ⟨some 31, _, _, _, _, _⟩) (v := .agg (znC q v)) rfl (by kernel_rfl) (by kernel_rfl) (by kernel_rfl) (fun _ _ _ h => h) (Or.inl ⟨by kernel_rfl, ?_⟩) (by assumption) ?_
    · (intro w hSw; obtain ⟨y0, y1, y2, y3, y4, y5, y6, y7, y8, y9⟩ := box_all hSw; go_simp) <;> rfl
    (try simp only [Act.put, List.setIfInBounds_toArray, List.set_cons_succ, List.set_cons_zero])
    refine wpAnyH_take (i := 1) (oi := ⟨some 32, _, _, _, _, _⟩) (v := .agg (znC q v)) rfl (by kernel_rfl) (by kernel_rfl) (by kernel_rfl) (fun _ _ _ h => h) (Or.inl ⟨by kernel_rfl, ?_⟩) (by assumption) ?_
    · (intro w hSw; obtain ⟨y0, y1, y2, y3, y4, y5, y6, y7, y8, y9⟩ := box_all hSw; go_simp) <;> rfl
    (try simp only [Act.put, List.setIfInBounds_toArray, List.set_cons_succ, List.set_cons_zero])
    refine wpAnyH_ready (rs := [2, 7]) (by kernel_rfl) (by simp) ?_
    refine AllReadyH.cons (o := ⟨some 33, _, _, _, _, _⟩) rfl (fun K' hK => ?_) ?_
    · go_simp
      refine (FM.out _ KK.out).mono ?_
      rintro e wf ⟨u, rfl, ou, hbf⟩
      obtain ⟨A1, d1, ev1, hd1, r1⟩ := OwI.is ou
      subst ev1
      have RB := hide r1
      have HD1 := hide hd1
      replace KK := hide (btrans KK.out hbf)
      clear hbf ou hd1 r1
      refine hK.out _ _ ?_ (fun hHeld => ?_)
      · exact X.out.below KK.out
      clear hK K'
      (try simp only [Act.put, List.setIfInBounds_toArray, List.set_cons_succ, List.set_cons_zero])
      refine wpAnyH_ready (rs := [3, 7]) (by kernel_rfl) (by simp) ?_
      refine AllReadyH.cons (o := ⟨some 34, _, _, _, _, _⟩) rfl (fun K' hK => ?_) ?_
      · go_simp
        refine (BL.out _ KK.out A1 d1 RB.out HD1.out).mono ?_
        rintro e wb ⟨q2, vb, Lb, rfl, ob, hbb, zg⟩
        obtain rfl : q = q2 := (zg.ok rfl).1.symm
        have HE := hide (vd_eq (zg.ok rfl).2.1 VV.out (fun x => ((zg.ok rfl).2.2 x).trans (HFS.out x)))
        have LL := hide (fun k hk => Nat.le_trans (lst_len HP.out (zg.ok rfl).2.1.toLst (k := k) hk) (show 256 ≤ 1000000 by omega))
        have OB := hide (ob.mono (Nat.le_trans K.out.size KK.out.size))
        replace KK := hide (btrans KK.out hbb)
        clear hbb ob zg
        refine hK.out _ _ ?_ (fun hHeld => ?_)
        · exact X.out.below KK.out
        clear hK K'
        (try simp only [Act.put, List.setIfInBounds_toArray, List.set_cons_succ, List.set_cons_zero])
        refine wpAnyH_take (i := 4) (oi := ⟨some 30, _, _, _, _, _⟩) (v := ?_) rfl (by kernel_rfl) (by kernel_rfl) (by kernel_rfl) (fun _ _ _ h => h) (Or.inl ⟨by kernel_rfl, ?_⟩) (by assumption) ?_
        rotate_left 1
        · (intro w hSw; (try dsimp only at hSw); go_simp) <;> (with_reducible rfl)
        (try simp only [Act.put, List.setIfInBounds_toArray, List.set_cons_succ, List.set_cons_zero])
        refine wpAnyH_take (i := 5) (oi := ⟨some 35, _, _, _, _, _⟩) (v := ?_) rfl (by kernel_rfl) (by kernel_rfl) (by kernel_rfl) (fun _ _ _ h => h) (Or.inl ⟨by kernel_rfl, ?_⟩) (by assumption) ?_
        rotate_left 1
        · (intro w hSw; (try dsimp only at hSw); go_simp) <;> (with_reducible rfl)
        (try simp only [Act.put, List.setIfInBounds_toArray, List.set_cons_succ, List.set_cons_zero])
        refine wpAnyH_take (i := 6) (oi := ⟨some 36, _, _, _, _, _⟩) (v := ?_) rfl (by kernel_rfl) (by kernel_rfl) (by kernel_rfl) (fun _ _ _ h => h) (Or.inl ⟨by kernel_rfl, ?_⟩) (by assumption) ?_
        rotate_left 1
        · (intro w hSw; (try dsimp only at hSw); go_simp) <;> (with_reducible rfl)
        (try simp only [Act.put, List.setIfInBounds_toArray, List.set_cons_succ, List.set_cons_zero])
        refine wpAnyH_ready (rs := [7]) (by kernel_rfl) (by simp) ?_
        refine AllReadyH.cons (o := ⟨some 10, _, _, _, _, _⟩) rfl (fun K' hK => ?_) AllReadyH.nil
        go_simp
        rw [znC0]
        have CB := hide (Box.new wb 25 (znC p0 nv))
        have HSZ : w4.heap.size ≤ wb.heap.size := KK.out.size
        replace OB := hide (OB.out.below (bal (brefl _) (.cells (znC p0 nv) 25)))
        replace KK := hide (bal KK.out (.cells (znC p0 nv) 25))
        obtain ⟨cb, hcb⟩ : ∃ cb, cb = wb.heap.size := ⟨_, rfl⟩
        have HCB := hide (show w4.heap.size ≤ cb by rw [hcb]; exact HSZ)
        rw [← hcb] at CB ⊢
        clear hcb HSZ
        generalize wb.alloc (.cells (znC p0 nv) 25) = we at *
        refine hK.out _ _ ?_ (fun hHeld => ?_)
        · exact X.out.below KK.out
        clear hK K'
        (try simp only [Act.put, List.setIfInBounds_toArray, List.set_cons_succ, List.set_cons_zero])
        refine wpAnyH_ready (rs := [8]) (by kernel_rfl) (by simp) ?_
        refine AllReadyH.cons (o := ⟨none, _, _, _, _, _⟩) rfl (fun K' hK => ?_) AllReadyH.nil
        refine wp_store_row 25 _ _ rfl cb (znC q vb) rfl rfl 25 (znC p0 nv) CB.out (by kernel_rfl) rfl (one_zone OB.out.rd) ?_
        have KS := kp_row (B := w4.heap.size) (cs := znC q vb) CB.out HCB.out
        have CB2 := hide (box_row (cs := znC q vb) CB.out)
        replace OB := hide (OB.out.kp KS (by decide))
        replace KK := hide (KK.out.trans KS.below)
        clear KS CB
        generalize we.setRow cb (znC q vb) = wg at *
        refine hK.out _ _ ?_ (fun hHeld => ?_)
        · exact X.out.below KK.out
        clear hK K'
        (try simp only [Act.put, List.setIfInBounds_toArray, List.set_cons_succ, List.set_cons_zero])
        refine wpAnyH_take (i := 9) (oi := ⟨some 11, _, _, _, _, _⟩) (v := ?_) rfl (by kernel_rfl) (by kernel_rfl) (by kernel_rfl) (fun _ _ _ h => h) (Or.inl ⟨by kernel_rfl, ?_⟩) (by assumption) ?_
        rotate_left 1
        · (intro w hSw; (try dsimp only at hSw); go_simp) <;> (with_reducible rfl)
        (try simp only [Act.put, List.setIfInBounds_toArray, List.set_cons_succ, List.set_cons_zero])
        refine wpAnyH_done (by kernel_rfl) ?_ _
        refine NoPanic.normal ?_
        replace X := hide (show Box wg.drew g1 25 (znC q v) from (hHeld).below (below_drewN (brefl wg) 1))
        replace CB2 := hide (show Box wg.drew cb 25 (znC q vb) from CB2.out.below (below_drewN (brefl wg) 1))
        replace OB := hide (show OwZ w.heap.size wg.drew vb Lb from OB.out.below (below_drewN (brefl wg) 1))
        replace KK := hide (show Below w4.heap.size w4 wg.drew from btrans KK.out (below_drewN (brefl wg) 1))
        clear hHeld RB
        have SM := hide (fun (W : World) (hb : Below w4.heap.size w4 W) (o : OwZ w.heap.size W vb Lb) => same_any q vb v Lb L W o.rd (ZIN.out W hb).rd HE.out LL.out)
        go_wp2
        refine wp_region_noPanic ?_
        refine wp_region_held_drew (S := (fun W => Box W g1 25 (znC q v) ∧ Box W cb 25 (znC q vb))) (by kernel_rfl) ?_ (fun hHeld => ?_)
        · exact ⟨X.out, CB2.out⟩
        generalize wg.drew = w5 at *
        refine wpAnyH_take (i := 0) (oi := ⟨some 37, _, _, _, _, _⟩) (v := ?_) rfl (by kernel_rfl) (by kernel_rfl) (by kernel_rfl) (fun _ _ _ h => h) (Or.inl ⟨by kernel_rfl, ?_⟩) (by assumption) ?_
        rotate_left 1
        · (intro w hSw; (try dsimp only at hSw); go_simp) <;> (with_reducible rfl)
        (try simp only [Act.put, List.setIfInBounds_toArray, List.set_cons_succ, List.set_cons_zero])
        refine wpAnyH_take (i := 1) (oi := ⟨some 38, _, _, _, _, _⟩) (v := ?_) rfl (by kernel_rfl) (by kernel_rfl) (by kernel_rfl) (fun _ _ _ h => h) (Or.inl ⟨by kernel_rfl, ?_⟩) (by assumption) ?_
        rotate_left 1
        · (intro w hSw; (try dsimp only at hSw); go_simp) <;> (with_reducible rfl)
        (try simp only [Act.put, List.setIfInBounds_toArray, List.set_cons_succ, List.set_cons_zero])
        refine wpAnyH_take (i := 2) (oi := ⟨some 39, _, _, _, _, _⟩) (v := ?_) rfl (by kernel_rfl) (by kernel_rfl) (by kernel_rfl) (fun _ _ _ h => h) (Or.inl ⟨by kernel_rfl, ?_⟩) (by assumption) ?_
        rotate_left 1
        · (intro w hSw; (try dsimp only at hSw); go_simp) <;> (with_reducible rfl)
        (try simp only [Act.put, List.setIfInBounds_toArray, List.set_cons_succ, List.set_cons_zero])
        refine wpAnyH_take (i := 3) (oi := ⟨some 40, _, _, _, _, _⟩) (v := .agg (znC q vb)) rfl (by kernel_rfl) (by kernel_rfl) (by kernel_rfl) (fun _ _ _ h => h) (Or.inl ⟨by kernel_rfl, ?_⟩) (by assumption) ?_
        · (intro w hSw; obtain ⟨y0, y1, y2, y3, y4, y5, y6, y7, y8, y9⟩ := box_all hSw.2; go_simp) <;> rfl
        (try simp only [Act.put, List.setIfInBounds_toArray, List.set_cons_succ, List.set_cons_zero])
        refine wpAnyH_take (i := 4) (oi := ⟨some 41, _, _, _, _, _⟩) (v := .agg (znC q v)) rfl (by kernel_rfl) (by kernel_rfl) (by kernel_rfl) (fun _ _ _ h => h) (Or.inl ⟨by kernel_rfl, ?_⟩) (by assumption) ?_
        · (intro w hSw; obtain ⟨y0, y1, y2, y3, y4, y5, y6, y7, y8, y9⟩ := box_all hSw.1; go_simp) <;> rfl
        (try simp only [Act.put, List.setIfInBounds_toArray, List.set_cons_succ, List.set_cons_zero])
        refine wpAnyH_ready (rs := [5]) (by kernel_rfl) (by simp) ?_
        refine AllReadyH.cons (o := _) rfl (fun K' hK => ?_) AllReadyH.nil
        go_simp
        refine (SM.out _ KK.out OB.out).mono ?_
        rintro e w8 ⟨rfl, hb⟩
        replace X := hide (X.out.below hb); replace CB2 := hide (CB2.out.below hb); replace KK := hide (btrans KK.out hb); clear hb
        refine hK.out _ _ ?_ (fun hHeld => ?_)
        · exact ⟨X.out, CB2.out⟩
        clear hK K'
        (try simp only [Act.put, List.setIfInBounds_toArray, List.set_cons_succ, List.set_cons_zero])
        refine wpAnyH_take (i := 6) (oi := ⟨some 43, _, _, _, _, _⟩) (v := ?_) rfl (by kernel_rfl) (by kernel_rfl) (by kernel_rfl) (fun _ _ _ h => h) (Or.inl ⟨by kernel_rfl, ?_⟩) (by assumption) ?_
        rotate_left 1
        · (intro w hSw; (try dsimp only at hSw); go_simp) <;> (with_reducible rfl)
        (try simp only [Act.put, List.setIfInBounds_toArray, List.set_cons_succ, List.set_cons_zero])
        refine wpAnyH_take (i := 7) (oi := ⟨some 44, _, _, _, _, _⟩) (v := ?_) rfl (by kernel_rfl) (by kernel_rfl) (by kernel_rfl) (fun _ _ _ h => h) (Or.inl ⟨by kernel_rfl, ?_⟩) (by assumption) ?_
        rotate_left 1
        · (intro w hSw; (try dsimp only at hSw); go_simp) <;> (with_reducible rfl)
        (try simp only [Act.put, List.setIfInBounds_toArray, List.set_cons_succ, List.set_cons_zero])
        refine wpAnyH_take (i := 8) (oi := ⟨some 45, _, _, _, _, _⟩) (v := .agg (znC q v)) rfl (by kernel_rfl) (by kernel_rfl) (by kernel_rfl) (fun _ _ _ h => h) (Or.inl ⟨by kernel_rfl, ?_⟩) (by assumption) ?_
        · (intro w hSw; obtain ⟨y0, y1, y2, y3, y4, y5, y6, y7, y8, y9⟩ := box_all hSw.1; go_simp) <;> rfl
        (try simp only [Act.put, List.setIfInBounds_toArray, List.set_cons_succ, List.set_cons_zero])
        refine wpAnyH_ready (rs := [9]) (by kernel_rfl) (by simp) ?_
        refine AllReadyH.cons (o := _) rfl (fun K' hK => ?_) AllReadyH.nil
        go_simp
        refine (CK.out _ KK.out).mono ?_
        rintro e w8 ⟨rfl, hb⟩
        replace X := hide (X.out.below hb); replace CB2 := hide (CB2.out.below hb); replace KK := hide (btrans KK.out hb); clear hb
        refine hK.out _ _ ?_ (fun hHeld => ?_)
        · exact ⟨X.out, CB2.out⟩
        clear hK K'
        (try simp only [Act.put, List.setIfInBounds_toArray, List.set_cons_succ, List.set_cons_zero])
        refine wpAnyH_take (i := 10) (oi := ⟨some 47, _, _, _, _, _⟩) (v := ?_) rfl (by kernel_rfl) (by kernel_rfl) (by kernel_rfl) (fun _ _ _ h => h) (Or.inl ⟨by kernel_rfl, ?_⟩) (by assumption) ?_
        rotate_left 1
        · (intro w hSw; (try dsimp only at hSw); go_simp) <;> (with_reducible rfl)
        (try simp only [Act.put, List.setIfInBounds_toArray, List.set_cons_succ, List.set_cons_zero])
        refine wpAnyH_take (i := 11) (oi := ⟨some 48, _, _, _, _, _⟩) (v := ?_) rfl (by kernel_rfl) (by kernel_rfl) (by kernel_rfl) (fun _ _ _ h => h) (Or.inl ⟨by kernel_rfl, ?_⟩) (by assumption) ?_
        rotate_left 1
        · (intro w hSw; (try dsimp only at hSw); go_simp) <;> (with_reducible rfl)
        (try simp only [Act.put, List.setIfInBounds_toArray, List.set_cons_succ, List.set_cons_zero])
        refine wpAnyH_take (i := 12) (oi := ⟨some 49, _, _, _, _, _⟩) (v := ?_) rfl (by kernel_rfl) (by kernel_rfl) (by kernel_rfl) (fun _ _ _ h => h) (Or.inl ⟨by kernel_rfl, ?_⟩) (by assumption) ?_
        rotate_left 1
        · (intro w hSw; (try dsimp only at hSw); go_simp) <;> (with_reducible rfl)
        (try simp only [Act.put, List.setIfInBounds_toArray, List.set_cons_succ, List.set_cons_zero])
        refine wpAnyH_take (i := 13) (oi := ⟨some 50, _, _, _, _, _⟩) (v := .agg (znC q v)) rfl (by kernel_rfl) (by kernel_rfl) (by kernel_rfl) (fun _ _ _ h => h) (Or.inl ⟨by kernel_rfl, ?_⟩) (by assumption) ?_
        · (intro w hSw; obtain ⟨y0, y1, y2, y3, y4, y5, y6, y7, y8, y9⟩ := box_all hSw.1; go_simp) <;> rfl
        (try simp only [Act.put, List.setIfInBounds_toArray, List.set_cons_succ, List.set_cons_zero])
        refine wpAnyH_take (i := 16) (oi := ⟨some 53, _, _, _, _, _⟩) (v := .agg (znC q v)) rfl (by kernel_rfl) (by kernel_rfl) (by kernel_rfl) (fun _ _ _ h => h) (Or.inl ⟨by kernel_rfl, ?_⟩) (by assumption) ?_
        · (intro w hSw; obtain ⟨y0, y1, y2, y3, y4, y5, y6, y7, y8, y9⟩ := box_all hSw.1; go_simp) <;> rfl
        (try simp only [Act.put, List.setIfInBounds_toArray, List.set_cons_succ, List.set_cons_zero])
        refine wpAnyH_ready (rs := [14]) (by kernel_rfl) (by simp) ?_
        refine AllReadyH.cons (o := _) rfl (fun K' hK => ?_) AllReadyH.nil
        go_simp
        refine (FM.out _ KK.out).mono ?_
        rintro e w8 ⟨u2, rfl, ou, hb⟩
        obtain ⟨A2, d2, ev2, hd2, r2⟩ := OwI.is ou
        subst ev2
        clear ou hd2 r2
        replace X := hide (X.out.below hb); replace CB2 := hide (CB2.out.below hb); replace KK := hide (btrans KK.out hb); clear hb
        refine hK.out _ _ ?_ (fun hHeld => ?_)
        · exact ⟨X.out, CB2.out⟩
        clear hK K'
        (try simp only [Act.put, List.setIfInBounds_toArray, List.set_cons_succ, List.set_cons_zero])
        refine wpAnyH_take (i := 15) (oi := ⟨some 52, _, _, _, _, _⟩) (v := ?_) rfl (by kernel_rfl) (by kernel_rfl) (by kernel_rfl) (fun _ _ _ h => h) (Or.inl ⟨by kernel_rfl, ?_⟩) (by assumption) ?_
        rotate_left 1
        · (intro w hSw; (try dsimp only at hSw); go_simp) <;> (with_reducible rfl)
        (try simp only [Act.put, List.setIfInBounds_toArray, List.set_cons_succ, List.set_cons_zero])
        refine wpAnyH_ready (rs := [17]) (by kernel_rfl) (by simp) ?_
        refine AllReadyH.cons (o := _) rfl (fun K' hK => ?_) AllReadyH.nil
        go_simp
        refine (CN.out _ KK.out).mono ?_
        rintro e w8 ⟨rfl, hb⟩
        replace X := hide (X.out.below hb); replace CB2 := hide (CB2.out.below hb); replace KK := hide (btrans KK.out hb); clear hb
        refine hK.out _ _ ?_ (fun hHeld => ?_)
        · exact ⟨X.out, CB2.out⟩
        clear hK K'
        (try simp only [Act.put, List.setIfInBounds_toArray, List.set_cons_succ, List.set_cons_zero])
        refine wpAnyH_take (i := 18) (oi := ⟨some 55, _, _, _, _, _⟩) (v := ?_) rfl (by kernel_rfl) (by kernel_rfl) (by kernel_rfl) (fun _ _ _ h => h) (Or.inl ⟨by kernel_rfl, ?_⟩) (by assumption) ?_
        rotate_left 1
        · (intro w hSw; (try dsimp only at hSw); go_simp) <;> (with_reducible rfl)
        (try simp only [Act.put, List.setIfInBounds_toArray, List.set_cons_succ, List.set_cons_zero])
        refine wpAnyH_take (i := 19) (oi := ⟨some 56, _, _, _, _, _⟩) (v := ?_) rfl (by kernel_rfl) (by kernel_rfl) (by kernel_rfl) (fun _ _ _ h => h) (Or.inl ⟨by kernel_rfl, ?_⟩) (by assumption) ?_
        rotate_left 1
        · (intro w hSw; (try dsimp only at hSw); go_simp) <;> (with_reducible rfl)
        (try simp only [Act.put, List.setIfInBounds_toArray, List.set_cons_succ, List.set_cons_zero])
        refine wpAnyH_take (i := 20) (oi := ⟨some 6, _, _, _, _, _⟩) (v := ?_) rfl (by kernel_rfl) (by kernel_rfl) (by kernel_rfl) (fun _ _ _ h => h) (Or.inl ⟨by kernel_rfl, ?_⟩) (by assumption) ?_
        rotate_left 1
        · (intro w hSw; (try dsimp only at hSw); go_simp) <;> (with_reducible rfl)
        (try simp only [Act.put, List.setIfInBounds_toArray, List.set_cons_succ, List.set_cons_zero])
        refine wpAnyH_done (by kernel_rfl) ?_ _
        refine NoPanic.normal ?_
        go_wp2
        go_ret
        exact ⟨by simp, K.out.trans (KK.out.mono K.out.size)⟩
      refine AllReadyH.cons (o := ⟨some 10, _, _, _, _, _⟩) rfl (fun K' hK => ?_) AllReadyH.nil
      go_simp
      rw [znC0]
      have CB := hide (Box.new wf 25 (znC p0 nv))
      have HSZ : w4.heap.size ≤ wf.heap.size := KK.out.size
      replace RB := hide (RB.out.below (bal (brefl _) (.cells (znC p0 nv) 25)))
      replace KK := hide (bal KK.out (.cells (znC p0 nv) 25))
      obtain ⟨cb, hcb⟩ : ∃ cb, cb = wf.heap.size := ⟨_, rfl⟩
      have HCB := hide (show w4.heap.size ≤ cb by rw [hcb]; exact HSZ)
      rw [← hcb] at CB ⊢
      clear hcb HSZ
      generalize wf.alloc (.cells (znC p0 nv) 25) = we at *
      refine hK.out _ _ ?_ (fun hHeld => ?_)
      · exact X.out.below KK.out
      clear hK K'
      (try simp only [Act.put, List.setIfInBounds_toArray, List.set_cons_succ, List.set_cons_zero])
      refine wpAnyH_ready (rs := [3]) (by kernel_rfl) (by simp) ?_
      refine AllReadyH.cons (o := ⟨some 34, _, _, _, _, _⟩) rfl (fun K' hK => ?_) AllReadyH.nil
      go_simp
      refine (BL.out _ KK.out A1 d1 RB.out HD1.out).mono ?_
      rintro e wb ⟨q2, vb, Lb, rfl, ob, hbb, zg⟩
      obtain rfl : q = q2 := (zg.ok rfl).1.symm
      have HE := hide (vd_eq (zg.ok rfl).2.1 VV.out (fun x => ((zg.ok rfl).2.2 x).trans (HFS.out x)))
      have LL := hide (fun k hk => Nat.le_trans (lst_len HP.out (zg.ok rfl).2.1.toLst (k := k) hk) (show 256 ≤ 1000000 by omega))
      have OB := hide (ob.mono (Nat.le_trans K.out.size KK.out.size))
      replace CB := hide (CB.out.below hbb)
      replace KK := hide (btrans KK.out hbb)
      clear hbb ob zg
      refine hK.out _ _ ?_ (fun hHeld => ?_)
      · exact X.out.below KK.out
      clear hK K'
      (try simp only [Act.put, List.setIfInBounds_toArray, List.set_cons_succ, List.set_cons_zero])
      refine wpAnyH_take (i := 4) (oi := ⟨some 30, _, _, _, _, _⟩) (v := ?_) rfl (by kernel_rfl) (by kernel_rfl) (by kernel_rfl) (fun _ _ _ h => h) (Or.inl ⟨by kernel_rfl, ?_⟩) (by assumption) ?_
      rotate_left 1
      · (intro w hSw; (try dsimp only at hSw); go_simp) <;> (with_reducible rfl)
      (try simp only [Act.put, List.setIfInBounds_toArray, List.set_cons_succ, List.set_cons_zero])
      refine wpAnyH_take (i := 5) (oi := ⟨some 35, _, _, _, _, _⟩) (v := ?_) rfl (by kernel_rfl) (by kernel_rfl) (by kernel_rfl) (fun _ _ _ h => h) (Or.inl ⟨by kernel_rfl, ?_⟩) (by assumption) ?_
      rotate_left 1
      · (intro w hSw; (try dsimp only at hSw); go_simp) <;> (with_reducible rfl)
      (try simp only [Act.put, List.setIfInBounds_toArray, List.set_cons_succ, List.set_cons_zero])
      refine wpAnyH_take (i := 6) (oi := ⟨some 36, _, _, _, _, _⟩) (v := ?_) rfl (by kernel_rfl) (by kernel_rfl) (by kernel_rfl) (fun _ _ _ h => h) (Or.inl ⟨by kernel_rfl, ?_⟩) (by assumption) ?_
      rotate_left 1
      · (intro w hSw; (try dsimp only at hSw); go_simp) <;> (with_reducible rfl)
      (try simp only [Act.put, List.setIfInBounds_toArray, List.set_cons_succ, List.set_cons_zero])
      refine wpAnyH_ready (rs := [8]) (by kernel_rfl) (by simp) ?_
      refine AllReadyH.cons (o := ⟨none, _, _, _, _, _⟩) rfl (fun K' hK => ?_) AllReadyH.nil
      refine wp_store_row 25 _ _ rfl cb (znC q vb) rfl rfl 25 (znC p0 nv) CB.out (by kernel_rfl) rfl (one_zone OB.out.rd) ?_
      have KS := kp_row (B := w4.heap.size) (cs := znC q vb) CB.out HCB.out
      have CB2 := hide (box_row (cs := znC q vb) CB.out)
      replace OB := hide (OB.out.kp KS (by decide))
      replace KK := hide (KK.out.trans KS.below)
      clear KS CB
      generalize wb.setRow cb (znC q vb) = wg at *
      refine hK.out _ _ ?_ (fun hHeld => ?_)
      · exact X.out.below KK.out
      clear hK K'
      (try simp only [Act.put, List.setIfInBounds_toArray, List.set_cons_succ, List.set_cons_zero])
      refine wpAnyH_take (i := 9) (oi := ⟨some 11, _, _, _, _, _⟩) (v := ?_) rfl (by kernel_rfl) (by kernel_rfl) (by kernel_rfl) (fun _ _ _ h => h) (Or.inl ⟨by kernel_rfl, ?_⟩) (by assumption) ?_
      rotate_left 1
      · (intro w hSw; (try dsimp only at hSw); go_simp) <;> (with_reducible rfl)
      (try simp only [Act.put, List.setIfInBounds_toArray, List.set_cons_succ, List.set_cons_zero])
      refine wpAnyH_done (by kernel_rfl) ?_ _
      refine NoPanic.normal ?_
      replace X := hide (show Box wg.drew g1 25 (znC q v) from (hHeld).below (below_drewN (brefl wg) 1))
      replace CB2 := hide (show Box wg.drew cb 25 (znC q vb) from CB2.out.below (below_drewN (brefl wg) 1))
      replace OB := hide (show OwZ w.heap.size wg.drew vb Lb from OB.out.below (below_drewN (brefl wg) 1))
      replace KK := hide (show Below w4.heap.size w4 wg.drew from btrans KK.out (below_drewN (brefl wg) 1))
      clear hHeld RB
      have SM := hide (fun (W : World) (hb : Below w4.heap.size w4 W) (o : OwZ w.heap.size W vb Lb) => same_any q vb v Lb L W o.rd (ZIN.out W hb).rd HE.out LL.out)
      go_wp2
      refine wp_region_noPanic ?_
      refine wp_region_held_drew (S := (fun W => Box W g1 25 (znC q v) ∧ Box W cb 25 (znC q vb))) (by kernel_rfl) ?_ (fun hHeld => ?_)
      · exact ⟨X.out, CB2.out⟩
      generalize wg.drew = w5 at *
      refine wpAnyH_take (i := 0) (oi := ⟨some 37, _, _, _, _, _⟩) (v := ?_) rfl (by kernel_rfl) (by kernel_rfl) (by kernel_rfl) (fun _ _ _ h => h) (Or.inl ⟨by kernel_rfl, ?_⟩) (by assumption) ?_
      rotate_left 1
      · (intro w hSw; (try dsimp only at hSw); go_simp) <;> (with_reducible rfl)
      (try simp only [Act.put, List.setIfInBounds_toArray, List.set_cons_succ, List.set_cons_zero])
      refine wpAnyH_take (i := 1) (oi := ⟨some 38, _, _, _, _, _⟩) (v := ?_) rfl (by kernel_rfl) (by kernel_rfl) (by kernel_rfl) (fun _ _ _ h => h) (Or.inl ⟨by kernel_rfl, ?_⟩) (by assumption) ?_
      rotate_left 1
      · (intro w hSw; (try dsimp only at hSw); go_simp) <;> (with_reducible rfl)
      (try simp only [Act.put, List.setIfInBounds_toArray, List.set_cons_succ, List.set_cons_zero])
      refine wpAnyH_take (i := 2) (oi := ⟨some 39, _, _, _, _, _⟩) (v := ?_) rfl (by kernel_rfl) (by kernel_rfl) (by kernel_rfl) (fun _ _ _ h => h) (Or.inl ⟨by kernel_rfl, ?_⟩) (by assumption) ?_
      rotate_left 1
      · (intro w hSw; (try dsimp only at hSw); go_simp) <;> (with_reducible rfl)
      (try simp only [Act.put, List.setIfInBounds_toArray, List.set_cons_succ, List.set_cons_zero])
      refine wpAnyH_take (i := 3) (oi := ⟨some 40, _, _, _, _, _⟩) (v := .agg (znC q vb)) rfl (by kernel_rfl) (by kernel_rfl) (by kernel_rfl) (fun _ _ _ h => h) (Or.inl ⟨by kernel_rfl, ?_⟩) (by assumption) ?_
      · (intro w hSw; obtain ⟨y0, y1, y2, y3, y4, y5, y6, y7, y8, y9⟩ := box_all hSw.2; go_simp) <;> rfl
      (try simp only [Act.put, List.setIfInBounds_toArray, List.set_cons_succ, List.set_cons_zero])
      refine wpAnyH_take (i := 4) (oi := ⟨some 41, _, _, _, _, _⟩) (v := .agg (znC q v)) rfl (by kernel_rfl) (by kernel_rfl) (by kernel_rfl) (fun _ _ _ h => h) (Or.inl ⟨by kernel_rfl, ?_⟩) (by assumption) ?_
      · (intro w hSw; obtain ⟨y0, y1, y2, y3, y4, y5, y6, y7, y8, y9⟩ := box_all hSw.1; go_simp) <;> rfl
      (try simp only [Act.put, List.setIfInBounds_toArray, List.set_cons_succ, List.set_cons_zero])
      refine wpAnyH_ready (rs := [5]) (by kernel_rfl) (by simp) ?_
      refine AllReadyH.cons (o := _) rfl (fun K' hK => ?_) AllReadyH.nil
      go_simp
      refine (SM.out _ KK.out OB.out).mono ?_
      rintro e w8 ⟨rfl, hb⟩
      replace X := hide (X.out.below hb); replace CB2 := hide (CB2.out.below hb); replace KK := hide (btrans KK.out hb); clear hb
      refine hK.out _ _ ?_ (fun hHeld => ?_)
      · exact ⟨X.out, CB2.out⟩
      clear hK K'
      (try simp only [Act.put, List.setIfInBounds_toArray, List.set_cons_succ, List.set_cons_zero])
      refine wpAnyH_take (i := 6) (oi := ⟨some 43, _, _, _, _, _⟩) (v := ?_) rfl (by kernel_rfl) (by kernel_rfl) (by kernel_rfl) (fun _ _ _ h => h) (Or.inl ⟨by kernel_rfl, ?_⟩) (by assumption) ?_
      rotate_left 1
      · (intro w hSw; (try dsimp only at hSw); go_simp) <;> (with_reducible rfl)
      (try simp only [Act.put, List.setIfInBounds_toArray, List.set_cons_succ, List.set_cons_zero])
      refine wpAnyH_take (i := 7) (oi := ⟨some 44, _, _, _, _, _⟩) (v := ?_) rfl (by kernel_rfl) (by kernel_rfl) (by kernel_rfl) (fun _ _ _ h => h) (Or.inl ⟨by kernel_rfl, ?_⟩) (by assumption) ?_
      rotate_left 1
      · (intro w hSw; (try dsimp only at hSw); go_simp) <;> (with_reducible rfl)
      (try simp only [Act.put, List.setIfInBounds_toArray, List.set_cons_succ, List.set_cons_zero])
      refine wpAnyH_take (i := 8) (oi := ⟨some 45, _, _, _, _, _⟩) (v := .agg (znC q v)) rfl (by kernel_rfl) (by kernel_rfl) (by kernel_rfl) (fun _ _ _ h => h) (Or.inl ⟨by kernel_rfl, ?_⟩) (by assumption) ?_
      · (intro w hSw; obtain ⟨y0, y1, y2, y3, y4, y5, y6, y7, y8, y9⟩ := box_all hSw.1; go_simp) <;> rfl
      (try simp only [Act.put, List.setIfInBounds_toArray, List.set_cons_succ, List.set_cons_zero])
      refine wpAnyH_ready (rs := [9]) (by kernel_rfl) (by simp) ?_
      refine AllReadyH.cons (o := _) rfl (fun K' hK => ?_) AllReadyH.nil
      go_simp
      refine (CK.out _ KK.out).mono ?_
      rintro e w8 ⟨rfl, hb⟩
      replace X := hide (X.out.below hb); replace CB2 := hide (CB2.out.below hb); replace KK := hide (btrans KK.out hb); clear hb
      refine hK.out _ _ ?_ (fun hHeld => ?_)
      · exact ⟨X.out, CB2.out⟩
      clear hK K'
      (try simp only [Act.put, List.setIfInBounds_toArray, List.set_cons_succ, List.set_cons_zero])
      refine wpAnyH_take (i := 10) (oi := ⟨some 47, _, _, _, _, _⟩) (v := ?_) rfl (by kernel_rfl) (by kernel_rfl) (by kernel_rfl) (fun _ _ _ h => h) (Or.inl ⟨by kernel_rfl, ?_⟩) (by assumption) ?_
      rotate_left 1
      · (intro w hSw; (try dsimp only at hSw); go_simp) <;> (with_reducible rfl)
      (try simp only [Act.put, List.setIfInBounds_toArray, List.set_cons_succ, List.set_cons_zero])
      refine wpAnyH_take (i := 11) (oi := ⟨some 48, _, _, _, _, _⟩) (v := ?_) rfl (by kernel_rfl) (by kernel_rfl) (by kernel_rfl) (fun _ _ _ h => h) (Or.inl ⟨by kernel_rfl, ?_⟩) (by assumption) ?_
      rotate_left 1
      · (intro w hSw; (try dsimp only at hSw); go_simp) <;> (with_reducible rfl)
      (try simp only [Act.put, List.setIfInBounds_toArray, List.set_cons_succ, List.set_cons_zero])
      refine wpAnyH_take (i := 12) (oi := ⟨some 49, _, _, _, _, _⟩) (v := ?_) rfl (by kernel_rfl) (by kernel_rfl) (by kernel_rfl) (fun _ _ _ h => h) (Or.inl ⟨by kernel_rfl, ?_⟩) (by assumption) ?_
      rotate_left 1
      · (intro w hSw; (try dsimp only at hSw); go_simp) <;> (with_reducible rfl)
      (try simp only [Act.put, List.setIfInBounds_toArray, List.set_cons_succ, List.set_cons_zero])
      refine wpAnyH_take (i := 13) (oi := ⟨some 50, _, _, _, _, _⟩) (v := .agg (znC q v)) rfl (by kernel_rfl) (by kernel_rfl) (by kernel_rfl) (fun _ _ _ h => h) (Or.inl ⟨by kernel_rfl, ?_⟩) (by assumption) ?_
      · (intro w hSw; obtain ⟨y0, y1, y2, y3, y4, y5, y6, y7, y8, y9⟩ := box_all hSw.1; go_simp) <;> rfl
      (try simp only [Act.put, List.setIfInBounds_toArray, List.set_cons_succ, List.set_cons_zero])
      refine wpAnyH_take (i := 16) (oi := ⟨some 53, _, _, _, _, _⟩) (v := .agg (znC q v)) rfl (by kernel_rfl) (by kernel_rfl) (by kernel_rfl) (fun _ _ _ h => h) (Or.inl ⟨by kernel_rfl, ?_⟩) (by assumption) ?_
      · (intro w hSw; obtain ⟨y0, y1, y2, y3, y4, y5, y6, y7, y8, y9⟩ := box_all hSw.1; go_simp) <;> rfl
      (try simp only [Act.put, List.setIfInBounds_toArray, List.set_cons_succ, List.set_cons_zero])
      refine wpAnyH_ready (rs := [14]) (by kernel_rfl) (by simp) ?_
      refine AllReadyH.cons (o := _) rfl (fun K' hK => ?_) AllReadyH.nil
      go_simp
      refine (FM.out _ KK.out).mono ?_
      rintro e w8 ⟨u2, rfl, ou, hb⟩
      obtain ⟨A2, d2, ev2, hd2, r2⟩ := OwI.is ou
      subst ev2
      clear ou hd2 r2
      replace X := hide (X.out.below hb); replace CB2 := hide (CB2.out.below hb); replace KK := hide (btrans KK.out hb); clear hb
      refine hK.out _ _ ?_ (fun hHeld => ?_)
      · exact ⟨X.out, CB2.out⟩
      clear hK K'
      (try simp only [Act.put, List.setIfInBounds_toArray, List.set_cons_succ, List.set_cons_zero])
      refine wpAnyH_take (i := 15) (oi := ⟨some 52, _, _, _, _, _⟩) (v := ?_) rfl (by kernel_rfl) (by kernel_rfl) (by kernel_rfl) (fun _ _ _ h => h) (Or.inl ⟨by kernel_rfl, ?_⟩) (by assumption) ?_
      rotate_left 1
      · (intro w hSw; (try dsimp only at hSw); go_simp) <;> (with_reducible rfl)
      (try simp only [Act.put, List.setIfInBounds_toArray, List.set_cons_succ, List.set_cons_zero])
      refine wpAnyH_ready (rs := [17]) (by kernel_rfl) (by simp) ?_
      refine AllReadyH.cons (o := _) rfl (fun K' hK => ?_) AllReadyH.nil
      go_simp
      refine (CN.out _ KK.out).mono ?_
      rintro e w8 ⟨rfl, hb⟩
      replace X := hide (X.out.below hb); replace CB2 := hide (CB2.out.below hb); replace KK := hide (btrans KK.out hb); clear hb
      refine hK.out _ _ ?_ (fun hHeld => ?_)
      · exact ⟨X.out, CB2.out⟩
      clear hK K'
      (try simp only [Act.put, List.setIfInBounds_toArray, List.set_cons_succ, List.set_cons_zero])
      refine wpAnyH_take (i := 18) (oi := ⟨some 55, _, _, _, _, _⟩) (v := ?_) rfl (by kernel_rfl) (by kernel_rfl) (by kernel_rfl) (fun _ _ _ h => h) (Or.inl ⟨by kernel_rfl, ?_⟩) (by assumption) ?_
      rotate_left 1
      · (intro w hSw; (try dsimp only at hSw); go_simp) <;> (with_reducible rfl)
      (try simp only [Act.put, List.setIfInBounds_toArray, List.set_cons_succ, List.set_cons_zero])
      refine wpAnyH_take (i := 19) (oi := ⟨some 56, _, _, _, _, _⟩) (v := ?_) rfl (by kernel_rfl) (by kernel_rfl) (by kernel_rfl) (fun _ _ _ h => h) (Or.inl ⟨by kernel_rfl, ?_⟩) (by assumption) ?_
      rotate_left 1
      · (intro w hSw; (try dsimp only at hSw); go_simp) <;> (with_reducible rfl)
      (try simp only [Act.put, List.setIfInBounds_toArray, List.set_cons_succ, List.set_cons_zero])
      refine wpAnyH_take (i := 20) (oi := ⟨some 6, _, _, _, _, _⟩) (v := ?_) rfl (by kernel_rfl) (by kernel_rfl) (by kernel_rfl) (fun _ _ _ h => h) (Or.inl ⟨by kernel_rfl, ?_⟩) (by assumption) ?_
      rotate_left 1
      · (intro w hSw; (try dsimp only at hSw); go_simp) <;> (with_reducible rfl)
      (try simp only [Act.put, List.setIfInBounds_toArray, List.set_cons_succ, List.set_cons_zero])
      refine wpAnyH_done (by kernel_rfl) ?_ _
      refine NoPanic.normal ?_
      go_wp2
      go_ret
      exact ⟨by simp, K.out.trans (KK.out.mono K.out.size)⟩
    refine AllReadyH.cons (o := ⟨some 10, _, _, _, _, _⟩) rfl (fun K' hK => ?_) AllReadyH.nil
    go_simp
    rw [znC0]
    have CB := hide (Box.new w4 25 (znC p0 nv))
    have HSZ : w4.heap.size ≤ w4.heap.size := KK.out.size
    replace KK := hide (bal KK.out (.cells (znC p0 nv) 25))
    obtain ⟨cb, hcb⟩ : ∃ cb, cb = w4.heap.size := ⟨_, rfl⟩
    have HCB := hide (show w4.heap.size ≤ cb by rw [hcb]; exact HSZ)
    rw [← hcb] at CB ⊢
    clear hcb HSZ
    generalize w4.alloc (.cells (znC p0 nv) 25) = we at *
    refine hK.out _ _ ?_ (fun hHeld => ?_)
    · exact X.out.below KK.out
    clear hK K'
    (try simp only [Act.put, List.setIfInBounds_toArray, List.set_cons_succ, List.set_cons_zero])
    refine wpAnyH_ready (rs := [2]) (by kernel_rfl) (by simp) ?_
    refine AllReadyH.cons (o := ⟨some 33, _, _, _, _, _⟩) rfl (fun K' hK => ?_) AllReadyH.nil
    go_simp
    refine (FM.out _ KK.out).mono ?_
    rintro e wf ⟨u, rfl, ou, hbf⟩
    obtain ⟨A1, d1, ev1, hd1, r1⟩ := OwI.is ou
    subst ev1
    have RB := hide r1
    have HD1 := hide hd1
    replace CB := hide (CB.out.below hbf)
    replace KK := hide (btrans KK.out hbf)
    clear hbf ou hd1 r1
    refine hK.out _ _ ?_ (fun hHeld => ?_)
    · exact X.out.below KK.out
    clear hK K'
    (try simp only [Act.put, List.setIfInBounds_toArray, List.set_cons_succ, List.set_cons_zero])
    refine wpAnyH_ready (rs := [3]) (by kernel_rfl) (by simp) ?_
    refine AllReadyH.cons (o := ⟨some 34, _, _, _, _, _⟩) rfl (fun K' hK => ?_) AllReadyH.nil
    go_simp
    refine (BL.out _ KK.out A1 d1 RB.out HD1.out).mono ?_
    rintro e wb ⟨q2, vb, Lb, rfl, ob, hbb, zg⟩
    obtain rfl : q = q2 := (zg.ok rfl).1.symm
    have HE := hide (vd_eq (zg.ok rfl).2.1 VV.out (fun x => ((zg.ok rfl).2.2 x).trans (HFS.out x)))
    have LL := hide (fun k hk => Nat.le_trans (lst_len HP.out (zg.ok rfl).2.1.toLst (k := k) hk) (show 256 ≤ 1000000 by omega))
    have OB := hide (ob.mono (Nat.le_trans K.out.size KK.out.size))
    replace CB := hide (CB.out.below hbb)
    replace KK := hide (btrans KK.out hbb)
    clear hbb ob zg
    refine hK.out _ _ ?_ (fun hHeld => ?_)
    · exact X.out.below KK.out
    clear hK K'
    (try simp only [Act.put, List.setIfInBounds_toArray, List.set_cons_succ, List.set_cons_zero])
    refine wpAnyH_take (i := 4) (oi := ⟨some 30, _, _, _, _, _⟩) (v := ?_) rfl (by kernel_rfl) (by kernel_rfl) (by kernel_rfl) (fun _ _ _ h => h) (Or.inl ⟨by kernel_rfl, ?_⟩) (by assumption) ?_
    rotate_left 1
    · (intro w hSw; (try dsimp only at hSw); go_simp) <;> (with_reducible rfl)
    (try simp only [Act.put, List.setIfInBounds_toArray, List.set_cons_succ, List.set_cons_zero])
    refine wpAnyH_take (i := 5) (oi := ⟨some 35, _, _, _, _, _⟩) (v := ?_) rfl (by kernel_rfl) (by kernel_rfl) (by kernel_rfl) (fun _ _ _ h => h) (Or.inl ⟨by kernel_rfl, ?_⟩) (by assumption) ?_
    rotate_left 1
    · (intro w hSw; (try dsimp only at hSw); go_simp) <;> (with_reducible rfl)
    (try simp only [Act.put, List.setIfInBounds_toArray, List.set_cons_succ, List.set_cons_zero])
    refine wpAnyH_take (i := 6) (oi := ⟨some 36, _, _, _, _, _⟩) (v := ?_) rfl (by kernel_rfl) (by kernel_rfl) (by kernel_rfl) (fun _ _ _ h => h) (Or.inl ⟨by kernel_rfl, ?_⟩) (by assumption) ?_
    rotate_left 1
    · (intro w hSw; (try dsimp only at hSw); go_simp) <;> (with_reducible rfl)
    (try simp only [Act.put, List.setIfInBounds_toArray, List.set_cons_succ, List.set_cons_zero])
    refine wpAnyH_ready (rs := [8]) (by kernel_rfl) (by simp) ?_
    refine AllReadyH.cons (o := ⟨none, _, _, _, _, _⟩) rfl (fun K' hK => ?_) AllReadyH.nil
    refine wp_store_row 25 _ _ rfl cb (znC q vb) rfl rfl 25 (znC p0 nv) CB.out (by kernel_rfl) rfl (one_zone OB.out.rd) ?_
    have KS := kp_row (B := w4.heap.size) (cs := znC q vb) CB.out HCB.out
    have CB2 := hide (box_row (cs := znC q vb) CB.out)
    replace OB := hide (OB.out.kp KS (by decide))
    replace KK := hide (KK.out.trans KS.below)
    clear KS CB
    generalize wb.setRow cb (znC q vb) = wg at *
    refine hK.out _ _ ?_ (fun hHeld => ?_)
    · exact X.out.below KK.out
    clear hK K'
    (try simp only [Act.put, List.setIfInBounds_toArray, List.set_cons_succ, List.set_cons_zero])
    refine wpAnyH_take (i := 9) (oi := ⟨some 11, _, _, _, _, _⟩) (v := ?_) rfl (by kernel_rfl) (by kernel_rfl) (by kernel_rfl) (fun _ _ _ h => h) (Or.inl ⟨by kernel_rfl, ?_⟩) (by assumption) ?_
    rotate_left 1
    · (intro w hSw; (try dsimp only at hSw); go_simp) <;> (with_reducible rfl)
    (try simp only [Act.put, List.setIfInBounds_toArray, List.set_cons_succ, List.set_cons_zero])
    refine wpAnyH_done (by kernel_rfl) ?_ _
    refine NoPanic.normal ?_
    replace X := hide (show Box wg.drew g1 25 (znC q v) from (hHeld).below (below_drewN (brefl wg) 1))
    replace CB2 := hide (show Box wg.drew cb 25 (znC q vb) from CB2.out.below (below_drewN (brefl wg) 1))
    replace OB := hide (show OwZ w.heap.size wg.drew vb Lb from OB.out.below (below_drewN (brefl wg) 1))
    replace KK := hide (show Below w4.heap.size w4 wg.drew from btrans KK.out (below_drewN (brefl wg) 1))
    clear hHeld RB
    have SM := hide (fun (W : World) (hb : Below w4.heap.size w4 W) (o : OwZ w.heap.size W vb Lb) => same_any q vb v Lb L W o.rd (ZIN.out W hb).rd HE.out LL.out)
    go_wp2
    refine wp_region_noPanic ?_
    refine wp_region_held_drew (S := (fun W => Box W g1 25 (znC q v) ∧ Box W cb 25 (znC q vb))) (by kernel_rfl) ?_ (fun hHeld => ?_)
    · exact ⟨X.out, CB2.out⟩
    generalize wg.drew = w5 at *
    refine wpAnyH_take (i := 0) (oi := ⟨some 37, _, _, _, _, _⟩) (v := ?_) rfl (by kernel_rfl) (by kernel_rfl) (by kernel_rfl) (fun _ _ _ h => h) (Or.inl ⟨by kernel_rfl, ?_⟩) (by assumption) ?_
    rotate_left 1
    · (intro w hSw; (try dsimp only at hSw); go_simp) <;> (with_reducible rfl)
    (try simp only [Act.put, List.setIfInBounds_toArray, List.set_cons_succ, List.set_cons_zero])
    refine wpAnyH_take (i := 1) (oi := ⟨some 38, _, _, _, _, _⟩) (v := ?_) rfl (by kernel_rfl) (by kernel_rfl) (by kernel_rfl) (fun _ _ _ h => h) (Or.inl ⟨by kernel_rfl, ?_⟩) (by assumption) ?_
    rotate_left 1
    · (intro w hSw; (try dsimp only at hSw); go_simp) <;> (with_reducible rfl)
    (try simp only [Act.put, List.setIfInBounds_toArray, List.set_cons_succ, List.set_cons_zero])
    refine wpAnyH_take (i := 2) (oi := ⟨some 39, _, _, _, _, _⟩) (v := ?_) rfl (by kernel_rfl) (by kernel_rfl) (by kernel_rfl) (fun _ _ _ h => h) (Or.inl ⟨by kernel_rfl, ?_⟩) (by assumption) ?_
    rotate_left 1
    · (intro w hSw; (try dsimp only at hSw); go_simp) <;> (with_reducible rfl)
    (try simp only [Act.put, List.setIfInBounds_toArray, List.set_cons_succ, List.set_cons_zero])
    refine wpAnyH_take (i := 3) (oi := ⟨some 40, _, _, _, _, _⟩) (v := .agg (znC q vb)) rfl (by kernel_rfl) (by kernel_rfl) (by kernel_rfl) (fun _ _ _ h => h) (Or.inl ⟨by kernel_rfl, ?_⟩) (by assumption) ?_
    · (intro w hSw; obtain ⟨y0, y1, y2, y3, y4, y5, y6, y7, y8, y9⟩ := box_all hSw.2; go_simp) <;> rfl
    (try simp only [Act.put, List.setIfInBounds_toArray, List.set_cons_succ, List.set_cons_zero])
    refine wpAnyH_take (i := 4) (oi := ⟨some 41, _, _, _, _, _⟩) (v := .agg (znC q v)) rfl (by kernel_rfl) (by kernel_rfl) (by kernel_rfl) (fun _ _ _ h => h) (Or.inl ⟨by kernel_rfl, ?_⟩) (by assumption) ?_
    · (intro w hSw; obtain ⟨y0, y1, y2, y3, y4, y5, y6, y7, y8, y9⟩ := box_all hSw.1; go_simp) <;> rfl
    (try simp only [Act.put, List.setIfInBounds_toArray, List.set_cons_succ, List.set_cons_zero])
    refine wpAnyH_ready (rs := [5]) (by kernel_rfl) (by simp) ?_
    refine AllReadyH.cons (o := _) rfl (fun K' hK => ?_) AllReadyH.nil
    go_simp
    refine (SM.out _ KK.out OB.out).mono ?_
    rintro e w8 ⟨rfl, hb⟩
    replace X := hide (X.out.below hb); replace CB2 := hide (CB2.out.below hb); replace KK := hide (btrans KK.out hb); clear hb
    refine hK.out _ _ ?_ (fun hHeld => ?_)
    · exact ⟨X.out, CB2.out⟩
    clear hK K'
    (try simp only [Act.put, List.setIfInBounds_toArray, List.set_cons_succ, List.set_cons_zero])
    refine wpAnyH_take (i := 6) (oi := ⟨some 43, _, _, _, _, _⟩) (v := ?_) rfl (by kernel_rfl) (by kernel_rfl) (by kernel_rfl) (fun _ _ _ h => h) (Or.inl ⟨by kernel_rfl, ?_⟩) (by assumption) ?_
    rotate_left 1
    · (intro w hSw; (try dsimp only at hSw); go_simp) <;> (with_reducible rfl)
    (try simp only [Act.put, List.setIfInBounds_toArray, List.set_cons_succ, List.set_cons_zero])
    refine wpAnyH_take (i := 7) (oi := ⟨some 44, _, _, _, _, _⟩) (v := ?_) rfl (by kernel_rfl) (by kernel_rfl) (by kernel_rfl) (fun _ _ _ h => h) (Or.inl ⟨by kernel_rfl, ?_⟩) (by assumption) ?_
    rotate_left 1
    · (intro w hSw; (try dsimp only at hSw); go_simp) <;> (with_reducible rfl)
    (try simp only [Act.put, List.setIfInBounds_toArray, List.set_cons_succ, List.set_cons_zero])
    refine wpAnyH_take (i := 8) (oi := ⟨some 45, _, _, _, _, _⟩) (v := .agg (znC q v)) rfl (by kernel_rfl) (by kernel_rfl) (by kernel_rfl) (fun _ _ _ h => h) (Or.inl ⟨by kernel_rfl, ?_⟩) (by assumption) ?_
    · (intro w hSw; obtain ⟨y0, y1, y2, y3, y4, y5, y6, y7, y8, y9⟩ := box_all hSw.1; go_simp) <;> rfl
    (try simp only [Act.put, List.setIfInBounds_toArray, List.set_cons_succ, List.set_cons_zero])
    refine wpAnyH_ready (rs := [9]) (by kernel_rfl) (by simp) ?_
    refine AllReadyH.cons (o := _) rfl (fun K' hK => ?_) AllReadyH.nil
    go_simp
    refine (CK.out _ KK.out).mono ?_
    rintro e w8 ⟨rfl, hb⟩
    replace X := hide (X.out.below hb); replace CB2 := hide (CB2.out.below hb); replace KK := hide (btrans KK.out hb); clear hb
    refine hK.out _ _ ?_ (fun hHeld => ?_)
    · exact ⟨X.out, CB2.out⟩
    clear hK K'
    (try simp only [Act.put, List.setIfInBounds_toArray, List.set_cons_succ, List.set_cons_zero])
    refine wpAnyH_take (i := 10) (oi := ⟨some 47, _, _, _, _, _⟩) (v := ?_) rfl (by kernel_rfl) (by kernel_rfl) (by kernel_rfl) (fun _ _ _ h => h) (Or.inl ⟨by kernel_rfl, ?_⟩) (by assumption) ?_
    rotate_left 1
    · (intro w hSw; (try dsimp only at hSw); go_simp) <;> (with_reducible rfl)
    (try simp only [Act.put, List.setIfInBounds_toArray, List.set_cons_succ, List.set_cons_zero])
    refine wpAnyH_take (i := 11) (oi := ⟨some 48, _, _, _, _, _⟩) (v := ?_) rfl (by kernel_rfl) (by kernel_rfl) (by kernel_rfl) (fun _ _ _ h => h) (Or.inl ⟨by kernel_rfl, ?_⟩) (by assumption) ?_
    rotate_left 1
    · (intro w hSw; (try dsimp only at hSw); go_simp) <;> (with_reducible rfl)
    (try simp only [Act.put, List.setIfInBounds_toArray, List.set_cons_succ, List.set_cons_zero])
    refine wpAnyH_take (i := 12) (oi := ⟨some 49, _, _, _, _, _⟩) (v := ?_) rfl (by kernel_rfl) (by kernel_rfl) (by kernel_rfl) (fun _ _ _ h => h) (Or.inl ⟨by kernel_rfl, ?_⟩) (by assumption) ?_
    rotate_left 1
    · (intro w hSw; (try dsimp only at hSw); go_simp) <;> (with_reducible rfl)
    (try simp only [Act.put, List.setIfInBounds_toArray, List.set_cons_succ, List.set_cons_zero])
    refine wpAnyH_take (i := 13) (oi := ⟨some 50, _, _, _, _, _⟩) (v := .agg (znC q v)) rfl (by kernel_rfl) (by kernel_rfl) (by kernel_rfl) (fun _ _ _ h => h) (Or.inl ⟨by kernel_rfl, ?_⟩) (by assumption) ?_
    · (intro w hSw; obtain ⟨y0, y1, y2, y3, y4, y5, y6, y7, y8, y9⟩ := box_all hSw.1; go_simp) <;> rfl
    (try simp only [Act.put, List.setIfInBounds_toArray, List.set_cons_succ, List.set_cons_zero])
    refine wpAnyH_take (i := 16) (oi := ⟨some 53, _, _, _, _, _⟩) (v := .agg (znC q v)) rfl (by kernel_rfl) (by kernel_rfl) (by kernel_rfl) (fun _ _ _ h => h) (Or.inl ⟨by kernel_rfl, ?_⟩) (by assumption) ?_
    · (intro w hSw; obtain ⟨y0, y1, y2, y3, y4, y5, y6, y7, y8, y9⟩ := box_all hSw.1; go_simp) <;> rfl
    (try simp only [Act.put, List.setIfInBounds_toArray, List.set_cons_succ, List.set_cons_zero])
    refine wpAnyH_ready (rs := [14]) (by kernel_rfl) (by simp) ?_
    refine AllReadyH.cons (o := _) rfl (fun K' hK => ?_) AllReadyH.nil
    go_simp
    refine (FM.out _ KK.out).mono ?_
    rintro e w8 ⟨u2, rfl, ou, hb⟩
    obtain ⟨A2, d2, ev2, hd2, r2⟩ := OwI.is ou
    subst ev2
    clear ou hd2 r2
    replace X := hide (X.out.below hb); replace CB2 := hide (CB2.out.below hb); replace KK := hide (btrans KK.out hb); clear hb
    refine hK.out _ _ ?_ (fun hHeld => ?_)
    · exact ⟨X.out, CB2.out⟩
    clear hK K'
    (try simp only [Act.put, List.setIfInBounds_toArray, List.set_cons_succ, List.set_cons_zero])
    refine wpAnyH_take (i := 15) (oi := ⟨some 52, _, _, _, _, _⟩) (v := ?_) rfl (by kernel_rfl) (by kernel_rfl) (by kernel_rfl) (fun _ _ _ h => h) (Or.inl ⟨by kernel_rfl, ?_⟩) (by assumption) ?_
    rotate_left 1
    · (intro w hSw; (try dsimp only at hSw); go_simp) <;> (with_reducible rfl)
    (try simp only [Act.put, List.setIfInBounds_toArray, List.set_cons_succ, List.set_cons_zero])
    refine wpAnyH_ready (rs := [17]) (by kernel_rfl) (by simp) ?_
    refine AllReadyH.cons (o := _) rfl (fun K' hK => ?_) AllReadyH.nil
    go_simp
    refine (CN.out _ KK.out).mono ?_
    rintro e w8 ⟨rfl, hb⟩
    replace X := hide (X.out.below hb); replace CB2 := hide (CB2.out.below hb); replace KK := hide (btrans KK.out hb); clear hb
    refine hK.out _ _ ?_ (fun hHeld => ?_)
    · exact ⟨X.out, CB2.out⟩
    clear hK K'
    (try simp only [Act.put, List.setIfInBounds_toArray, List.set_cons_succ, List.set_cons_zero])
    refine wpAnyH_take (i := 18) (oi := ⟨some 55, _, _, _, _, _⟩) (v := ?_) rfl (by kernel_rfl) (by kernel_rfl) (by kernel_rfl) (fun _ _ _ h => h) (Or.inl ⟨by kernel_rfl, ?_⟩) (by assumption) ?_
    rotate_left 1
    · (intro w hSw; (try dsimp only at hSw); go_simp) <;> (with_reducible rfl)
    (try simp only [Act.put, List.setIfInBounds_toArray, List.set_cons_succ, List.set_cons_zero])
    refine wpAnyH_take (i := 19) (oi := ⟨some 56, _, _, _, _, _⟩) (v := ?_) rfl (by kernel_rfl) (by kernel_rfl) (by kernel_rfl) (fun _ _ _ h => h) (Or.inl ⟨by kernel_rfl, ?_⟩) (by assumption) ?_
    rotate_left 1
    · (intro w hSw; (try dsimp only at hSw); go_simp) <;> (with_reducible rfl)
    (try simp only [Act.put, List.setIfInBounds_toArray, List.set_cons_succ, List.set_cons_zero])
    refine wpAnyH_take (i := 20) (oi := ⟨some 6, _, _, _, _, _⟩) (v := ?_) rfl (by kernel_rfl) (by kernel_rfl) (by kernel_rfl) (fun _ _ _ h => h) (Or.inl ⟨by kernel_rfl, ?_⟩) (by assumption) ?_
    rotate_left 1
    · (intro w hSw; (try dsimp only at hSw); go_simp) <;> (with_reducible rfl)
    (try simp only [Act.put, List.setIfInBounds_toArray, List.set_cons_succ, List.set_cons_zero])
    refine wpAnyH_done (by kernel_rfl) ?_ _
    refine NoPanic.normal ?_
    go_wp2
    go_ret
    exact ⟨by simp, K.out.trans (KK.out.mono K.out.size)⟩
  · have d3 : decide ((30 : Int) < (O.length : Int)) = true := decide_eq_true (by omega)
    clear hr hi
    go_enter Try.func10, Try.ntmps10
    go_upto_region 2 with (first | (go_at_call 14; refine (AW.out _).mono ?_; rintro e w1 ⟨rfl, hb⟩; replace K0 := hide (K0.out.trans (hb.mono K0.out.size)); clear hb; skip))
    go_wp2_with (go_at_call 14; refine (AW.out _).mono ?_; rintro e w3 ⟨rfl, hb⟩)
    go_ret
    exact ⟨rfl, K0.out.trans (hb.mono K0.out.size)⟩
theorem law_canonical (s c : Int) (hs : 0 ≤ s ∧ s < 256) (hc : 0 ≤ c ∧ c < 256) (A : Option Addr) (O : List St) (cap : Nat) (w : World) (hr : Sts w A O) (hi : StsIn O) (hl : O.length ≤ 9223372036854775807) : Calls Try.prog 10 #[.int .u8 s, .int .u8 c, .slice A O.length cap] w fun e w' => e = .returned (.bool true) ∧ Below w.heap.size w w' :=
  law_canonical0 (fun blk off cap zs w h1 h2 h3 => Try.slices_Sort_int blk off cap zs w h1 h2 h3) (fun a cap w => Try.slices_Sort_int_none a cap w) s c hs hc A O cap w hr hi hl
end Go.Proofs.Ytflplldamefhoaa.Bd
