import Derived.Test.YtflplldamefhoaaPl4
import Derived.Test.YtflplldamefhoaaCt2
namespace Go.Proofs.Ytflplldamefhoaa.Bd
open Go Go.RowKit
set_option linter.unusedVariables false
set_option maxRecDepth 100000 in
set_option maxHeartbeats 16000000 in
theorem law_serves (s c : Int) (hs : 0 ≤ s ∧ s < 256) (hc : 0 ≤ c ∧ c < 256) (A : Option Addr) (O : List St) (cap : Nat) (o : Int) (w : World) (hr : Sts w A O) (hi : StsIn O) (hl : O.length ≤ 9223372036854775807) (ho : 0 ≤ o ∧ o < 256) : Calls Try.prog 11 #[.agg #[.int .u8 s, .int .u8 c], .slice A O.length cap, .int .u8 o] w fun e w' => e = .returned (.bool true) ∧ Below w.heap.size w w' := by
  have AW := hide (fun w1 => awake_any w1)
  have BX := hide (Box.new w 50 #[.int .u8 s, .int .u8 c])
  have K0 := hide (bal (brefl w) (.cells #[.int .u8 s, .int .u8 c] 50))
  obtain ⟨ga, hga⟩ : ∃ g, g = w.heap.size := ⟨_, rfl⟩
  obtain ⟨W0, hW0⟩ : ∃ W0, W0 = (w.alloc (.cells #[.int .u8 s, .int .u8 c] 50)) := ⟨_, rfl⟩
  rw [← hga, ← hW0] at BX
  rw [← hW0] at K0
  by_cases h30 : O.length ≤ 30
  · have d3 : decide ((30 : Int) < (O.length : Int)) = false := decide_eq_false (by omega)
    have PL := hide (fun w1 (hb : Below w.heap.size w w1) => play_any s c hs hc A O cap w1 h30 (hr.below hb) hi)
    unfold PlR at PL
    have HP := hide (pS_par s c)
    obtain ⟨q, hq⟩ : ∃ q, q = pS s c := ⟨_, rfl⟩
    have HQ := hide hq
    rw [← hq] at PL HP
    clear hq hr hi hl
    go_enter Try.func11, Try.ntmps11
    go_upto_region 1 with fail
    rw [← hga, ← hW0]
    clear hga hW0
    go_upto_region 3 with (first | (go_at_call 14; refine (AW.out _).mono ?_; rintro e w1 ⟨rfl, hb⟩; replace BX := hide (BX.out.below hb); replace K0 := hide (K0.out.trans (hb.mono K0.out.size)); clear hb; have a0 := BX.out.cell 0; have a1 := BX.out.cell 1; simp at a0 a1))
    go_wp2_with fail
    refine (PL.out _ K0.out).mono ?_
    rintro e w2 ⟨v, L, H, U, d, rfl, oz, oh, hb2, V, D, hH⟩
    have VV := hide V
    have DD := hide D
    have HLE := hide (show H.length ≤ 30 by omega)
    go_upto_region 4 with (refine wpList_store_row rfl 25 _ _ rfl w2.heap.size (znC q v) rfl rfl 25 (znC p0 nv) (Box.new w2 25 _) (by kernel_rfl) rfl (one_zone oz.rd) ?_)
    have ee : (w2.alloc (.cells #[.int .i64 0, .int .i64 0, .int .i64 0, .int .i64 0, .int .i64 0, .slice none 0 0, .slice none 0 0, .slice none 0 0, .slice none 0 0, .slice none 0 0] 25)).setRow w2.heap.size (znC q v) = w2.alloc (.cells (znC q v) 25) := setRow_new w2 _ _ 25
    rw [ee]
    have M := bal (brefl w2) (.cells (znC q v) 25)
    have X := hide (Box.new w2 25 (znC q v))
    have OZ := hide ((oz.mono K0.out.size).below M)
    have OH := hide (row_below (row_mono oh K0.out.size) M)
    replace BX := hide ((BX.out.below hb2).below M)
    have K := hide ((K0.out.trans (hb2.mono K0.out.size)).trans (M.mono (Nat.le_trans K0.out.size hb2.size)))
    have GB := hide (show w.heap.size ≤ w2.heap.size from Nat.le_trans K0.out.size hb2.size)
    obtain ⟨g1, hg1⟩ : ∃ g, g = w2.heap.size := ⟨_, rfl⟩
    rw [← hg1] at X GB ⊢
    clear ee M hb2 oz oh V D hH PL AW K0 a0 a1
    generalize w2.alloc (.cells (znC q v) 25) = w3 at *
    clear hg1
    obtain ⟨kk, hkk, hk5⟩ : ∃ kk : Nat, o % 5 = kk ∧ kk < 5 := ⟨(o % 5).toNat, by omega, by omega⟩
    go_upto_region 7 with fail
    clear hkk
    go_upto_region 8 with fail
    rw [wr2 hk5]
    have SV := hide (serve HP.out VV.out hk5)
    have STP := hide (serve_step (q := q) (L := L) hk5 HP.out VV.out (by rw [HQ.out]; exact pS_79 s c))
    have HA2 := hide (al_two HP.out VV.out hk5)
    have hb1 := bw_pos kk
    have hb2 := bw_le kk
    have HK5 := hide hk5
    have STE := hide (fun f (h : f % bw kk = 0) (h0 : 0 ≤ f) (h1 : f ≤ 80) => step_end hk5 h h0 h1)
    have SDV := hide (fun f (h : f % bw kk = 0) => (show (f + bw kk) % bw kk = 0 by rw [Int.add_emod_right]; exact h))
    clear DD BX OH HQ
    obtain ⟨W, hW⟩ : ∃ W, W = bw kk := ⟨_, rfl⟩
    rw [← hW] at SV STP hb1 hb2 STE SDV ⊢
    clear hW
    go_wp2
    go_loopw [12, 13] (fun a b wr => ∃ (f : Int) (sm : Bool), 0 ≤ f ∧ f ≤ 80 ∧ a = .bool sm ∧ b = .int .i64 f ∧ Hid (f % W = 0) ∧ Hid (Box wr g1 25 (znC q v)) ∧ Hid (OwZ w.heap.size wr v L) ∧ Hid (Below w.heap.size w wr) ∧ Hid (sm = true ↔ ∃ j : Int, 0 ≤ j ∧ j < f ∧ j % W = 0 ∧ ∀ y, j ≤ y → y < j + W → InS L y)) (fun _ b _ => 100 - (intOf b).toNat)
    case atStart => exact ⟨0, false, by omega, by omega, rfl, rfl, hide (by simp), X, OZ, K, hide (by simp; intro j h1 h2; omega)⟩
    case round =>
      clear X OZ K
      obtain ⟨f, sm, hf0, hf8, rfl, rfl, FM, X, OZ, K, RR⟩ := hrel
      by_cases hlt : f + W ≤ 80
      · go_wp2
        go_loopw [14, 15] (fun a b wi => ∃ (g : Int) (fr : Bool), f ≤ g ∧ g ≤ f + W ∧ a = .bool fr ∧ b = .int .i64 g ∧ Hid (Box wi g1 25 (znC q v)) ∧ Hid (OwZ w.heap.size wi v L) ∧ Hid (Below w.heap.size w wi) ∧ Hid (fr = true ↔ ∀ y, f ≤ y → y < g → InS L y)) (fun _ b _ => 200 - (intOf b).toNat)
        case atStart => exact ⟨f, true, by omega, by omega, rfl, rfl, X, OZ, K, hide (by simp; intro y h1 h2; omega)⟩
        case round =>
          clear X OZ K
          obtain ⟨g, fr, hg0, hg1, rfl, rfl, X, OZ, K, RF⟩ := hrel
          by_cases hgl : g < f + W
          · have IFR := hide (isfree_any q v L g (by unfold i64r; omega) _ (ZIn.of_vd HP.out VV.out.toLst OZ.out.rd))
            rw [isf_vd HP.out VV.out] at IFR
            have RF2 := hide (fr_step RF.out hg0)
            generalize hbI : decide (InS L g) = bI at *
            clear hbI
            obtain ⟨z0, z1, z2, z3, z4, z5, z6, z7, z8, z9⟩ := box_all X.out
            cases fr
            · go_wp2
              go_roundw
              case rel => exact ⟨g + 1, false, by omega, by omega, rfl, by go_num, X, OZ, K, by simpa using RF2⟩
              case measure => simp [intOf]; omega
            · go_wp2_with fail
              refine IFR.out.mono ?_
              rintro e wj ⟨rfl, hb⟩
              replace X := hide (X.out.below hb)
              replace OZ := hide (OZ.out.below hb)
              replace K := hide (K.out.trans (hb.mono K.out.size))
              clear hb z0 z1 z2 z3 z4 z5 z6 z7 z8 z9
              go_wp2
              go_roundw
              case rel => exact ⟨g + 1, bI, by omega, by omega, rfl, by go_num, X, OZ, K, by simpa using RF2⟩
              case measure => simp [intOf]; omega
          · obtain rfl : g = f + W := by omega
            have RR2 := hide (some_step RR.out RF.out FM.out hb1 hf0)
            clear RR RF
            cases sm
            · go_wp2
              go_roundw
              case rel => exact ⟨f + W, fr, by omega, by omega, rfl, by go_num, hide (SDV.out f FM.out), X, OZ, K, by simpa using RR2⟩
              case measure => simp [intOf]; omega
            · go_wp2
              go_roundw
              case rel => exact ⟨f + W, true, by omega, by omega, rfl, by go_num, hide (SDV.out f FM.out), X, OZ, K, by simpa using RR2⟩
              case measure => simp [intOf]; omega
      · have hf80 : f = 80 := STE.out f FM.out hf0 hf8 (by omega)
        have AL := hide (alloc_any q v L kk _ (ZIn.of_vd HP.out VV.out.toLst OZ.out.rd))
        unfold ZE3 at AL
        have SS := hide (STP.out f hf80 sm RR.out)
        clear RR SV STP STE SDV
        generalize alF q L kk = fa at *
        rcases HA2.out with e16 | ⟨e0, -, -⟩
        · rw [e16] at AL SS
          obtain rfl : sm = false := by simpa using SS.out
          clear SS HA2 e16
          go_wp2_with (first | (refine wpList_load_row rfl 25 _ rfl g1 rfl 25 (znC q v) (0, 0) _ X.out Try.underlying25 rfl (by kernel_rfl) ?_) | fail)
          refine AL.out.mono ?_
          rintro e wf ⟨q2, vf, Lf, rfl, of, hbf, zg⟩
          go_wp2_with (refine wpList_store_row rfl 25 _ _ rfl wf.heap.size (znC q2 vf) rfl rfl 25 (znC p0 nv) (Box.new wf 25 _) (by kernel_rfl) rfl (one_zone of.rd) ?_)
          go_ret
          exact ⟨by simp, (K.out.trans (hbf.mono K.out.size)).trans (by rw [setRow_new wf _ _ 25]; exact (bal (brefl wf) _).mono (Nat.le_trans K.out.size hbf.size))⟩
        · rw [e0] at AL SS
          obtain rfl : sm = true := by simpa using SS.out
          clear SS HA2 e0
          go_wp2_with (first | (refine wpList_load_row rfl 25 _ rfl g1 rfl 25 (znC q v) (0, 0) _ X.out Try.underlying25 rfl (by kernel_rfl) ?_) | fail)
          refine AL.out.mono ?_
          rintro e wf ⟨q2, vf, Lf, rfl, of, hbf, zg⟩
          go_wp2_with (refine wpList_store_row rfl 25 _ _ rfl wf.heap.size (znC q2 vf) rfl rfl 25 (znC p0 nv) (Box.new wf 25 _) (by kernel_rfl) rfl (one_zone of.rd) ?_)
          go_ret
          exact ⟨by simp, (K.out.trans (hbf.mono K.out.size)).trans (by rw [setRow_new wf _ _ 25]; exact (bal (brefl wf) _).mono (Nat.le_trans K.out.size hbf.size))⟩
  · have d3 : decide ((30 : Int) < (O.length : Int)) = true := decide_eq_true (by omega)
    clear hr hi
    go_enter Try.func11, Try.ntmps11
    go_upto_region 1 with fail
    rw [← hga, ← hW0]
    clear hga hW0
    go_upto_region 2 with (first | (go_at_call 14; refine (AW.out _).mono ?_; rintro e w1 ⟨rfl, hb⟩; replace BX := hide (BX.out.below hb); replace K0 := hide (K0.out.trans (hb.mono K0.out.size)); clear hb; have a0 := BX.out.cell 0; have a1 := BX.out.cell 1; simp at a0 a1))
    go_wp2_with (go_at_call 14; refine (AW.out _).mono ?_; rintro e w3 ⟨rfl, hb⟩)
    go_ret
    exact ⟨rfl, K0.out.trans (hb.mono K0.out.size)⟩
end Go.Proofs.Ytflplldamefhoaa.Bd
