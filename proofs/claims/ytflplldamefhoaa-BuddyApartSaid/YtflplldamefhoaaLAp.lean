import Derived.Test.YtflplldamefhoaaPl4
import Derived.Test.YtflplldamefhoaaCt2
import Derived.Test.YtflplldamefhoaaPl5
namespace Go.Proofs.Ytflplldamefhoaa.Bd
open Go Go.RowKit
set_option linter.unusedVariables false
set_option maxRecDepth 100000 in
set_option maxHeartbeats 16000000 in
theorem law_apart (s c : Int) (hs : 0 ≤ s ∧ s < 256) (hc : 0 ≤ c ∧ c < 256) (A : Option Addr) (O : List St) (cap : Nat) (w : World) (hr : Sts w A O) (hi : StsIn O) (hl : O.length ≤ 9223372036854775807) : Calls Try.prog 12 #[.int .u8 s, .int .u8 c, .slice A O.length cap] w fun e w' => e = .returned (.bool true) ∧ Below w.heap.size w w' := by
  have AW := hide (fun w1 => awake_any w1)
  have K0 := hide (brefl w)
  by_cases h30 : O.length ≤ 30
  · have d3 : decide ((30 : Int) < (O.length : Int)) = false := decide_eq_false (by omega)
    have PL := hide (fun w1 (hb : Below w.heap.size w w1) => play_any s c hs hc A O cap w1 h30 (hr.below hb) hi)
    unfold PlR at PL
    have HP := hide (pS_par s c)
    obtain ⟨q, hq⟩ : ∃ q, q = pS s c := ⟨_, rfl⟩
    have HQ := hide hq
    rw [← hq] at PL HP
    clear hq hr hi hl
    go_enter Try.func12, Try.ntmps12
    go_upto_region 3 with (first | (go_at_call 14; refine (AW.out _).mono ?_; rintro e w1 ⟨rfl, hb⟩; replace K0 := hide (K0.out.trans (hb.mono K0.out.size)); clear hb; skip))
    go_wp2_with fail
    refine (PL.out _ K0.out).mono ?_
    rintro e w2 ⟨v, L, H, U, d, rfl, oz, oh, hb2, V, D, hH⟩
    have VV := hide V
    have DD := hide D
    have HLE := hide (show H.length ≤ 30 by omega)
    go_upto_region 4 with (refine wpList_store_row rfl 25 _ _ rfl w2.heap.size (znC q v) rfl rfl 25 (znC p0 nv) (Box.new w2 25 _) (by kernel_rfl) rfl (one_zone oz.rd) ?_)
    have ee : (w2.alloc (.cells #[.int .i64 0, .int .i64 0, .int .i64 0, .int .i64 0, .int .i64 0, .slice none 0 0, .slice none 0 0, .slice none 0 0, .slice none 0 0, .slice none 0 0] 25)).setRow w2.heap.size (znC q v) = w2.alloc (.cells (znC q v) 25) := setRow_new w2 _ _ 25
    rw [ee]
    have M := bal (brefl w2) (.cells (znC q v) 25)
    have X := hide (Box.new w2 25 (znC q v))
    have OZ := hide ((oz.mono K0.out.size).below M)
    have OH := hide (row_below (row_mono oh K0.out.size) M)
    skip
    have K := hide ((K0.out.trans (hb2.mono K0.out.size)).trans (M.mono (Nat.le_trans K0.out.size hb2.size)))
    have GB := hide (show w.heap.size ≤ w2.heap.size from Nat.le_trans K0.out.size hb2.size)
    obtain ⟨g1, hg1⟩ : ∃ g, g = w2.heap.size := ⟨_, rfl⟩
    rw [← hg1] at X GB ⊢
    clear ee M hb2 oz oh V D hH PL AW K0
    generalize w2.alloc (.cells (znC q v) 25) = w3 at *
    clear hg1
    have HB := hide (show q.st = s % 16 ∧ q.st + q.ct = s % 16 + 1 + c % 64 ∧ 0 ≤ s % 16 ∧ s % 16 < 16 ∧ s % 16 + 1 + c % 64 ≤ 80 from by
      have e : q.st = s % 16 ∧ q.ct = 1 + c % 64 := by rw [HQ.out]; exact ⟨rfl, rfl⟩
      have h1 : 0 ≤ s % 16 ∧ s % 16 < 16 := by omega
      have h2 : 0 ≤ c % 64 ∧ c % 64 < 64 := by omega
      omega)
    go_upto_region 7 with fail
    obtain ⟨fi, hfi⟩ : ∃ x, x = s % 16 := ⟨_, rfl⟩
    obtain ⟨la, hla⟩ : ∃ x, x = s % 16 + 1 + c % 64 := ⟨_, rfl⟩
    rw [← hla, ← hfi] at HB ⊢
    clear hla hfi HQ
    obtain ⟨hst, hct, hfi0, hfi1, hla8⟩ := HB.out
    obtain ⟨zz, hzz⟩ : ∃ zz : Array Value, zz = Array.replicate 80 (.int .i64 0) := ⟨_, rfl⟩
    have z53 : ∀ w, (zeroValue 53).run Try.prog w = .ok (.agg zz) w := fun w => by rw [hzz]; exact zero53 w
    obtain ⟨go, hgo⟩ : ∃ g, g = w3.heap.size := ⟨_, rfl⟩
    have S := hide (show RO (w3.alloc (.cells zz 53)) go (fun x => oc (H.take 0) x) by rw [hzz, hgo]; exact RO.made w3 _ (fun x _ => rfl))
    have M := bal (brefl w3) (.cells zz 53)
    have HG := hide (show w.heap.size ≤ go by rw [hgo]; exact K.out.size)
    have HN1 := hide (show g1 < go by rw [hgo]; exact X.out.lt)
    replace X := hide (X.out.below M)
    replace OZ := hide (OZ.out.below M)
    replace OH := hide (row_below OH.out M)
    replace K := hide (K.out.trans (M.mono K.out.size))
    clear M hzz
    go_upto_region 8 with fail
    rw [← hgo]
    generalize w3.alloc (.cells zz 53) = w5 at *
    clear z53 hgo HB
    go_wp2
    go_loopw [49] (fun a wr => ∃ i : Nat, i ≤ H.length ∧ a = .int .i64 i ∧ Hid (RO wr go (fun x => oc (H.take i) x)) ∧ Hid (Box wr g1 25 (znC q v)) ∧ Hid (OwZ w.heap.size wr v L) ∧ Hid (OwH w.heap.size wr (.slice U H.length d) H) ∧ Hid (Below w.heap.size w wr)) (fun a _ => H.length - (intOf a).toNat)
    case atStart => exact ⟨0, Nat.zero_le _, rfl, S, X, OZ, OH, K⟩
    case round =>
      clear S X OZ OH K
      obtain ⟨i, hi, rfl, S, X, OZ, OH, K⟩ := hrel
      by_cases hil : i < H.length
      · obtain ⟨gh, rfl, hgl, hgB, h0, h1⟩ := OwH.cell OH.out hil
        have hb1 := DD.out.blk _ (heAt_mem hil)
        generalize hhe : heAt H i = he at *
        obtain ⟨f, kk⟩ := he
        simp only at h0 h1 hb1
        have HHE := hide hhe
        have hk5 := hb1.1
        have hbk := hb1.2
        have hbd := blk_bd HP.out hbk
        have hmod := hbk.1
        have hin := (show q.st ≤ f ∧ f + bw kk ≤ q.st + q.ct from ⟨hbk.2.1, hbk.2.2⟩)
        have HDN := hide (fun x (h1 : f ≤ x) (h2 : x < f + bw kk) => (dn_eq hk5 hmod h1 h2 : dn kk x = f))
        have OI0 := hide (fun x => oi_zero (H := H) (i := i) (f := f) (k := kk) x)
        have OIA := hide (fun x => oi_all (H := H) hil hhe x)
        have WR := hide (wr2 hk5)
        have hbp := bw_pos kk
        have hbl := bw_le kk
        have htm : f.tmod (bw kk) = 0 := by rw [Int.tmod_eq_emod_of_nonneg hbd.1]; exact hmod
        clear hb1 hbk hhe
        have hil2 : (i : Int) < (H.length : Int) := by omega
        have hi02 : (0 : Int) ≤ (i : Int) := by omega
        have M := bal (brefl wr) (.cells #[.int .i64 f, .int .i64 (kk : Int)] 55)
        have HX := hide (Box.new wr 55 #[.int .i64 f, .int .i64 (kk : Int)])
        have SLT := hide S.out.lt
        replace S := hide (S.out.below M)
        replace X := hide (X.out.below M)
        replace OZ := hide (OZ.out.below M)
        replace OH := hide (row_below OH.out M)
        replace K := hide (K.out.trans (M.mono K.out.size))
        clear M
        go_upto_region 11 with fail
        have HNX := hide (show go < wr.heap.size from by have := S.out.lt; have := HN1.out; exact SLT.out)
        obtain ⟨gx, hgx⟩ : ∃ g, g = wr.heap.size := ⟨_, rfl⟩
        rw [← hgx] at HX HNX ⊢
        generalize wr.alloc (.cells #[.int .i64 f, .int .i64 (kk : Int)] 55) = w6 at *
        clear hgx h0 h1 hgl hgB
        have x0 : w6.cell? ⟨gx, 0, none⟩ = some (.int .i64 f) := HX.out.cell 0
        have x1 : w6.cell? ⟨gx, 1, none⟩ = some (.int .i64 (kk : Int)) := HX.out.cell 1
        have hk05 : (0 : Int) ≤ (kk : Int) := by omega
        go_upto_region 12 with fail
        rw [WR.out]
        obtain ⟨W, hW⟩ : ∃ W, W = bw kk := ⟨_, rfl⟩
        rw [← hW] at hbp hbl htm hmod hin hbd HDN OIA ⊢
        clear hW WR
        go_upto_region 15 with fail
        obtain ⟨a, rfl⟩ : ∃ a : Nat, f = a := ⟨f.toNat, by omega⟩
        have S0 := hide (S.out.congr (c' := fun x => oi H i a kk a x) (fun x _ => (OI0.out x).symm))
        have hbd8 : (a : Int) + W ≤ 80 := by omega
        clear S OI0 x0 x1 htm hin hmod hbd
        go_loopw [16] (fun t wi => ∃ g : Nat, a ≤ g ∧ (g : Int) ≤ a + W ∧ t = .int .i64 g ∧ Hid (RO wi go (fun x => oi H i a kk g x)) ∧ Hid (Box wi gx 55 #[.int .i64 (a : Int), .int .i64 (kk : Int)]) ∧ Hid (Box wi g1 25 (znC q v)) ∧ Hid (OwZ w.heap.size wi v L) ∧ Hid (OwH w.heap.size wi (.slice (some ⟨gh, 0, none⟩) H.length d) H) ∧ Hid (Below w.heap.size w wi)) (fun t _ => 300 - (intOf t).toNat)
        case atStart => exact ⟨a, Nat.le_refl _, by omega, rfl, S0, HX, X, OZ, OH, K⟩
        case round =>
          clear S0 HX X OZ OH K
          obtain ⟨g, hg1, hg2, rfl, S, HX, X, OZ, OH, K⟩ := hrel
          have x0 := HX.out.cell 0
          simp at x0
          by_cases hgl : (g : Int) < a + W
          · have hg80 : g < 80 := by omega
            have hg80' : (g : Int) < 80 := by omega
            have hg0 : (0 : Int) ≤ (g : Int) := by omega
            have cell := S.out.cell hg80
            have frz := S.out.frozen g
            have hle := oi_le H i a kk g g
            have hH := HLE.out
            have S5 := hide (S.out.on g (c' := fun x => oi H i a kk ((g + 1 : Nat) : Int) x) (fun x _ => by rw [show ((g + 1 : Nat) : Int) = (g : Int) + 1 by omega]; exact oi_step (HDN.out g (by omega) hgl) x))
            obtain ⟨cs, hB, _⟩ := S.out
            simp only at cell S5
            generalize oi H i a kk g g = n at *
            have KP := Kp.boxset (B := w.heap.size) hB HG.out g (.int .i64 ((n : Int) + 1))
            have HX2 := hide (HX.out.kp KP (by decide))
            have X2 := hide (X.out.kp KP (by decide))
            have OZ2 := hide (OZ.out.kp KP (by decide))
            have OH2 := hide (row_kp OH.out KP (by decide))
            have K2 := hide (K.out.trans KP.below)
            clear S hB KP HX X OZ OH K
            go_wp2
            go_roundw
            case rel => exact ⟨g + 1, by omega, by omega, by go_num, S5, HX2, X2, OZ2, OH2, K2⟩
            case measure => simp [intOf]; omega
          · have hge : (g : Int) = a + W := by omega
            have hgd : decide ((g : Int) < a + W) = false := decide_eq_false hgl
            have S5 := hide (S.out.congr (c' := fun x => oc (H.take (i + 1)) x) fun x _ => by rw [hge]; exact OIA.out x)
            have hH := HLE.out
            clear S hge
            go_wp2
            go_roundw
            case rel => exact ⟨i + 1, by omega, by go_num, S5, X, OZ, OH, K⟩
            case measure => simp [intOf]; omega
      · obtain rfl : i = H.length := by omega
        have S1 := hide (show RO wr go (fun x => ot L H 0 x) from S.out.congr (fun x _ => by rw [List.take_length]; exact (ot_zero x).symm))
        clear S OH
        go_wp2
        go_loopw [92] (fun t wi => ∃ f : Nat, f ≤ 80 ∧ t = .int .i64 f ∧ Hid (RO wi go (fun x => ot L H f x)) ∧ Hid (Box wi g1 25 (znC q v)) ∧ Hid (OwZ w.heap.size wi v L) ∧ Hid (Below w.heap.size w wi)) (fun t _ => 100 - (intOf t).toNat)
        case atStart => exact ⟨0, by omega, rfl, S1, X, OZ, K⟩
        case round =>
          clear S1 X OZ K
          obtain ⟨f, hf8, rfl, S, X, OZ, K⟩ := hrel
          by_cases hlt : f < 80
          · have hf80 : (f : Int) < 80 := by omega
            have hf0 : (0 : Int) ≤ (f : Int) := by omega
            have IFR := hide (isfree_any q v L f (by unfold i64r; omega) _ (ZIn.of_vd HP.out VV.out.toLst OZ.out.rd))
            rw [isf_vd HP.out VV.out] at IFR
            have OTE := hide (ot_eq DD.out f)
            by_cases hin : InS L f
            · rw [decide_eq_true hin] at IFR
              go_wp2_with (first | (refine wpList_load_row rfl 25 _ rfl g1 rfl 25 (znC q v) (0, 0) _ X.out Try.underlying25 rfl (by kernel_rfl) ?_) | fail)
              refine IFR.out.mono ?_
              rintro e wj ⟨rfl, hb⟩
              replace X := hide (X.out.below hb)
              replace OZ := hide (OZ.out.below hb)
              replace K := hide (K.out.trans (hb.mono K.out.size))
              replace S := hide (S.out.below hb)
              clear hb
              have cell := S.out.cell hlt
              have frz := S.out.frozen f
              have hle := ot_le L H f f
              have hH := HLE.out
              have S5 := hide (S.out.on f (c' := fun x => ot L H (f + 1) x) (fun x _ => ot_yes hin x))
              obtain ⟨cs, hB, _⟩ := S.out
              simp only at cell S5
              generalize ot L H f f = n at *
              have KP := Kp.boxset (B := w.heap.size) hB HG.out f (.int .i64 ((n : Int) + 1))
              have X2 := hide (X.out.kp KP (by decide))
              have OZ2 := hide (OZ.out.kp KP (by decide))
              have K2 := hide (K.out.trans KP.below)
              clear S hB KP X OZ K
              go_upto_region 24 with fail
              generalize wj.setCell ⟨go, f, none⟩ (.int .i64 ((n : Int) + 1)) = wk at *
              have cell := S5.out.cell hlt
              have frz := S5.out.frozen f
              simp only at cell
              rw [OTE.out] at cell
              clear OTE hin
              by_cases hz : fi ≤ f ∧ (f : Int) < la
              · rw [if_pos (by omega)] at cell
                obtain ⟨hz1, hz2⟩ := hz
                go_wp2
                go_roundw
                case rel => exact ⟨f + 1, by omega, by go_num, S5, X2, OZ2, K2⟩
                case measure => simp [intOf]; omega
              · rw [if_neg (by omega)] at cell
                by_cases hz1 : fi ≤ (f : Int)
                · have hz2 : ¬ (f : Int) < la := by omega
                  clear hz
                  go_wp2
                  go_roundw
                  case rel => exact ⟨f + 1, by omega, by go_num, S5, X2, OZ2, K2⟩
                  case measure => simp [intOf]; omega
                · clear hz
                  go_wp2
                  go_roundw
                  case rel => exact ⟨f + 1, by omega, by go_num, S5, X2, OZ2, K2⟩
                  case measure => simp [intOf]; omega
            · rw [decide_eq_false hin] at IFR
              go_wp2_with (first | (refine wpList_load_row rfl 25 _ rfl g1 rfl 25 (znC q v) (0, 0) _ X.out Try.underlying25 rfl (by kernel_rfl) ?_) | fail)
              refine IFR.out.mono ?_
              rintro e wk ⟨rfl, hb⟩
              have X2 := hide (X.out.below hb)
              have OZ2 := hide (OZ.out.below hb)
              have K2 := hide (K.out.trans (hb.mono K.out.size))
              have S5 := hide (show RO wk go (fun x => ot L H (f + 1) x) from (S.out.below hb).congr (fun x _ => (ot_no hin x).symm))
              clear hb S X OZ K
              go_upto_region 24 with fail
              have cell := S5.out.cell hlt
              have frz := S5.out.frozen f
              simp only at cell
              rw [OTE.out] at cell
              clear OTE hin
              by_cases hz : fi ≤ f ∧ (f : Int) < la
              · rw [if_pos (by omega)] at cell
                obtain ⟨hz1, hz2⟩ := hz
                go_wp2
                go_roundw
                case rel => exact ⟨f + 1, by omega, by go_num, S5, X2, OZ2, K2⟩
                case measure => simp [intOf]; omega
              · rw [if_neg (by omega)] at cell
                by_cases hz1 : fi ≤ (f : Int)
                · have hz2 : ¬ (f : Int) < la := by omega
                  clear hz
                  go_wp2
                  go_roundw
                  case rel => exact ⟨f + 1, by omega, by go_num, S5, X2, OZ2, K2⟩
                  case measure => simp [intOf]; omega
                · clear hz
                  go_wp2
                  go_roundw
                  case rel => exact ⟨f + 1, by omega, by go_num, S5, X2, OZ2, K2⟩
                  case measure => simp [intOf]; omega
          · obtain rfl : f = 80 := by omega
            go_wp2
            go_ret
            exact ⟨rfl, K.out⟩
  · have d3 : decide ((30 : Int) < (O.length : Int)) = true := decide_eq_true (by omega)
    clear hr hi
    go_enter Try.func12, Try.ntmps12
    go_upto_region 2 with (first | (go_at_call 14; refine (AW.out _).mono ?_; rintro e w1 ⟨rfl, hb⟩; replace K0 := hide (K0.out.trans (hb.mono K0.out.size)); clear hb; skip))
    go_wp2_with (go_at_call 14; refine (AW.out _).mono ?_; rintro e w3 ⟨rfl, hb⟩)
    go_ret
    exact ⟨rfl, K0.out.trans (hb.mono K0.out.size)⟩
end Go.Proofs.Ytflplldamefhoaa.Bd
