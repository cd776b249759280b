import Derived.Test.YtinoddpdfknkbabAw
import Derived.Test.YtinoddpdfknkbabLf0
import Derived.Test.YtinoddpdfknkbabFrame
namespace Go.Proofs.Ytinoddpdfknkbab.Pc
open Go Go.RowKit
set_option linter.unusedVariables false
set_option maxHeartbeats 4000000 in
set_option maxRecDepth 100000 in
theorem law_lifo (v : Value) (C : Ls) (z : Int) (Af : Option Addr) (cf : Nat) (fs : Is) (w : World) (h : CaIn w v C) (hB : Sz 9223372036854775807 9223372036854775807 C) (hq : Bi w Af fs) (hcf : fs.length ≤ cf) (hn : fs.length ≤ 9223372036854775807) : Calls Try.prog 7 #[v, .int .i64 z, .slice Af fs.length cf] w fun e w' => e = .returned (.bool true) ∧ Below w.heap.size w w' := by
  have hI := h
  obtain ⟨A0, c0, rfl, hc0, r⟩ := h
  have AW := hide (fun W => awake_any W)
  have HI := hide hI
  have K := hide (bal (brefl w) (.cells #[.slice A0 C.length c0] 24))
  have X := hide (Box.new w 24 #[.slice A0 C.length c0])
  have FE := hide (few_ca _ C _ (hI.below K.out) hB)
  unfold FewR at FE
  have s1 := cell_box1 X.out
  have Q := hide hq
  have ST := hide hB
  clear hq hB
  clear r hI
  go_enter Try.func7, Try.ntmps7
  go_wp2_with fail
  refine FE.out.mono ?_
  rintro e w1 ⟨b, rfl, hf, hb⟩
  replace K := hide (btrans K.out hb)
  replace X := hide (X.out.below hb)
  clear hb s1 FE
  cases b
  · go_wp2_with fail
    refine (AW.out _).mono ?_
    rintro e w2 ⟨rfl, hb⟩
    replace K := hide (btrans K.out hb)
    clear hb
    go_wp2_with fail
    go_ret
    exact ⟨rfl, K.out⟩
  · have HS := hide (hf rfl)
    clear hf
    by_cases hl : 40 < fs.length
    · have hd : decide ((40 : Int) < (fs.length : Int)) = true := decide_eq_true (by omega)
      go_wp2_with fail
      refine (AW.out _).mono ?_
      rintro e w2 ⟨rfl, hb⟩
      replace K := hide (btrans K.out hb)
      clear hb
      go_wp2_with fail
      go_ret
      exact ⟨rfl, K.out⟩
    have hd : decide ((40 : Int) < (fs.length : Int)) = false := decide_eq_false (by omega)
    have s1 := cell_box1 X.out
    have M := bal (brefl w1) (.cells #[.slice A0 C.length c0] 24)
    have X7 := hide (Box.new w1 24 #[.slice A0 C.length c0])
    obtain ⟨b7, hb7⟩ : ∃ g, g = w1.heap.size := ⟨_, rfl⟩
    have HB7 := hide (show w.heap.size ≤ b7 by rw [hb7]; exact K.out.size)
    have HN7 := hide (show w.heap.size ≠ b7 by rw [hb7]; have := X.out.lt; omega)
    replace K := hide (btrans K.out M)
    replace X := hide (X.out.below M)
    have DI := hide (show CaIn (w1.alloc (.cells #[.slice A0 C.length c0] 24)) (.agg #[.slice A0 C.length c0]) (lfD C z []) by rw [lfD_nil]; exact HI.out.below K.out)
    rw [← hb7] at X7
    clear M
    go_upto_region 4 with fail
    rw [← hb7]
    generalize w1.alloc (.cells #[.slice A0 C.length c0] 24) = w2 at *
    clear s1 hb7 hd
    have DO := hide (show w2.ownsRow w.heap.size 3 1 (.slice none 0 0) ([] : Is).length (([] : Is).map ic) from ⟨rfl, .inl ⟨rfl, rfl⟩⟩)
    go_wp2
    go_loopw [8, 30] (fun dd i wr => ∃ (d : Value) (k : Nat) (s : Is) (A : Option Addr) (c : Nat), d = dd ∧ k ≤ fs.length ∧ s.length ≤ k ∧ i = .int .i64 k ∧ Hid (Below w.heap.size w wr) ∧ Hid (Box wr w.heap.size 24 #[.slice A0 C.length c0]) ∧ Hid (Box wr b7 24 #[.slice A C.length c]) ∧ Hid (CaIn wr (.agg #[.slice A C.length c]) (lfD C z s)) ∧ Hid (wr.ownsRow w.heap.size 3 1 d s.length (s.map ic)) ∧ Hid (s ≠ [] → czE (lfD C z s) z = 0)) (fun _ i _ => fs.length - (intOf i).toNat)
    case atStart => exact ⟨_, 0, [], A0, c0, rfl, Nat.zero_le _, Nat.le_refl _, rfl, K, X, X7, DI, DO, hide (fun x => absurd rfl x)⟩
    case round =>
      clear K X X7 DI DO
      obtain ⟨d, k, s, A, c, rfl, hk, hs, rfl, K, X, X7, DI, DO, OK⟩ := hrel
      by_cases hlt : k < fs.length
      · obtain ⟨b2, o2, rfl, hl2, x2⟩ := Q.out.cells K.out hlt
        generalize fs.getD k 0 = f at *
        have s7 := cell_box1 X7.out
        have HSZ := hide (sz_lf (z := z) (s := s) HS.out (show s.length ≤ 40 by omega))
        by_cases h0 : ptE (lfD C z s) z f 1 1000 = 0
        · have hzz := zlt (cz_of_pt h0)
          have OK2 := hide (ok_snoc h0)
          have PT := hide (put_ok _ (lfD C z s) z f 1 1000 wr DI.out HSZ.out h0 (lf_room HS.out (by omega)))
          rw [lfD_snoc hzz, lfD_len] at PT
          unfold RW at PT
          have DLT := hide (fun g (hg : d.ownBlock = some g) => (row_ge DO.out hg).2)
          clear hzz h0 DI OK HSZ
          go_wp2_with fail
          refine PT.out.mono ?_
          rintro e w2 ⟨A2, c2, vs, rfl, hc2, ow2, hb⟩
          have M := bal hb (.cells #[.slice A2 C.length c2] 24)
          have Y := hide (Box.new w2 24 #[.slice A2 C.length c2])
          have OW := hide (ow2.below (bal (brefl w2) (.cells #[.slice A2 C.length c2] 24)))
          replace K := hide (btrans K.out M)
          replace X := hide (X.out.below M)
          replace X7 := hide (X7.out.below M)
          replace DO := hide (row_below DO.out M)
          clear M hb ow2 s7 PT x2
          go_upto_region 9 with fail
          generalize w2.alloc (.cells #[.slice A2 C.length c2] 24) = w3 at *
          have s7 := cell_box1 X7.out
          have f7 := X7.out.frozen 0
          have sY := cell_box1 Y.out
          go_upto_region 13 with fail
          have KP := Kp.boxset X7.out HB7.out 0 (.slice A2 C.length c2)
          replace OW := hide (OW.out.kp KP (by decide) (by decide))
          replace DO := hide (row_kp DO.out KP (by decide))
          replace X := hide (X.out.far HN7.out (.slice A2 C.length c2) (i := 0))
          replace K := hide (bset K.out (p := ⟨b7, 0, none⟩) HB7.out (.slice A2 C.length c2))
          replace X7 := hide (X7.out.put 0 (.slice A2 C.length c2))
          clear KP s7 f7 sY Y
          generalize w3.setCell ⟨b7, 0, none⟩ (.slice A2 C.length c2) = w4 at *
          obtain ⟨v5, w5, ha5, ho5, hg5⟩ := app_one w4 w.heap.size s.length d f (s.map ic) DO.out (by omega) K.out.size
          have B5 := bal (brefl w4) (.cells #[.int .i64 f] 3)
          have kp5 : Kp w.heap.size 3 w4 w5 := (Kp.of_below B5 K.out.size).trans (kp_grown (row_below DO.out B5) hg5 (Nat.le_trans K.out.size B5.size))
          have OW5 := hide ((OW.out.below B5).grown DLT.out hg5)
          have X5 := hide (X.out.kp kp5 (by decide))
          have X75 := hide (X7.out.kp kp5 (by decide))
          have K5 := hide (K.out.trans kp5.below)
          have HO5 := hide (show w5.ownsRow w.heap.size 3 1 v5 (s ++ [f]).length ((s ++ [f]).map ic) by simpa [List.map_append, ic] using ho5)
          have HA5 := hide ha5
          clear ha5 ho5 hg5 B5 kp5 OW X X7 K DO DLT
          go_wp2_with (at_builtin; (refine wpList_app rfl (.tmp 48) (.tmp 50) 34 rfl _ _ _ rfl rfl 34 rfl HA5.out ?_))
          go_roundw
          case rel => exact ⟨_, k + 1, s ++ [f], A2, c2, rfl, by omega, by rw [List.length_append, List.length_singleton]; omega, by go_num, K5, X5, X75, hide ⟨A2, c2, by rw [lfD_len], by rw [lfD_len]; exact hc2, OW5.out.r.rd⟩, HO5, hide (fun _ => OK2.out)⟩
          case measure => simp [intOf]; omega
        · have PT := hide (put_any _ (lfD C z s) z f 1 1000 wr DI.out HSZ.out)
          unfold RB at PT
          have hd : (ptE (lfD C z s) z f 1 1000 != 0) = true := by simpa using h0
          generalize ptC (lfD C z s) z f 1 1000 = C1 at *
          generalize ptB (lfD C z s) z f 1 1000 = l1 at *
          generalize ptE (lfD C z s) z f 1 1000 = e1 at *
          clear h0 HSZ
          go_wp2_with fail
          refine PT.out.mono ?_
          rintro e w2 ⟨A2, c2, L2, d2, rfl, _, _, _, _, hb⟩
          have M := bal hb (.cells #[.slice A2 C1.length c2] 24)
          replace K := hide (btrans K.out M)
          replace X := hide (X.out.below M)
          replace X7 := hide (X7.out.below M)
          replace DO := hide (row_below DO.out M)
          replace DI := hide (DI.out.below M)
          clear M hb s7 PT x2
          go_upto_region 9 with fail
          generalize w2.alloc (.cells #[.slice A2 C1.length c2] 24) = w3 at *
          go_wp2
          go_roundw
          case rel => exact ⟨_, k + 1, s, A, c, rfl, by omega, by omega, by go_num, K, X, X7, DI, DO, OK⟩
          case measure => simp [intOf]; omega
      · obtain rfl : k = fs.length := by omega
        obtain ⟨Ad, cd, rfl, hcd⟩ := row_form DO.out
        have hsl : s.length ≤ 40 := by omega
        clear hlt hs hk
        go_wp2
        go_loopw [14] (fun i wr => ∃ (x : Int) (j : Nat) (A : Option Addr) (c : Nat), i = .int .i64 x ∧ j ≤ s.length ∧ x = (j : Int) - 1 ∧ Hid (Below w.heap.size w wr) ∧ Hid (Box wr w.heap.size 24 #[.slice A0 C.length c0]) ∧ Hid (Box wr b7 24 #[.slice A C.length c]) ∧ Hid (CaIn wr (.agg #[.slice A C.length c]) (lfD C z (s.take j))) ∧ Hid (wr.ownsRow w.heap.size 3 1 (.slice Ad s.length cd) s.length (s.map ic)) ∧ Hid (s.take j ≠ [] → czE (lfD C z (s.take j)) z = 0)) (fun i _ => (intOf i + 1).toNat)
        case atStart => exact ⟨(s.length : Int) - 1, s.length, A, c, by go_num, Nat.le_refl _, rfl, K, X, X7, hide (by rw [List.take_length]; exact DI.out), DO, hide (by rw [List.take_length]; exact OK.out)⟩
        case round =>
          clear K X X7 DI DO OK
          obtain ⟨x, j, A, c, rfl, hj, hi, K, X, X7, DI, DO, OK⟩ := hrel
          rcases j with _ | j
          · have hd : decide ((0 : Int) ≤ x) = false := decide_eq_false (by omega)
            rw [List.take_zero, lfD_nil] at DI
            have s1 := cell_box1 X.out
            have s7 := cell_box1 X7.out
            clear DO OK hi
            go_wp2_with fail
            refine (same_ca _ _ C _ (HI.out.below K.out) DI.out ST.out).mono ?_
            rintro e w2 ⟨rfl, hb⟩
            replace K := hide (btrans K.out hb)
            clear hb s1 s7
            go_wp2_with fail
            refine (AW.out _).mono ?_
            rintro e w3 ⟨rfl, hb⟩
            replace K := hide (btrans K.out hb)
            clear hb
            go_wp2_with fail
            go_ret
            exact ⟨rfl, K.out⟩
          · obtain rfl : x = (j : Int) := by omega
            rw [getD_snoc (show j < s.length by omega)] at DI OK
            have HG := hide (show (s.map ic)[j]? = some (.int .i64 (s.getD j 0)) by
              rw [List.getElem?_map, List.getElem?_eq_getElem (show j < s.length by omega), List.getD_eq_getElem?_getD, List.getElem?_eq_getElem (show j < s.length by omega)]; rfl)
            generalize s.getD j 0 = f at *
            have ok := OK.out (by simp)
            have TK := hide (take_any _ (lfD C z (s.take j ++ [f])) z wr DI.out (sz_lf HS.out (by rw [List.length_append, List.length_take, List.length_singleton]; omega)))
            obtain ⟨t1, t2, t3⟩ := lf_take ok
            rw [t1, t2, t3] at TK
            unfold R3 at TK
            rw [lfD_len] at TK
            have OK2 := hide (ok_pop ok)
            have s7 := cell_box1 X7.out
            clear t1 t2 t3 ok OK DI hi
            go_wp2_with fail
            refine TK.out.mono ?_
            rintro e w2 ⟨A2, c2, rfl, hc2, rd2, hb⟩
            have M := bal hb (.cells #[.slice A2 C.length c2] 24)
            have Y := hide (Box.new w2 24 #[.slice A2 C.length c2])
            have RD := hide (rd2.below (bal (brefl w2) (.cells #[.slice A2 C.length c2] 24)))
            replace K := hide (btrans K.out M)
            replace X := hide (X.out.below M)
            replace X7 := hide (X7.out.below M)
            replace DO := hide (row_below DO.out M)
            clear M hb rd2 s7 TK
            go_upto_region 19 with fail
            obtain ⟨g2, hg2⟩ : ∃ g, g = w2.heap.size := ⟨_, rfl⟩
            rw [← hg2] at Y ⊢
            generalize w2.alloc (.cells #[.slice A2 C.length c2] 24) = w3 at *
            clear hg2
            obtain ⟨gd, rfl, hgl, hge, hgc, hgf⟩ := row_cell DO.out (show s.length ≠ 0 by omega)
            have x3 := hgc j _ HG.out
            have s7 := cell_box1 X7.out
            have f7 := X7.out.frozen 0
            have sY := cell_box1 Y.out
            clear hgc hgf
            go_wp2
            have KP := Kp.boxset X7.out HB7.out 0 (.slice A2 C.length c2)
            have RD2 := hide (RD.out.kp KP)
            go_roundw
            case rel => exact ⟨(j : Int) - 1, j, A2, c2, by go_num, by omega, rfl, hide (bset K.out (p := ⟨b7, 0, none⟩) HB7.out _), hide (X.out.far HN7.out _), hide (X7.out.put 0 _), hide ⟨A2, c2, by rw [lfD_len], by rw [lfD_len]; exact hc2, RD2.out.rd⟩, hide (row_kp DO.out KP (by decide)), hide (fun _ => OK2.out)⟩
            case measure => simp [intOf]
end Go.Proofs.Ytinoddpdfknkbab.Pc
