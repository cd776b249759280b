import Derived.Test.YtncjicggolmofaaK1
import Derived.Test.YtncjicggolmofaaV5
import Derived.Deep.RegionLaw
namespace Go.Proofs.Ytncjicggolmofaa.Sb
open Go Go.RowKit
set_option linter.unusedVariables false
set_option linter.unusedSimpArgs false
theorem alI_bd (S : Sc) (n : Int) (fs : Is) : (alI S n fs).length ≤ 8192 := by
  by_cases h : alE S n fs = 0
  · have := (al_facts h).2.2.2.2
    have := obj_len ⟨S.ob, alL S n fs⟩
    omega
  · rw [(al_no h).2.1]; exact Nat.zero_le _
theorem alL_bd (S : Sc) (n : Int) (fs : Is) : (alL S n fs).length ≤ 8192 ∧ ∀ k, k < (alL S n fs).length → (cAt (alL S n fs) k).2.length ≤ 8192 := by
  by_cases h : alE S n fs = 0
  · have V := vd_of (al_facts h).1
    have h1 := V.wf.len
    refine ⟨by change (alL S n fs).length ≤ 256 at h1; omega, fun k hk => ?_⟩
    have h2 := V.wf.l32 (k := k) hk
    change (cAt (alL S n fs) k).2.length ≤ 32 at h2
    omega
  · rw [(al_no h).1]; exact ⟨Nat.zero_le _, fun k hk => absurd hk (Nat.not_lt_zero _)⟩
theorem fL_bd (S : Sc) (x : Int) (h20 : S.sl.length ≤ 20) (h40 : ∀ k, k < S.sl.length → (us S k).length ≤ 40) : (fL S x).length ≤ 8192 ∧ ∀ k, k < (fL S x).length → (cAt (fL S x) k).2.length ≤ 8192 := by
  have hm : ∀ c, c ∈ S.sl → c.2.length ≤ 40 := fun c hc => by
    obtain ⟨k, hk, rfl⟩ := List.mem_iff_getElem.1 hc
    have := h40 k hk
    unfold us at this
    rw [cAt_get hk] at this; exact this
  have key : (fL S x).length ≤ 20 ∧ ∀ c, c ∈ fL S x → c.2.length ≤ 40 := by
    unfold fL
    split
    · split
      · refine ⟨by rw [List.length_append, List.length_take, List.length_drop]; omega, fun c hc => ?_⟩
        rcases List.mem_append.1 hc with h | h
        · exact hm c (List.mem_of_mem_take h)
        · exact hm c (List.mem_of_mem_drop h)
      · refine ⟨by unfold fC; rw [List.length_set]; omega, fun c hc => ?_⟩
        unfold fC at hc
        by_cases hi : fI S x < S.sl.length
        · rcases List.mem_or_eq_of_mem_set hc with h | h
          · exact hm c h
          · rw [h]; show ((us S (fI S x)).set _ _).length ≤ 40; rw [List.length_set]; exact h40 _ hi
        · rw [List.set_eq_of_length_le (by omega)] at hc; exact hm c hc
    · exact ⟨Nat.zero_le _, fun c hc => by cases hc⟩
  exact ⟨by have := key.1; omega, fun k hk => by have := key.2 _ (cAt_mem hk); omega⟩
set_option maxRecDepth 100000 in
set_option maxHeartbeats 16000000 in
theorem law_keeps (A : Option Addr) (cp : Nat) (S : Sc) (n : Int) (Af : Option Addr) (cf : Nat) (fs : Is) (w : World) (hr : RdC w A S.sl) (hn : S.sl.length ≤ 9223372036854775807) (hln : ∀ k, k < S.sl.length → (us S k).length ≤ 9223372036854775807) (hnr : n ≤ 9223372036854775807 ∧ -9223372036854775808 ≤ n) (hq : Bi w Af fs) (hqn : fs.length ≤ 9223372036854775807) : Calls Try.prog 11 #[.agg #[.int .i64 S.ob, .slice A S.sl.length cp], .int .i64 n, .slice Af fs.length cf] w fun e w' => e = .returned (.bool true) ∧ Below w.heap.size w w' := by
  have AWK := hide (fun w => awake_any w)
  have K := hide (bal (brefl w) (.cells #[.int .i64 S.ob, .slice A S.sl.length cp] 24))
  have X := hide (Box.new w 24 #[.int .i64 S.ob, .slice A S.sl.length cp])
  have FW := hide (fun w' (h : Below w.heap.size w w') => few_any A cp S w' (hr.below h) hn)
  obtain ⟨g2, hg2⟩ : ∃ g, g = w.heap.size := ⟨_, rfl⟩
  have HG2 := hide hg2
  rw [← hg2] at X
  clear hg2
  have HR := hide (fun w' (h : Below w.heap.size w w') => hr.below h)
  have HQ := hide (fun w' (h : Below w.heap.size w w') => hq.below h)
  clear hr hq
  go_enter Try.func11, Try.ntmps11
  go_upto_region 1 with fail
  rw [← HG2.out]
  generalize (w.alloc (.cells #[.int .i64 S.ob, .slice A S.sl.length cp] 24)) = w1 at *
  obtain ⟨x0, x1⟩ : w1.cell? ⟨g2, 0, none⟩ = some (.int .i64 S.ob) ∧ w1.cell? ⟨g2, 1, none⟩ = some (.slice A S.sl.length cp) := ⟨X.out.cell 0, X.out.cell 1⟩
  go_wp2_with fail
  refine (FW.out _ K.out).mono ?_
  rintro e w2 ⟨rfl, hb⟩
  replace K := hide (btrans K.out hb)
  replace X := hide (X.out.below hb)
  clear hb x0 x1 FW
  cases hf : fw S
  · go_wp2_with fail
    refine (AWK.out _).mono ?_
    rintro e w9 ⟨rfl, hb⟩
    replace K := hide (btrans K.out hb)
    clear hb
    go_wp2
    go_ret
    exact ⟨rfl, K.out⟩
  have hfw : S.sl.length ≤ 20 ∧ ∀ k, k < S.sl.length → (us S k).length ≤ 40 := of_decide_eq_true hf
  by_cases h40 : 40 < fs.length
  · have hd : decide ((40 : Int) < (fs.length : Int)) = true := decide_eq_true (by omega)
    have hd2 : (40 : Int) < (fs.length : Int) := by omega
    go_wp2_with fail
    refine (AWK.out _).mono ?_
    rintro e w9 ⟨rfl, hb⟩
    replace K := hide (btrans K.out hb)
    clear hb
    go_wp2
    go_ret
    exact ⟨rfl, K.out⟩
  have hd : decide ((40 : Int) < (fs.length : Int)) = false := decide_eq_false (by omega)
  have OW := hide (fun w' (h : Below w.heap.size w w') => own_any A cp S w' (HR.out w' h) (by omega) (fun k hk => by have := hfw.2 k hk; omega))
  obtain ⟨x0, x1⟩ : w2.cell? ⟨g2, 0, none⟩ = some (.int .i64 S.ob) ∧ w2.cell? ⟨g2, 1, none⟩ = some (.slice A S.sl.length cp) := ⟨X.out.cell 0, X.out.cell 1⟩
  have HFW := hide hfw
  have H40 := hide (show fs.length ≤ 40 by omega)
  clear hfw h40
  go_wp2_with fail
  refine (OW.out _ K.out).mono ?_
  rintro e w3 ⟨v, rfl, hD, hb⟩
  obtain ⟨Ao, co, ev, _⟩ := hD.c.form
  subst ev
  replace K := hide (btrans K.out hb)
  replace X := hide (X.out.below hb)
  have OD := hide hD
  clear hb x0 x1 OW hD
  have M := bal (brefl w3) (.cells #[] 3)
  have HE := hide (empty_i w3 w3.heap.size (Nat.le_refl _))
  have HF := hide (HQ.out _ (btrans K.out M))
  have SB : w3.heap.size ≤ (w3.alloc (.cells #[] 3)).heap.size := M.size
  have K3 := hide (btrans K.out M)
  have X3 := hide (X.out.below M)
  have OD3 := hide (OD.out.below M)
  clear M
  obtain ⟨m1, hm1⟩ : ∃ m1, m1 = fs.length := ⟨_, rfl⟩
  have HM1 := hide hm1
  rw [← hm1]
  clear hm1
  have SL1 : fs.length ≤ 1000 := by have := H40.out; omega
  go_upto_region 4 with (at_builtin; refine app_copy _ rfl (.tmp 33) (.tmp 34) rfl w3.heap.size w3.heap.size Af cf m1 fs rfl rfl HE.out HF.out HM1.out.symm SL1 SB ?_; intro A5 c5 w5 hown5 hkp5)
  have BG5 := hide (show Bi w5 A5 fs from OwI.bi (B := w3.heap.size) (n := fs.length) (c := c5) (by unfold OwI; rw [← HM1.out]; exact hown5))
  have K5 := hide (show Below w.heap.size w w5 from K3.out.trans (hkp5.below.mono K.out.size))
  have X5 := hide (X3.out.kp hkp5 (by decide))
  have OD5 := hide (OD3.out.kp hkp5 (by decide) (by decide))
  clear HE HF SB K3 X3 OD3 K X OD hown5 hkp5 SL1
  have M := bal (brefl w5) (.cells #[.int .i64 S.ob, .slice Ao S.sl.length co] 24)
  have X7 := hide (Box.new w5 24 #[.int .i64 S.ob, .slice Ao S.sl.length co])
  have K := hide (btrans K5.out M)
  have X := hide (X5.out.below M)
  have RO := hide (show RdC (w5.alloc (.cells #[.int .i64 S.ob, .slice Ao S.sl.length co] 24)) Ao S.sl from (OD5.out.below M).c.rd)
  have BG := hide (BG5.out.below M)
  obtain ⟨g7, hg7⟩ : ∃ g, g = w5.heap.size := ⟨_, rfl⟩
  rw [← hg7] at X7
  rw [← hg7]
  clear hg7 M K5 X5 OD5 BG5
  generalize w5.alloc (.cells #[.int .i64 S.ob, .slice Ao S.sl.length co] 24) = wb at *
  -- the calls
  have AL := fun W (h1 : RdC W Ao S.sl) (h2 : Bi W A5 fs) => alloc_any Ao co S n A5 c5 fs W h1 (by have := HFW.out.1; omega) (fun k hk => by have := HFW.out.2 k hk; omega) hnr h2 (by have := H40.out; omega)
  have FR := fun W (h1 : RdC W Ao S.sl) => free_any Ao co S n W h1 (by have := HFW.out.1; omega) (fun k hk => by have := HFW.out.2 k hk; omega) hnr.2 hnr.1
  have OJ := fun W (h1 : RdC W Ao S.sl) => objs_any Ao co S W h1 (by have := HFW.out.1; omega) (fun k hk => by have := HFW.out.2 k hk; omega)
  unfold AlR at AL
  have b1 := alI_bd S n fs
  have b2 := alL_bd S n fs
  have b3 := fL_bd S n HFW.out.1 HFW.out.2
  have b4 := obj_len S
  rw [← HM1.out] at AL
  obtain ⟨L1, hL1⟩ : ∃ l, l = alL S n fs := ⟨_, rfl⟩
  obtain ⟨L2, hL2⟩ : ∃ l, l = fL S n := ⟨_, rfl⟩
  obtain ⟨l1, hl1⟩ : ∃ l, l = alI S n fs := ⟨_, rfl⟩
  obtain ⟨l2, hl2⟩ : ∃ l, l = obj S := ⟨_, rfl⟩
  simp only [← hL1, ← hl1] at AL
  rw [← hL1] at b2
  rw [← hl1] at b1
  simp only [← hL2] at FR
  rw [← hL2] at b3
  simp only [← hl2] at OJ
  rw [← hl2] at b4
  clear hL1 hL2 hl1 hl2
  generalize alB S n fs = o1 at *
  generalize alE S n fs = e1 at *
  generalize fO S n = o2 at *
  generalize fF S n = f2 at *
  generalize fE S n = e2 at *
  have B1 := hide b1
  have B2 := hide b2
  have B3 := hide b3
  have B4 := hide b4
  clear b1 b2 b3 b4
  replace AL := hide AL
  replace FR := hide FR
  replace OJ := hide OJ
  obtain ⟨z0, z1⟩ : wb.cell? ⟨g7, 0, none⟩ = some (.int .i64 S.ob) ∧ wb.cell? ⟨g7, 1, none⟩ = some (.slice Ao S.sl.length co) := ⟨X7.out.cell 0, X7.out.cell 1⟩
  go_wp2_with fail
  refine (AL.out wb RO.out BG.out).mono ?_
  rintro e w7 ⟨v1, A3, c3, rfl, hD1, hO1, hb⟩
  obtain ⟨A4, c4, ev, _⟩ := hD1.c.form
  subst ev
  have KB := hide hb
  have D1 := hide hD1
  have O1 := hide hO1
  clear hb hD1 hO1 z0 z1 AL
  go_upto_region 5 with fail
  have M := bal (brefl w7) (.cells #[.int .i64 o1, .slice A4 L1.length c4] 24)
  have X9 := hide (Box.new w7 24 #[.int .i64 o1, .slice A4 L1.length c4])
  replace KB := hide (btrans KB.out M)
  replace D1 := hide (D1.out.below M)
  replace O1 := hide (row_below O1.out M)
  clear M
  obtain ⟨g9, hg9⟩ : ∃ g, g = w7.heap.size := ⟨_, rfl⟩
  rw [← hg9] at X9
  rw [← hg9]
  clear hg9
  generalize w7.alloc (.cells #[.int .i64 o1, .slice A4 L1.length c4] 24) = w8 at *
  obtain ⟨z0, z1⟩ : w8.cell? ⟨g7, 0, none⟩ = some (.int .i64 S.ob) ∧ w8.cell? ⟨g7, 1, none⟩ = some (.slice Ao S.sl.length co) := ⟨(X7.out.below KB.out).cell 0, (X7.out.below KB.out).cell 1⟩
  go_wp2_with fail
  refine (FR.out w8 (RO.out.below KB.out)).mono ?_
  rintro e w9 ⟨v2, rfl, hD2, hb⟩
  obtain ⟨A6, c6, ev, _⟩ := hD2.c.form
  subst ev
  have D2 := hide (OwnD.mono hD2 (KB.out.size))
  replace KB := hide (btrans KB.out hb)
  replace D1 := hide (D1.out.below hb)
  replace O1 := hide (row_below O1.out hb)
  replace X9 := hide (X9.out.below hb)
  clear hb hD2 z0 z1 FR
  go_upto_region 6 with fail
  have M := bal (brefl w9) (.cells #[.int .i64 o2, .slice A6 L2.length c6] 24)
  have X12 := hide (Box.new w9 24 #[.int .i64 o2, .slice A6 L2.length c6])
  replace KB := hide (btrans KB.out M)
  replace D1 := hide (D1.out.below M)
  replace D2 := hide (D2.out.below M)
  replace O1 := hide (row_below O1.out M)
  replace X9 := hide (X9.out.below M)
  clear M
  obtain ⟨g12, hg12⟩ : ∃ g, g = w9.heap.size := ⟨_, rfl⟩
  rw [← hg12] at X12
  rw [← hg12]
  clear hg12
  generalize w9.alloc (.cells #[.int .i64 o2, .slice A6 L2.length c6] 24) = w10 at *
  obtain ⟨z0, z1⟩ : w10.cell? ⟨g7, 0, none⟩ = some (.int .i64 S.ob) ∧ w10.cell? ⟨g7, 1, none⟩ = some (.slice Ao S.sl.length co) := ⟨(X7.out.below KB.out).cell 0, (X7.out.below KB.out).cell 1⟩
  go_wp2_with fail
  refine (OJ.out w10 (RO.out.below KB.out)).mono ?_
  rintro e w11 ⟨⟨A2, c2, rfl, hO2⟩, hb⟩
  have O2 := hide (show OwI wb.heap.size w11 (.slice A2 l2.length c2) l2 from row_mono hO2 KB.out.size)
  replace KB := hide (btrans KB.out hb)
  replace D1 := hide (D1.out.below hb)
  replace D2 := hide (D2.out.below hb)
  replace O1 := hide (row_below O1.out hb)
  replace X9 := hide (X9.out.below hb)
  replace X12 := hide (X12.out.below hb)
  clear hb hO2 z0 z1 OJ
  obtain ⟨n1, hn1⟩ : ∃ n1, n1 = l1.length := ⟨_, rfl⟩
  obtain ⟨n2, hn2⟩ : ∃ n2, n2 = l2.length := ⟨_, rfl⟩
  have ST := hide (show St wb.heap.size wb g9 g12 o1 o2 (.slice A4 L1.length c4) (.slice A6 L2.length c6) L1 L2 A3 n1 c3 A2 n2 c2 w11 from ⟨KB.out, X9.out, X12.out, SlR.of D1.out, SlR.of D2.out, ⟨l1, hn1.symm, by rw [hn1]; exact O1.out⟩, ⟨l2, hn2.symm, by rw [hn2]; exact O2.out⟩⟩)
  have N1 := hide (show n1 ≤ 8192 by rw [hn1]; exact B1.out)
  have N2 := hide (show n2 ≤ 8192 by rw [hn2]; exact B4.out)
  rw [← hn1, ← hn2]
  clear KB D1 D2 O1 O2 X9 X12 hn1 hn2 B1 B4
  obtain ⟨B, hB⟩ : ∃ B, B = wb.heap.size := ⟨_, rfl⟩
  rw [← hB] at ST
  have HB := hide hB
  clear hB
  go_upto_region 8 with fail
  go_loopw [16] (fun i wr => ∃ k : Nat, i = .int .i64 k ∧ k ≤ n1 ∧ Hid (St B wb g9 g12 o1 o2 (.slice A4 L1.length c4) (.slice A6 L2.length c6) L1 L2 A3 n1 c3 A2 n2 c2 wr)) (fun i _ => n1 - (intOf i).toNat)
  case atStart => exact ⟨0, rfl, Nat.zero_le _, ST⟩
  case round =>
    clear ST
    obtain ⟨k, rfl, hk, ST⟩ := hrel
    by_cases hlk : k < n1
    · have hl2 : (k : Int) < (n1 : Int) := by omega
      have hk0 : (0 : Int) ≤ (k : Int) := by omega
      have hk8 : (k : Int) ≤ 8192 := by have := N1.out; omega
      obtain ⟨g, eA, hBg, ⟨cur, hx⟩, ⟨z, y0⟩, y1⟩ := RwI.cell ST.out.l hlk
      subst eA
      have ST2 := hide (ST.out.put3 hx hBg k (-1))
      clear hx
      go_wp2
      go_roundw
      case rel => exact ⟨k + 1, by go_num, by omega, ST2⟩
      case measure => simp [intOf]; omega
    · obtain rfl : n1 = k := by omega
      go_upto_region 12 with fail
      go_loopw [17] (fun i wr => ∃ k : Nat, i = .int .i64 k ∧ k ≤ n2 ∧ Hid (St B wb g9 g12 o1 o2 (.slice A4 L1.length c4) (.slice A6 L2.length c6) L1 L2 A3 n1 c3 A2 n2 c2 wr)) (fun i _ => n2 - (intOf i).toNat)
      case atStart => exact ⟨0, rfl, Nat.zero_le _, ST⟩
      case round =>
        clear ST
        obtain ⟨k, rfl, hk, ST⟩ := hrel
        by_cases hlk : k < n2
        · have hl2 : (k : Int) < (n2 : Int) := by omega
          have hk0 : (0 : Int) ≤ (k : Int) := by omega
          have hk8 : (k : Int) ≤ 8192 := by have := N2.out; omega
          obtain ⟨g, eA, hBg, ⟨cur, hx⟩, ⟨z, y0⟩, y1⟩ := RwI.cell ST.out.o hlk
          subst eA
          have ST2 := hide (ST.out.put3 hx hBg k (-1))
          clear hx
          go_wp2
          go_roundw
          case rel => exact ⟨k + 1, by go_num, by omega, ST2⟩
          case measure => simp [intOf]; omega
        · obtain rfl : n2 = k := by omega
          go_upto_region 15 with fail
          have u0 := ST.out.b9.cell 0
          have u1 := ST.out.b9.cell 1
          have u2 := ST.out.b12.cell 0
          have u3 := ST.out.b12.cell 1
          simp at u0 u1 u2 u3
          obtain ⟨we, hwe⟩ : ∃ q, q = wr := ⟨_, rfl⟩
          rw [← hwe] at ST u0 u1 u2 u3
          rw [← hwe]
          clear hwe
          go_upto_region 16 with fail
          have M := bal (brefl we) (.cells #[.int .i64 o1, .slice A4 L1.length c4, .int .i64 o2, .slice A6 L2.length c6] 24)
          have HSZ : B ≤ we.heap.size := by rw [HB.out]; exact (HB.out ▸ ST.out.KB).size
          have SA := hide (show Sa B wb we.heap.size o1 o2 (.slice A4 L1.length c4) (.slice A6 L2.length c6) L1 L2 (we.alloc (.cells #[.int .i64 o1, .slice A4 L1.length c4, .int .i64 o2, .slice A6 L2.length c6] 24)) from ⟨ST.out.KB.trans (M.mono HSZ), Box.new we 24 _, ST.out.s1.below M, ST.out.s2.below M⟩)
          obtain ⟨ga, hga⟩ : ∃ q, q = we.heap.size := ⟨_, rfl⟩
          rw [← hga] at SA
          rw [← hga]
          clear hga u0 u1 u2 u3 M HSZ ST
          generalize we.alloc (.cells #[.int .i64 o1, .slice A4 L1.length c4, .int .i64 o2, .slice A6 L2.length c6] 24) = wf at *
          go_upto_region 17 with fail
          go_loopw [19, 20, 21] (fun i _ _ wx => ∃ k : Nat, i = .int .i64 k ∧ k ≤ 2 ∧ Hid (Sa B wb ga o1 o2 (.slice A4 L1.length c4) (.slice A6 L2.length c6) L1 L2 wx)) (fun i _ _ _ => 2 - (intOf i).toNat)
          case atStart => exact ⟨0, rfl, Nat.zero_le _, SA⟩
          case round =>
            clear SA
            obtain ⟨k, rfl, hk, SA⟩ := hrel
            by_cases hlk : k < 2
            · have hl2 : (k : Int) < 2 := by omega
              have hk0 : (0 : Int) ≤ (k : Int) := by omega
              obtain ⟨A0, c0, L0, hlen, hlen2, SEL⟩ : ∃ (A0 : Option Addr) (c0 : Nat) (L0 : List Ca), L0.length ≤ 8192 ∧ (∀ q, q < L0.length → (cAt L0 q).2.length ≤ 8192) ∧ ∀ W, Sa B wb ga o1 o2 (.slice A4 L1.length c4) (.slice A6 L2.length c6) L1 L2 W → W.cell? ⟨ga, k * 2 + 1, none⟩ = some (.slice A0 L0.length c0) ∧ SlR B W (.slice A0 L0.length c0) L0 := by
                rcases (show k = 0 ∨ k = 1 by omega) with rfl | rfl
                · exact ⟨A4, c4, L1, B2.out.1, B2.out.2, fun W h => ⟨h.ba.cell 1, h.s1⟩⟩
                · exact ⟨A6, c6, L2, B3.out.1, B3.out.2, fun W h => ⟨h.ba.cell 3, h.s2⟩⟩
              have HL := hide hlen
              have HL2 := hide hlen2
              have HSEL := hide SEL
              clear hlen hlen2 SEL
              go_upto_region 20 with fail
              go_loopw [20, 21] (fun i _ wx => ∃ q : Nat, i = .int .i64 q ∧ q ≤ L0.length ∧ Hid (Sa B wb ga o1 o2 (.slice A4 L1.length c4) (.slice A6 L2.length c6) L1 L2 wx)) (fun i _ _ => L0.length - (intOf i).toNat)
              case atStart => exact ⟨0, rfl, Nat.zero_le _, SA⟩
              case round =>
                clear SA
                obtain ⟨q, rfl, hq, SA⟩ := hrel
                have ya := (HSEL.out _ SA.out).1
                by_cases hlq : q < L0.length
                · have hlq2 : (q : Int) < (L0.length : Int) := by omega
                  have hq0 : (0 : Int) ≤ (q : Int) := by omega
                  have hq8 : (q : Int) ≤ 8192 := by have := HL.out; omega
                  obtain ⟨len, hlenq⟩ : ∃ len, len = (cAt L0 q).2.length := ⟨_, rfl⟩
                  have HLQ := hide hlenq
                  have HLN := hide (show len ≤ 8192 by rw [hlenq]; exact HL2.out q hlq)
                  clear hlenq
                  have HLT := hide hlq
                  go_upto_region 23 with fail
                  go_loopw [21] (fun i wx => ∃ j : Nat, i = .int .i64 j ∧ j ≤ len ∧ Hid (Sa B wb ga o1 o2 (.slice A4 L1.length c4) (.slice A6 L2.length c6) L1 L2 wx)) (fun i _ => len - (intOf i).toNat)
                  case atStart => exact ⟨0, rfl, Nat.zero_le _, SA⟩
                  case round =>
                    clear SA
                    obtain ⟨j, rfl, hj, SA⟩ := hrel
                    have ya := (HSEL.out _ SA.out).1
                    obtain ⟨g, eA, hBg, ⟨cur, hx⟩, ⟨z, y1⟩, yf, Af', cf', y2, hcf, hfl⟩ := (HSEL.out _ SA.out).2.slab HLT.out
                    rw [← HLQ.out] at y2 hcf hfl
                    rw [eA] at ya
                    by_cases hlj : j < len
                    · have hlj2 : (j : Int) < (len : Int) := by omega
                      have hj0 : (0 : Int) ≤ (j : Int) := by omega
                      have hj8 : (j : Int) ≤ 8192 := by have := HLN.out; omega
                      obtain ⟨gf, eAf, hBf, ⟨cur', hx'⟩, ⟨b, y3⟩, y4⟩ := hfl j hlj
                      subst eAf
                      have ST2 := hide (SA.out.put4 hx' hBf j (!b))
                      have HB2 := hide (show B ≤ (wr.setCell ⟨gf, j, none⟩ (.bool (!b))).heap.size by rw [HB.out]; have := (HB.out ▸ ST2.out.KB : Below wb.heap.size wb _).size; exact this)
                      clear hx hx' hfl eA hcf hBg hBf
                      go_wp2
                      go_region
                      have SA2 := hide (ST2.out.below HB2.out (show Below _ (wr.setCell ⟨gf, j, none⟩ (.bool (!b))) (wr.setCell ⟨gf, j, none⟩ (.bool (!b))).drew from below_drewN (brefl _) 1))
                      clear ST2 HB2 ya y1 yf y2 y3 y4
                      generalize (wr.setCell ⟨gf, j, none⟩ (.bool (!b))).drew = wy at *
                      go_wp2
                      go_roundw
                      case rel => exact ⟨j + 1, by go_num, by omega, SA2⟩
                      case measure => simp [intOf]; omega
                    · obtain rfl : len = j := by omega
                      have ST2 := hide (SA.out.put52 hx hBg q (-1))
                      clear hx hfl eA hBg
                      go_wp2
                      go_roundw
                      case rel => exact ⟨q + 1, by go_num, by omega, ST2⟩
                      case measure => simp [intOf]; omega
                · obtain rfl : L0.length = q := by omega
                  go_wp2
                  go_roundw
                  case rel => exact ⟨k + 1, by go_num, by omega, SA⟩
                  case measure => simp [intOf]; omega
            · obtain rfl : 2 = k := by omega
              have R1 := hide (RO.out.below (HB.out ▸ SA.out.KB))
              have R0 := hide (HR.out _ (btrans K.out (HB.out ▸ SA.out.KB)))
              have I1 := hide (BG.out.below (HB.out ▸ SA.out.KB))
              have I0 := hide (HQ.out _ (btrans K.out (HB.out ▸ SA.out.KB)))
              have SM := hide (fun W (h1 : RdC W Ao S.sl) (h2 : RdC W A S.sl) => (same_any Ao A co cp S S W h1 h2 (by have := HFW.out.1; omega) (by have := HFW.out.1; omega) (fun k hk => by have := HFW.out.2 k hk; omega) (fun k hk => by have := HFW.out.2 k hk; omega)).mono (fun e w' h => (show e = .returned (.bool true) ∧ Below W.heap.size W w' from ⟨by rw [h.1, decide_eq_true ⟨rfl, rfl⟩], h.2⟩)))
              have EQ := fun W (h1 : Bi W A5 fs) (h2 : Bi W Af fs) => (equal_any A5 Af c5 cf fs fs W h1 h2 (by have := H40.out; omega)).mono (fun e w' h => (show e = .returned (.bool true) ∧ Below W.heap.size W w' from ⟨by rw [h.1, decide_eq_true rfl], h.2⟩))
              rw [← HM1.out] at EQ
              replace EQ := hide EQ
              have XX := X.out.below (HB.out ▸ SA.out.KB)
              have X77 := X7.out.below (HB.out ▸ SA.out.KB)
              have x0 := XX.cell 0
              have x1 := XX.cell 1
              have z0 := X77.cell 0
              have z1 := X77.cell 1
              simp at x0 x1 z0 z1
              replace K := hide (btrans K.out (HB.out ▸ SA.out.KB))
              clear XX X77 SA
              go_wp2_with fail
              refine (SM.out _ R1.out R0.out).mono ?_
              rintro e w20 ⟨rfl, hb⟩
              replace K := hide (btrans K.out hb)
              replace I1 := hide (I1.out.below hb)
              replace I0 := hide (I0.out.below hb)
              clear hb x0 x1 z0 z1 SM
              go_wp2_with fail
              refine (EQ.out _ I1.out I0.out).mono ?_
              rintro e w21 ⟨rfl, hb⟩
              replace K := hide (btrans K.out hb)
              clear hb EQ
              go_wp2_with fail
              refine (AWK.out _).mono ?_
              rintro e w9 ⟨rfl, hb⟩
              replace K := hide (btrans K.out hb)
              clear hb
              go_wp2
              go_ret
              exact ⟨rfl, K.out⟩
end Go.Proofs.Ytncjicggolmofaa.Sb
