import Derived.Test.YtiopfeleaifpbabW8
namespace Go.Proofs.Ytiopfeleaifpbab.Bd
open Go Go.RowKit
set_option linter.unusedVariables false
set_option linter.unusedSimpArgs false
set_option maxRecDepth 100000 in
set_option maxHeartbeats 8000000 in
theorem law_order (A : Option Addr) (cp : Nat) (l : Is) (m : Mk) (n0 n1 n2 : Int) (w : World) (hr : Bi w A l) (hc : l.length ≤ cp) (hn : l.length ≤ 9223372036854775807) (hn0 : 0 ≤ n0 ∧ n0 < 256) (hn1 : 0 ≤ n1 ∧ n1 < 256) (hn2 : 0 ≤ n2 ∧ n2 < 256) : Calls Try.prog 7 #[.slice A l.length cp, .agg #[.int .i64 m.lo, .int .i64 m.md, .int .i64 m.hi], .agg #[.int .u8 n0, .int .u8 n1, .int .u8 n2]] w fun e w' => e = .returned (.bool true) ∧ Below w.heap.size w w' := by
  have AW := hide (fun W => awake_any W)
  have FA := hide (fun (o x : Int) W (hb : Below w.heap.size w W) => allow_any A cp l m o x W (hr.below hb) hc hn)
  have VD := hide (fun W (hb : Below w.heap.size w W) => valid_any A cp l W (hr.below hb) hn)
  have HR := hide hr
  have CTX := hide (fun (o c d : Int) (h : alwP l m o c) (h0 : 0 ≤ c) (hcd : c ≤ d) (h2 : d ≤ 2) => decide_eq_true (alw_ctx h h0 hcd h2))
  obtain ⟨lo, md, hi⟩ := m
  simp only at FA
  show Calls Try.prog 7 #[.slice A l.length cp, .agg #[.int .i64 lo, .int .i64 md, .int .i64 hi], .agg #[.int .u8 n0, .int .u8 n1, .int .u8 n2]] w _
  obtain ⟨g4, hg⟩ : ∃ g, g = w.heap.size := ⟨_, rfl⟩
  obtain ⟨W0, hW0⟩ : ∃ W0, W0 = (w.alloc (.cells #[.int .i64 lo, .int .i64 md, .int .i64 hi] 23)).alloc (.cells #[.int .u8 n0, .int .u8 n1, .int .u8 n2] 38) := ⟨_, rfl⟩
  have X4 := hide (show Box W0 g4 23 #[.int .i64 lo, .int .i64 md, .int .i64 hi] by rw [hW0, hg]; exact (Box.new w 23 _).more _)
  have X5 := hide (show Box W0 (g4 + 1) 38 #[.int .u8 n0, .int .u8 n1, .int .u8 n2] by rw [hW0, hg]; exact Box.new2 w _ 38 _)
  have K := hide (show Below w.heap.size w W0 by rw [hW0]; exact bal (bal (brefl w) _) _)
  obtain ⟨g5, hg5⟩ : ∃ g5, g5 = g4 + 1 := ⟨_, rfl⟩
  clear hr
  by_cases h20 : l.length ≤ 20
  · have d20 : decide ((20 : Int) < (l.length : Int)) = false := decide_eq_false (by omega)
    by_cases hv : valL l
    · have dv := decide_eq_true hv
      have HV := hide hv
      obtain ⟨k, hk, hk5⟩ : ∃ k : Nat, n0 % 5 = k ∧ k < 5 := ⟨(n0 % 5).toNat, by omega, by omega⟩
      obtain ⟨c, hcc, hc3⟩ : ∃ c : Nat, n1 % 3 = c ∧ c < 3 := ⟨(n1 % 3).toNat, by omega, by omega⟩
      have EK := hide (show (IntKind.i64.wrap n0).tmod 5 = (k : Int) by rw [IntWalk.i64_in _ (by omega), Int.tmod_eq_emod_of_nonneg hn0.1, hk])
      have EC := hide (show (IntKind.i64.wrap n1).tmod 3 = (c : Int) by rw [IntWalk.i64_in _ (by omega), Int.tmod_eq_emod_of_nonneg hn1.1, hcc])
      clear hv hk hcc
      go_enter Try.func7, Try.ntmps7
      go_upto_region 1 with fail
      rw [← hW0, ← hg]
      clear hW0 hg
      rw [← hg5] at X5 ⊢
      clear hg5
      go_upto_region 3 with (go_at_call 10; refine (AW.out _).mono ?_; rintro e w1 ⟨rfl, hb⟩; replace X4 := hide (X4.out.below hb); replace X5 := hide (X5.out.below hb); replace K := hide (btrans K.out hb); clear hb)
      go_wp2_with fail
      refine (VD.out _ K.out).mono ?_
      rintro e w8 ⟨⟨t, rfl, ht⟩, rfl⟩
      go_upto_region 6 with fail
      replace X4 := hide (show Box w1.drew g4 23 #[.int .i64 lo, .int .i64 md, .int .i64 hi] from X4.out.below (below_drewN (brefl w1) 1))
      replace X5 := hide (show Box w1.drew g5 38 #[.int .u8 n0, .int .u8 n1, .int .u8 n2] from X5.out.below (below_drewN (brefl w1) 1))
      replace K := hide (show Below w.heap.size w w1.drew from btrans K.out (below_drewN (brefl w1) 1))
      refine wp_region_noPanic ?_
      refine wp_region_held_drew (S := (fun W => W.cell? ⟨g5, 0, none⟩ = some (.int .u8 n0) ∧ W.cell? ⟨g5, 1, none⟩ = some (.int .u8 n1))) (by kernel_rfl) ?_ (fun hHeld => ?_)
      · exact ⟨X5.out.cell 0, X5.out.cell 1⟩
      generalize w1.drew = w2 at *
      refine wpAnyH_take (i := 0) (oi := ⟨some 29, _, _, _, _, _⟩) (v := ?_) rfl (by kernel_rfl) (by kernel_rfl) (by kernel_rfl) (fun _ _ _ h => h) (Or.inl ⟨by kernel_rfl, ?_⟩) (by assumption) ?_
      rotate_left 1
      · (intro w hSw; (try dsimp only at hSw); go_simp) <;> (with_reducible rfl)
      (try simp only [Act.put, List.setIfInBounds_toArray, List.set_cons_succ, List.set_cons_zero])
      refine wpAnyH_take (i := 1) (oi := ⟨some 30, _, _, _, _, _⟩) (v := ?_) rfl (by kernel_rfl) (by kernel_rfl) (by kernel_rfl) (fun _ _ _ h => h) (Or.inl ⟨by kernel_rfl, ?_⟩) (by assumption) ?_
      rotate_left 1
      · (intro w hSw; (try dsimp only at hSw); go_simp) <;> (with_reducible rfl)
      (try simp only [Act.put, List.setIfInBounds_toArray, List.set_cons_succ, List.set_cons_zero])
      refine wpAnyH_take (i := 2) (oi := ⟨some 31, _, _, _, _, _⟩) (v := ?_) rfl (by kernel_rfl) (by kernel_rfl) (by kernel_rfl) (fun _ _ _ h => h) (Or.inl ⟨by kernel_rfl, ?_⟩) (by assumption) ?_
      rotate_left 1
      · (intro w hSw; (try dsimp only at hSw); go_simp) <;> (with_reducible rfl)
      (try simp only [Act.put, List.setIfInBounds_toArray, List.set_cons_succ, List.set_cons_zero])
      refine wpAnyH_take (i := 3) (oi := ⟨some 32, _, _, _, _, _⟩) (v := ?_) rfl (by kernel_rfl) (by kernel_rfl) (by kernel_rfl) (fun _ _ _ h => h) (Or.inl ⟨by kernel_rfl, ?_⟩) (by assumption) ?_
      rotate_left 1
      · (intro w hSw; (try dsimp only at hSw); go_simp) <;> (with_reducible rfl)
      (try simp only [Act.put, List.setIfInBounds_toArray, List.set_cons_succ, List.set_cons_zero])
      refine wpAnyH_take (i := 4) (oi := ⟨some 33, _, _, _, _, _⟩) (v := ?_) rfl (by kernel_rfl) (by kernel_rfl) (by kernel_rfl) (fun _ _ _ h => h) (Or.inl ⟨by kernel_rfl, ?_⟩) (by assumption) ?_
      rotate_left 1
      · (intro w hSw; (try dsimp only at hSw); go_simp) <;> (with_reducible rfl)
      (try simp only [Act.put, List.setIfInBounds_toArray, List.set_cons_succ, List.set_cons_zero])
      refine wpAnyH_take (i := 5) (oi := ⟨some 34, _, _, _, _, _⟩) (v := ?_) rfl (by kernel_rfl) (by kernel_rfl) (by kernel_rfl) (fun _ _ _ h => h) (Or.inl ⟨by kernel_rfl, ?_⟩) (by assumption) ?_
      rotate_left 1
      · (intro w hSw; (try dsimp only at hSw); go_simp) <;> (with_reducible rfl)
      (try simp only [Act.put, List.setIfInBounds_toArray, List.set_cons_succ, List.set_cons_zero])
      refine wpAnyH_take (i := 6) (oi := ⟨some 35, _, _, _, _, _⟩) (v := ?_) rfl (by kernel_rfl) (by kernel_rfl) (by kernel_rfl) (fun _ _ _ h => h) (Or.inl ⟨by kernel_rfl, ?_⟩) (by assumption) ?_
      rotate_left 1
      · (intro w hSw; (try dsimp only at hSw); go_simp) <;> (with_reducible rfl)
      (try simp only [Act.put, List.setIfInBounds_toArray, List.set_cons_succ, List.set_cons_zero])
      refine wpAnyH_take (i := 7) (oi := ⟨some 36, _, _, _, _, _⟩) (v := ?_) rfl (by kernel_rfl) (by kernel_rfl) (by kernel_rfl) (fun _ _ _ h => h) (Or.inl ⟨by kernel_rfl, ?_⟩) (by assumption) ?_
      rotate_left 1
      · (intro w hSw; (try dsimp only at hSw); go_simp) <;> (with_reducible rfl)
      (try simp only [Act.put, List.setIfInBounds_toArray, List.set_cons_succ, List.set_cons_zero])
      refine wpAnyH_take (i := 8) (oi := ⟨some 9, _, _, _, _, _⟩) (v := ?_) rfl (by kernel_rfl) (by kernel_rfl) (by kernel_rfl) (fun _ _ _ h => h) (Or.inl ⟨by kernel_rfl, ?_⟩) (by assumption) ?_
      rotate_left 1
      · (intro w hSw; (try dsimp only at hSw); go_simp) <;> (with_reducible rfl)
      (try simp only [Act.put, List.setIfInBounds_toArray, List.set_cons_succ, List.set_cons_zero])
      refine wpAnyH_take (i := 9) (oi := ⟨some 10, _, _, _, _, _⟩) (v := ?_) rfl (by kernel_rfl) (by kernel_rfl) (by kernel_rfl) (fun _ _ _ h => h) (Or.inl ⟨by kernel_rfl, ?_⟩) (by assumption) ?_
      rotate_left 1
      · (intro w hSw; (try dsimp only at hSw); go_simp) <;> (with_reducible rfl)
      (try simp only [Act.put, List.setIfInBounds_toArray, List.set_cons_succ, List.set_cons_zero])
      refine wpAnyH_done (by kernel_rfl) ?_ _
      refine NoPanic.normal ?_
      rw [EK.out, EC.out]
      clear EK EC hHeld
      have F1 := hide (FA.out k c _ K.out)
      have x0 : w2.cell? ⟨g4, 0, none⟩ = some (.int .i64 lo) := X4.out.cell 0; have x1 : w2.cell? ⟨g4, 1, none⟩ = some (.int .i64 md) := X4.out.cell 1; have x2 : w2.cell? ⟨g4, 2, none⟩ = some (.int .i64 hi) := X4.out.cell 2
      by_cases hal : alwP l ⟨lo, md, hi⟩ k c
      · have HAL := hide hal
        rw [decide_eq_true hal] at F1
        clear hal
        go_wp2_with fail
        refine F1.out.mono ?_
        rintro e w3 ⟨rfl, hb⟩
        replace X4 := hide (X4.out.below hb); replace X5 := hide (X5.out.below hb); replace K := hide (btrans K.out hb); clear hb
        clear x0 x1 x2
        go_wp2
        go_loopw [11] (fun a wr => ∃ d : Nat, c ≤ d ∧ d ≤ 3 ∧ a = .int .i64 d ∧ Hid (Box wr g4 23 #[.int .i64 lo, .int .i64 md, .int .i64 hi]) ∧ Hid (Box wr g5 38 #[.int .u8 n0, .int .u8 n1, .int .u8 n2]) ∧ Hid (Below w.heap.size w wr)) (fun a _ => 4 - (intOf a).toNat)
        case atStart => exact ⟨c, Nat.le_refl _, by omega, rfl, X4, X5, K⟩
        case round =>
          clear X4 X5 K
          obtain ⟨d, hcd, hd3, rfl, X4, X5, K⟩ := hrel
          by_cases hd2 : d ≤ 2
          · have hd22 : (d : Int) ≤ 2 := by omega
            have F2 := hide (FA.out k d _ K.out)
            rw [CTX.out k c d HAL.out (by omega) (by omega) hd22] at F2
            have x0 : wr.cell? ⟨g4, 0, none⟩ = some (.int .i64 lo) := X4.out.cell 0; have x1 : wr.cell? ⟨g4, 1, none⟩ = some (.int .i64 md) := X4.out.cell 1; have x2 : wr.cell? ⟨g4, 2, none⟩ = some (.int .i64 hi) := X4.out.cell 2
            go_wp2_with fail
            refine F2.out.mono ?_
            rintro e w4 ⟨rfl, hb⟩
            replace X4 := hide (X4.out.below hb); replace X5 := hide (X5.out.below hb); replace K := hide (btrans K.out hb); clear hb
            clear x0 x1 x2
            go_wp2
            go_roundw
            case rel => exact ⟨d + 1, by omega, by omega, by go_num, X4, X5, K⟩
            case measure => simp [intOf]; omega
          · obtain rfl : d = 3 := by omega
            have X6 := hide (Box.new wr 3 #[.int .i64 0, .int .i64 0, .int .i64 0, .int .i64 0, .int .i64 0])
            have M1 := bal (brefl wr) (.cells #[.int .i64 0, .int .i64 0, .int .i64 0, .int .i64 0, .int .i64 0] 3)
            have HGM := hide (show w.heap.size ≤ wr.heap.size from K.out.size)
            replace X4 := hide (X4.out.below M1)
            replace X5 := hide (X5.out.below M1)
            replace K := hide (K.out.trans (M1.mono K.out.size))
            clear M1
            have hmk : ∀ w, (Instr.makeSlice 33 (.int .i64 5) (.int .i64 5)).run Try.prog w = .ok (.slice (some ⟨w.heap.size, 0, none⟩) 5 5) (w.alloc (.cells #[.int .i64 0, .int .i64 0, .int .i64 0, .int .i64 0, .int .i64 0] 3)) := fun w => make5 w
            go_upto_region 15 with fail
            clear hmk
            obtain ⟨gm, hgm⟩ : ∃ g, g = wr.heap.size := ⟨_, rfl⟩
            rw [← hgm] at X6 HGM ⊢
            generalize wr.alloc (.cells #[.int .i64 0, .int .i64 0, .int .i64 0, .int .i64 0, .int .i64 0] 3) = wm at *
            clear hgm
            have HGN := hide HGM.out
            have hpos : l.length = 0 ∨ 0 < l.length := by omega
            rcases hpos with h0 | hpos
            · obtain rfl : l = [] := List.eq_nil_of_length_eq_zero h0
              go_upto_region 16 with (refine wpList_copy_nothing rfl (.tmp 55) (.tmp 56) 33 33 rfl 3 Try.underlying33 size3 (some ⟨gm, 0, none⟩) A 5 5 0 cp rfl rfl rfl ?_)
              have RM := hide (show RI wm gm (pd []) from X6.out)
              clear X6
              obtain ⟨l, hl⟩ : ∃ l : Is, l = [] := ⟨_, rfl⟩
              rw [← hl] at RM HV HAL
              obtain ⟨ko, hko, hko5⟩ : ∃ ko : Nat, n2 % 5 = ko ∧ ko < 5 := ⟨(n2 % 5).toNat, by omega, by omega⟩
              have hkt := hide (show wrap64 (n2.tmod 5) = (ko : Int) by rw [Int.tmod_eq_emod_of_nonneg hn2.1, hko]; unfold wrap64; omega)
              have hkq := hide (show (IntKind.i64.wrap n2).tmod 5 = (ko : Int) by rw [IntWalk.i64_in _ (by omega), Int.tmod_eq_emod_of_nonneg hn2.1, hko])
              have hkr := hide hko
              clear hko
              have y2 : wm.cell? ⟨g5, 2, none⟩ = some (.int .u8 n2) := X5.out.cell 2
              go_upto_region 17 with fail
              first | rw [hkt.out] | rw [hkq.out] | rw [hkr.out]
              clear hkt hkq hkr y2
              have q0 := RM.out.at_ (k := ko) hko5
              rw [pd_at l hko5] at q0
              have f0 : wm.frozen? ⟨gm, ko, none⟩ = false := Box.frozen RM.out ko
              have VS := hide (fun h => valL_set HV.out (k := ko) hko5 h)
              have hqb := HV.out.at_ (k := ko) hko5
              unfold inC at hqb
              have hko0 : (0 : Int) ≤ (ko : Int) := by omega
              have hko55 : (ko : Int) < 5 := by omega
              obtain ⟨z, hz⟩ : ∃ z, z = l.getD ko 0 := ⟨_, rfl⟩
              rw [← hz] at q0 VS hqb
              by_cases hlt : z < 4096
              · obtain ⟨hvr, hle⟩ := VS.out hlt
                have A2 := hide (decide_eq_true (alw_more HAL.out hvr hle))
                have R2 := hide (RM.out.put ko (z + 1))
                have KB := Kp.boxset (B := w.heap.size) (T := 3) RM.out HGM.out ko (.int .i64 (z + 1))
                have XX := hide (X4.out.kp KB (by decide))
                have KK := hide (K.out.trans KB.below)
                have hl5 : ((pd l).set ko (z + 1)).length = 5 := by rw [List.length_set]; rfl
                clear VS hvr hle KB hz
                generalize (pd l).set ko (z + 1) = r at *
                go_upto_region 19 with fail
                clear RM X4 X5 K q0 f0
                generalize wm.setCell ⟨gm, ko, none⟩ (.int .i64 (z + 1)) = wn at *
                have AC := allow_any (some ⟨gm, 0, none⟩) 5 r ⟨lo, md, hi⟩ k c wn R2.out.bi (by omega) (by omega)
                rw [A2.out, hl5] at AC
                have x0 : wn.cell? ⟨g4, 0, none⟩ = some (.int .i64 lo) := XX.out.cell 0
                have x1 : wn.cell? ⟨g4, 1, none⟩ = some (.int .i64 md) := XX.out.cell 1
                have x2 : wn.cell? ⟨g4, 2, none⟩ = some (.int .i64 hi) := XX.out.cell 2
                clear hl5
                go_wp2_with (go_at_call 19; refine AC.mono ?_; rintro e w9 ⟨rfl, hb⟩)
                go_ret
                exact ⟨rfl, btrans KK.out hb⟩
              · have A2 := hide (decide_eq_true (alw_more HAL.out (valL_pd HV.out) (fun j hj => by rw [pd_at l hj]; exact Int.le_refl _)))
                have AC := allow_any (some ⟨gm, 0, none⟩) 5 (pd l) ⟨lo, md, hi⟩ k c wm RM.out.bi (Nat.le_refl _) (by rw [pd_len]; omega)
                rw [A2.out, pd_len] at AC
                clear VS hz
                have x0 : wm.cell? ⟨g4, 0, none⟩ = some (.int .i64 lo) := X4.out.cell 0; have x1 : wm.cell? ⟨g4, 1, none⟩ = some (.int .i64 md) := X4.out.cell 1; have x2 : wm.cell? ⟨g4, 2, none⟩ = some (.int .i64 hi) := X4.out.cell 2
                go_wp2_with (go_at_call 19; refine AC.mono ?_; rintro e w9 ⟨rfl, hb⟩)
                go_ret
                exact ⟨rfl, btrans K.out hb⟩
            · obtain ⟨b0, of0, rfl, hb0, _⟩ := HR.out.at_ K.out hpos
              have CS := hide (bi_news HR.out K.out 5)
              have hlm : ((l.take 5).map ic).length = Nat.min l.length 5 := by rw [List.length_map, List.length_take, Nat.min_comm]
              have PE := hide (pad_eq l)
              have CO := hide (show ∀ v ∈ (l.take 5).map ic, v.oneCell' = true by intro v hv; obtain ⟨x, _, rfl⟩ := List.mem_map.1 hv; rfl)
              have HLM := hide hlm
              have hfit := hide (show 0 + ((l.take 5).map ic).length ≤ 5 by rw [hlm, Nat.zero_add]; exact Nat.min_le_right _ _)
              clear hlm
              obtain ⟨cs, hcs⟩ : ∃ cs, cs = (l.take 5).map ic := ⟨_, rfl⟩
              rw [← hcs] at CS PE CO HLM hfit
              clear hcs
              go_upto_region 16 with (refine wpList_copy_own rfl (.tmp 55) (.tmp 56) 33 33 rfl 3 Try.underlying33 size3 gm 0 5 5 ⟨b0, of0, none⟩ l.length cp rfl rfl #[.int .i64 0, .int .i64 0, .int .i64 0, .int .i64 0, .int .i64 0] 3 X6.out cs HLM.out CS.out hfit.out CO.out ?_)
              have e5 : (List.take 0 [Value.int .i64 0, .int .i64 0, .int .i64 0, .int .i64 0, .int .i64 0] ++ (cs ++ List.drop (0 + cs.length) [Value.int .i64 0, .int .i64 0, .int .i64 0, .int .i64 0, .int .i64 0])).toArray = ((pd l).map ic).toArray := by rw [Nat.zero_add]; exact congrArg List.toArray PE.out
              rw [e5]
              have RM := hide (show RI (wm.setRow gm ((pd l).map ic).toArray) gm (pd l) from setRow_heap wm gm _ _ 3 (0, 0) X6.out)
              have N4 := Box.ne X4.out X6.out (by decide)
              have N5 := Box.ne X5.out X6.out (by decide)
              replace X4 := hide (show Box (wm.setRow gm ((pd l).map ic).toArray) g4 23 #[.int .i64 lo, .int .i64 md, .int .i64 hi] from (setRow_other wm gm g4 _ N4).trans X4.out)
              replace X5 := hide (show Box (wm.setRow gm ((pd l).map ic).toArray) g5 38 #[.int .u8 n0, .int .u8 n1, .int .u8 n2] from (setRow_other wm gm g5 _ N5).trans X5.out)
              replace K := hide (show Below w.heap.size w (wm.setRow gm ((pd l).map ic).toArray) from below_setRow K.out HGM.out _)
              clear e5 N4 N5 X6 CS PE CO HLM hfit
              generalize wm.setRow gm ((pd l).map ic).toArray = wq at *
              obtain ⟨ko, hko, hko5⟩ : ∃ ko : Nat, n2 % 5 = ko ∧ ko < 5 := ⟨(n2 % 5).toNat, by omega, by omega⟩
              have hkt := hide (show wrap64 (n2.tmod 5) = (ko : Int) by rw [Int.tmod_eq_emod_of_nonneg hn2.1, hko]; unfold wrap64; omega)
              have hkq := hide (show (IntKind.i64.wrap n2).tmod 5 = (ko : Int) by rw [IntWalk.i64_in _ (by omega), Int.tmod_eq_emod_of_nonneg hn2.1, hko])
              have hkr := hide hko
              clear hko
              have y2 : wq.cell? ⟨g5, 2, none⟩ = some (.int .u8 n2) := X5.out.cell 2
              go_upto_region 17 with fail
              first | rw [hkt.out] | rw [hkq.out] | rw [hkr.out]
              clear hkt hkq hkr y2
              have q0 := RM.out.at_ (k := ko) hko5
              rw [pd_at l hko5] at q0
              have f0 : wq.frozen? ⟨gm, ko, none⟩ = false := Box.frozen RM.out ko
              have VS := hide (fun h => valL_set HV.out (k := ko) hko5 h)
              have hqb := HV.out.at_ (k := ko) hko5
              unfold inC at hqb
              have hko0 : (0 : Int) ≤ (ko : Int) := by omega
              have hko55 : (ko : Int) < 5 := by omega
              obtain ⟨z, hz⟩ : ∃ z, z = l.getD ko 0 := ⟨_, rfl⟩
              rw [← hz] at q0 VS hqb
              by_cases hlt : z < 4096
              · obtain ⟨hvr, hle⟩ := VS.out hlt
                have A2 := hide (decide_eq_true (alw_more HAL.out hvr hle))
                have R2 := hide (RM.out.put ko (z + 1))
                have KB := Kp.boxset (B := w.heap.size) (T := 3) RM.out HGM.out ko (.int .i64 (z + 1))
                have XX := hide (X4.out.kp KB (by decide))
                have KK := hide (K.out.trans KB.below)
                have hl5 : ((pd l).set ko (z + 1)).length = 5 := by rw [List.length_set]; rfl
                clear VS hvr hle KB hz
                generalize (pd l).set ko (z + 1) = r at *
                go_upto_region 19 with fail
                clear RM X4 X5 K q0 f0
                generalize wq.setCell ⟨gm, ko, none⟩ (.int .i64 (z + 1)) = wn at *
                have AC := allow_any (some ⟨gm, 0, none⟩) 5 r ⟨lo, md, hi⟩ k c wn R2.out.bi (by omega) (by omega)
                rw [A2.out, hl5] at AC
                have x0 : wn.cell? ⟨g4, 0, none⟩ = some (.int .i64 lo) := XX.out.cell 0
                have x1 : wn.cell? ⟨g4, 1, none⟩ = some (.int .i64 md) := XX.out.cell 1
                have x2 : wn.cell? ⟨g4, 2, none⟩ = some (.int .i64 hi) := XX.out.cell 2
                clear hl5
                go_wp2_with (go_at_call 19; refine AC.mono ?_; rintro e w9 ⟨rfl, hb⟩)
                go_ret
                exact ⟨rfl, btrans KK.out hb⟩
              · have A2 := hide (decide_eq_true (alw_more HAL.out (valL_pd HV.out) (fun j hj => by rw [pd_at l hj]; exact Int.le_refl _)))
                have AC := allow_any (some ⟨gm, 0, none⟩) 5 (pd l) ⟨lo, md, hi⟩ k c wq RM.out.bi (Nat.le_refl _) (by rw [pd_len]; omega)
                rw [A2.out, pd_len] at AC
                clear VS hz
                have x0 : wq.cell? ⟨g4, 0, none⟩ = some (.int .i64 lo) := X4.out.cell 0; have x1 : wq.cell? ⟨g4, 1, none⟩ = some (.int .i64 md) := X4.out.cell 1; have x2 : wq.cell? ⟨g4, 2, none⟩ = some (.int .i64 hi) := X4.out.cell 2
                go_wp2_with (go_at_call 19; refine AC.mono ?_; rintro e w9 ⟨rfl, hb⟩)
                go_ret
                exact ⟨rfl, btrans K.out hb⟩
      · rw [decide_eq_false hal] at F1
        clear hal
        go_wp2_with fail
        refine F1.out.mono ?_
        rintro e w3 ⟨rfl, hb⟩
        replace X4 := hide (X4.out.below hb); replace X5 := hide (X5.out.below hb); replace K := hide (btrans K.out hb); clear hb
        clear x0 x1 x2
        go_wp2
        go_ret
        exact ⟨rfl, K.out⟩
    · have dv := decide_eq_false hv
      clear hv CTX
      go_enter Try.func7, Try.ntmps7
      go_upto_region 1 with fail
      rw [← hW0, ← hg]
      clear hW0 hg
      rw [← hg5] at X5 ⊢
      clear hg5
      go_upto_region 3 with (go_at_call 10; refine (AW.out _).mono ?_; rintro e w1 ⟨rfl, hb⟩; replace X4 := hide (X4.out.below hb); replace X5 := hide (X5.out.below hb); replace K := hide (btrans K.out hb); clear hb)
      go_wp2_with fail
      refine (VD.out _ K.out).mono ?_
      rintro e w8 ⟨⟨t, rfl, ht⟩, rfl⟩
      go_wp2
      go_ret
      exact ⟨rfl, K.out⟩
  · have d20 : decide ((20 : Int) < (l.length : Int)) = true := decide_eq_true (by omega)
    clear h20
    go_enter Try.func7, Try.ntmps7
    go_upto_region 1 with fail
    rw [← hW0, ← hg]
    clear hW0 hg
    rw [← hg5] at X5 ⊢
    clear hg5
    go_upto_region 2 with (go_at_call 10; refine (AW.out _).mono ?_; rintro e w1 ⟨rfl, hb⟩; replace X4 := hide (X4.out.below hb); replace X5 := hide (X5.out.below hb); replace K := hide (btrans K.out hb); clear hb)
    go_wp2_with (go_at_call 10; refine (AW.out _).mono ?_; rintro e w3 ⟨rfl, hb⟩)
    go_ret
    exact ⟨rfl, btrans K.out hb⟩
end Go.Proofs.Ytiopfeleaifpbab.Bd
