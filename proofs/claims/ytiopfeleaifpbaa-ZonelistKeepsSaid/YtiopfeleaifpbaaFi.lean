import Derived.Test.YtiopfeleaifpbaaCp
namespace Go.Proofs.Ytiopfeleaifpbaa.Bd
open Go Go.RowKit Go.Sort Go.Lib
set_option linter.unusedVariables false
set_option linter.unusedSimpArgs false
set_option maxRecDepth 100000 in
set_option maxHeartbeats 8000000 in
theorem first_any (p : Po) (n : Int) (hp : poE p = 0) (w : World) : Calls Try.prog 41 #[.agg #[.int .i64 p.k, .int .i64 p.m, .int .i64 p.t], .int .i64 n] w fun e w' => e = .returned (.int .i64 (fo p n)) ∧ Below w.heap.size w w' := by
  obtain ⟨i0, hi0, hz0, hz1, hz2⟩ := info_parts info3
  obtain ⟨hk0, hk3, hpm, hpt⟩ := poE_0 hp
  have hpos := fun h => nm_pos (p := p) h
  have hrem := fun (h1 : 1 ≤ p.m ∧ p.m < 16) (h2 : 0 ≤ p.t) => rem_lt (nm_pos h1) h2
  have hfo : fo p n = if p.k = 1 then (nm p).getD 0 0 else if p.k = 3 then (nm p).getD (p.t % (nm p).length).toNat 0 else n := rfl
  obtain ⟨k, m, t⟩ := p
  unfold nm at hpos hrem hfo
  simp only at hk0 hk3 hpm hpt hpos hrem hfo ⊢
  have FO := hide hfo
  clear hfo hp
  generalize fo ⟨k, m, t⟩ n = f at *
  have X := hide (Box.new w 34 #[.int .i64 k, .int .i64 m, .int .i64 t])
  have K0 := hide (bal (brefl w) (.cells #[.int .i64 k, .int .i64 m, .int .i64 t] 34))
  obtain ⟨W0, hW0⟩ : ∃ W0, W0 = (w.alloc (.cells #[.int .i64 k, .int .i64 m, .int .i64 t] 34)) := ⟨_, rfl⟩
  rw [← hW0] at X K0
  obtain ⟨g, hg⟩ : ∃ g, g = w.heap.size := ⟨_, rfl⟩
  rw [← hg] at X
  have HG := hide hg
  obtain ⟨B, hB⟩ : ∃ B, B = W0.heap.size := ⟨_, rfl⟩
  have HB := hide hB
  clear hB
  have x0 := X.out.cell 0
  have x1 := X.out.cell 1
  have x2 := X.out.cell 2
  simp at x0 x1 x2
  by_cases a0 : k = 0
  · have EF := hide (FO.out.trans (by rw [if_neg (by omega), if_neg (by omega)]))
    subst a0
    clear hpm hpt hpos hrem
    go_enter Try.func41, Try.ntmps41
    go_upto_region 1 with fail
    rw [← hg, ← hW0]
    clear hg hW0
    go_wp2
    go_ret
    exact ⟨ret_int EF.out.symm, K0.out⟩
  · by_cases a2 : k = 2
    · have EF := hide (FO.out.trans (by rw [if_neg (by omega), if_neg (by omega)]))
      subst a2
      clear hpm hpt hpos hrem a0
      go_enter Try.func41, Try.ntmps41
      go_upto_region 1 with fail
      rw [← hg, ← hW0]
      clear hg hW0
      go_wp2
      go_ret
      exact ⟨ret_int EF.out.symm, K0.out⟩
    · have hm := hpm a0
      have IN := hide (fun (z : Int) (hz : 0 ≤ z ∧ z < 4) w => rin_any m z hz hm w)
      have hp0 := hpos hm
      by_cases a1 : k = 1
      · have EF := hide (FO.out.trans (if_pos a1))
        subst a1
        have hix : 0 < (un (bt m) 4).length := hp0
        obtain ⟨fv0, hval⟩ : ∃ fv0, (un (bt m) 4).getD 0 0 = fv0 := ⟨_, rfl⟩
        rw [hval] at EF
        clear hpm hpt hpos hrem a0 a2 hm
        go_enter Try.func41, Try.ntmps41
        go_upto_region 1 with fail
        rw [← hg, ← hW0]
        clear hg hW0
        go_wp2
        have O0 := hide (ow_nil B W0)
        go_loopw [5, 6] (fun a b wr => ∃ q : Nat, q ≤ 4 ∧ b = .int .i64 q ∧ Hid (OwI B wr a (un (bt m) q)) ∧ Hid (Below B W0 wr)) (fun _ b _ => 4 - (intOf b).toNat)
        case atStart => exact ⟨0, by omega, rfl, O0, hide (Below.refl _ _)⟩
        case round =>
          clear O0 x0 x1 x2
          obtain ⟨q, hq, rfl, O, K⟩ := hrel
          have hbb : Below W0.heap.size W0 wr := by rw [← HB.out]; exact K.out
          have x0 := (X.out.below hbb).cell 0
          have x1 := (X.out.below hbb).cell 1
          have x2 := (X.out.below hbb).cell 2
          simp at x0 x1 x2
          clear hbb
          obtain ⟨A1, cap1, ev, hcp⟩ := row_form O.out
          subst ev
          clear hcp
          by_cases hlt : q < 4
          · have hlt2 : (q : Int) < 4 := by omega
            have hq0 : (0 : Int) ≤ (q : Int) := by omega
            have C1 := hide (fun w => IN.out (q : Int) ⟨by omega, by omega⟩ w)
            by_cases h1 : bt m q = true
            · have EH := hide (un_1 (h := bt m) h1)
              rw [h1] at C1
              clear h1
              go_upto_region 8 with (go_at_call 42; refine (C1.out _).mono ?_; rintro e w' ⟨rfl, rfl⟩)
              clear C1 x0 x1 x2
              have M := bal (brefl wr) (.cells #[.int .i64 (q : Int)] 3)
              have OA := hide (row_below O.out M)
              have NB := hide (cell_one_new wr (.int .i64 (q : Int)) 3)
              have SA0 : B ≤ wr.heap.size := by have := K.out.size; rw [HB.out]; exact (HB.out ▸ this)
              have SA := hide (show B ≤ (wr.alloc (.cells #[.int .i64 (q : Int)] 3)).heap.size by rw [alloc_size']; omega)
              have KA := hide (K.out.trans (M.mono SA0))
              clear M O K SA0
              obtain ⟨l1, hl1⟩ : ∃ l1, l1 = un (bt m) q := ⟨_, rfl⟩
              obtain ⟨m1, hm1⟩ : ∃ m1, m1 = l1.length := ⟨_, rfl⟩
              have hfl : m1 ≤ 1000 := by rw [hm1, hl1]; exact by have := un_len (bt m) q; omega
              rw [← hl1, ← hm1] at OA
              rw [← hl1] at EH
              rw [← hl1, ← hm1]
              have HLM := hide hm1
              clear hl1 hm1
              go_upto_region 6 with (at_builtin; refine wpList_append_own_at _ rfl (.tmp 24) (.tmp 26) 27 rfl B 3 i0 _ 1 8 Try.underlying27 hi0 hz0 hz1 hz2 rfl (by omega) (.slice A1 m1 cap1) m1 (l1.map ic) rfl OA.out ⟨wr.heap.size, 0, none⟩ 1 1 [.int .i64 (q : Int)] rfl rfl NB.out (by intro u hu; rw [List.mem_singleton.1 hu]; rfl) (by simp only [maxLen]; omega) (by omega) SA.out ?_; intro v4 w4 hown4 hg4 _ hat4; obtain ⟨A4, cp4, ev4, _⟩ := row_form hown4; subst ev4)
              have e3 : (un (bt m) (q + 1)).length = m1 + 1 := by rw [EH.out, List.length_append, ← HLM.out]; rfl
              have O := hide (show OwI B w4 (.slice A4 (m1 + 1) cp4) (un (bt m) (q + 1)) by
                unfold OwI
                rw [e3, EH.out, List.map_append]
                exact hown4)
              have B4 := below_grown OA.out hg4 SA.out
              have K := hide (KA.out.trans B4)
              rw [← e3] at O ⊢
              clear B4 hown4 hg4 hat4 OA NB SA KA e3 hfl HLM
              go_wp2
              go_roundw
              case rel => exact ⟨q + 1, by omega, by go_num, O, K⟩
              case measure => simp [intOf]; omega
            · have h1' : bt m q = false := by simpa using h1
              have EH := un_0 (h := bt m) h1'
              rw [h1'] at C1
              rw [← EH] at O ⊢
              clear h1 h1' EH
              go_wp2_with (go_at_call 42; refine (C1.out _).mono ?_; rintro e w' ⟨rfl, rfl⟩)
              go_roundw
              case rel => exact ⟨q + 1, by omega, by go_num, O, K⟩
              case measure => simp [intOf]; omega
          · obtain rfl : q = 4 := by omega
            have RB := OwI.bi O.out
            obtain ⟨gl, ol, rfl, hgl, xl⟩ := RB.cells (brefl _) hix
            rw [hval] at xl
            try simp only [Nat.add_zero] at xl
            clear RB O
            generalize (un (bt m) 4).length = ln at *
            have hq1 : (0 : Int) < (ln : Int) := by omega
            have hq2 : ((ln : Int) == 0) = false := beq_eq_false_iff_ne.2 (by omega)
            have hq3 : ¬ (ln : Int) = 0 := by omega
            go_wp2
            go_ret
            exact ⟨ret_int EF.out.symm, K0.out.trans (K.out.mono (by rw [HB.out]; exact K0.out.size))⟩
      · have a3 : k = 3 := by omega
        have EF := hide (FO.out.trans (by rw [if_neg a1, if_pos a3]))
        have hr := hrem hm (hpt a3)
        subst a3
        obtain ⟨hr1, hr2, hr3⟩ := hr
        obtain ⟨ri, hri⟩ : ∃ ri, ri = (t % ((un (bt m) 4).length : Int)).toNat := ⟨_, rfl⟩
        rw [← hri] at hr1 hr2 EF
        have hix : ri < (un (bt m) 4).length := hr1
        obtain ⟨fv0, hval⟩ : ∃ fv0, (un (bt m) 4).getD ri 0 = fv0 := ⟨_, rfl⟩
        rw [hval] at EF
        clear hpm hpt hpos hrem a0 a2 a1 hm hri hr3
        go_enter Try.func41, Try.ntmps41
        go_upto_region 1 with fail
        rw [← hg, ← hW0]
        clear hg hW0
        go_wp2
        have O0 := hide (ow_nil B W0)
        go_loopw [5, 6] (fun a b wr => ∃ q : Nat, q ≤ 4 ∧ b = .int .i64 q ∧ Hid (OwI B wr a (un (bt m) q)) ∧ Hid (Below B W0 wr)) (fun _ b _ => 4 - (intOf b).toNat)
        case atStart => exact ⟨0, by omega, rfl, O0, hide (Below.refl _ _)⟩
        case round =>
          clear O0 x0 x1 x2
          obtain ⟨q, hq, rfl, O, K⟩ := hrel
          have hbb : Below W0.heap.size W0 wr := by rw [← HB.out]; exact K.out
          have x0 := (X.out.below hbb).cell 0
          have x1 := (X.out.below hbb).cell 1
          have x2 := (X.out.below hbb).cell 2
          simp at x0 x1 x2
          clear hbb
          obtain ⟨A1, cap1, ev, hcp⟩ := row_form O.out
          subst ev
          clear hcp
          by_cases hlt : q < 4
          · have hlt2 : (q : Int) < 4 := by omega
            have hq0 : (0 : Int) ≤ (q : Int) := by omega
            have C1 := hide (fun w => IN.out (q : Int) ⟨by omega, by omega⟩ w)
            by_cases h1 : bt m q = true
            · have EH := hide (un_1 (h := bt m) h1)
              rw [h1] at C1
              clear h1
              go_upto_region 8 with (go_at_call 42; refine (C1.out _).mono ?_; rintro e w' ⟨rfl, rfl⟩)
              clear C1 x0 x1 x2
              have M := bal (brefl wr) (.cells #[.int .i64 (q : Int)] 3)
              have OA := hide (row_below O.out M)
              have NB := hide (cell_one_new wr (.int .i64 (q : Int)) 3)
              have SA0 : B ≤ wr.heap.size := by have := K.out.size; rw [HB.out]; exact (HB.out ▸ this)
              have SA := hide (show B ≤ (wr.alloc (.cells #[.int .i64 (q : Int)] 3)).heap.size by rw [alloc_size']; omega)
              have KA := hide (K.out.trans (M.mono SA0))
              clear M O K SA0
              obtain ⟨l1, hl1⟩ : ∃ l1, l1 = un (bt m) q := ⟨_, rfl⟩
              obtain ⟨m1, hm1⟩ : ∃ m1, m1 = l1.length := ⟨_, rfl⟩
              have hfl : m1 ≤ 1000 := by rw [hm1, hl1]; exact by have := un_len (bt m) q; omega
              rw [← hl1, ← hm1] at OA
              rw [← hl1] at EH
              rw [← hl1, ← hm1]
              have HLM := hide hm1
              clear hl1 hm1
              go_upto_region 6 with (at_builtin; refine wpList_append_own_at _ rfl (.tmp 24) (.tmp 26) 27 rfl B 3 i0 _ 1 8 Try.underlying27 hi0 hz0 hz1 hz2 rfl (by omega) (.slice A1 m1 cap1) m1 (l1.map ic) rfl OA.out ⟨wr.heap.size, 0, none⟩ 1 1 [.int .i64 (q : Int)] rfl rfl NB.out (by intro u hu; rw [List.mem_singleton.1 hu]; rfl) (by simp only [maxLen]; omega) (by omega) SA.out ?_; intro v4 w4 hown4 hg4 _ hat4; obtain ⟨A4, cp4, ev4, _⟩ := row_form hown4; subst ev4)
              have e3 : (un (bt m) (q + 1)).length = m1 + 1 := by rw [EH.out, List.length_append, ← HLM.out]; rfl
              have O := hide (show OwI B w4 (.slice A4 (m1 + 1) cp4) (un (bt m) (q + 1)) by
                unfold OwI
                rw [e3, EH.out, List.map_append]
                exact hown4)
              have B4 := below_grown OA.out hg4 SA.out
              have K := hide (KA.out.trans B4)
              rw [← e3] at O ⊢
              clear B4 hown4 hg4 hat4 OA NB SA KA e3 hfl HLM
              go_wp2
              go_roundw
              case rel => exact ⟨q + 1, by omega, by go_num, O, K⟩
              case measure => simp [intOf]; omega
            · have h1' : bt m q = false := by simpa using h1
              have EH := un_0 (h := bt m) h1'
              rw [h1'] at C1
              rw [← EH] at O ⊢
              clear h1 h1' EH
              go_wp2_with (go_at_call 42; refine (C1.out _).mono ?_; rintro e w' ⟨rfl, rfl⟩)
              go_roundw
              case rel => exact ⟨q + 1, by omega, by go_num, O, K⟩
              case measure => simp [intOf]; omega
          · obtain rfl : q = 4 := by omega
            have RB := OwI.bi O.out
            obtain ⟨gl, ol, rfl, hgl, xl⟩ := RB.cells (brefl _) hix
            rw [hval] at xl
            try simp only [Nat.add_zero] at xl
            clear RB O
            generalize (un (bt m) 4).length = ln at *
            have hq1 : (ri : Int) < (ln : Int) := by omega
            have hq2 : ((ln : Int) == 0) = false := beq_eq_false_iff_ne.2 (by omega)
            have hq3 : ¬ (ln : Int) = 0 := by omega
            go_wp2
            go_ret
            exact ⟨ret_int EF.out.symm, K0.out.trans (K.out.mono (by rw [HB.out]; exact K0.out.size))⟩
end Go.Proofs.Ytiopfeleaifpbaa.Bd
