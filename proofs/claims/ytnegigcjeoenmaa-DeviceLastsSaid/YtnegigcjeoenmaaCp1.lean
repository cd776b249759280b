import Derived.Test.YtnegigcjeoenmaaCl1
namespace Go.Proofs.Ytnegigcjeoenmaa.Dv
open Go Go.RowKit
set_option linter.unusedVariables false
set_option maxHeartbeats 8000000 in
set_option maxRecDepth 100000 in
theorem copy_dev (v : Value) (D : Dev) (w : World) (h : DevIn w v D) (hS : Sm D) : Calls Try.prog 39 #[v] w (DvR D w) := by
  obtain ⟨Ab, cb, Ac, cc, Aq, cq, rfl, h1, h2, h3, rb, rc, rq⟩ := h
  obtain ⟨W0, hW0⟩ : ∃ W0, W0 = ((w.alloc (.cells #[.int .i64 D.dep, .int .i64 D.nxt, .slice Ab D.bl.length cb, .slice Ac D.ca.length cc, .slice Aq D.qu.length cq] 28)).alloc (.cells #[.int .i64 0, .int .i64 0, .slice none 0 0, .slice none 0 0, .slice none 0 0] 28)).alloc (.cells #[.int .i64 D.dep, .int .i64 D.nxt, .slice none 0 0, .slice none 0 0, .slice none 0 0] 28) := ⟨_, rfl⟩
  have K0 := hide (show Below w.heap.size w W0 by rw [hW0]; exact bal (bal (bal (brefl w) _) _) _)
  have CL0 := hide (show Cl w w.heap.size (w.heap.size + 1) (w.heap.size + 2) #[.int .i64 D.dep, .int .i64 D.nxt, .slice Ab D.bl.length cb, .slice Ac D.ca.length cc, .slice Aq D.qu.length cq] #[.int .i64 0, .int .i64 0, .slice none 0 0, .slice none 0 0, .slice none 0 0] D.dep D.nxt (.slice none 0 0) (.slice none 0 0) (.slice none 0 0) [] [] [] W0 from
    ⟨K0.out, by rw [hW0]; exact ((Box.new w 28 _).more _).more _, by rw [hW0]; exact (Box.new2 _ _ _ _).more _, by rw [hW0]; exact Box.new3 _ _ _ _ _, OwnB.nil _ _, OwnC.nil _ _, OwnQ.nil _ _⟩)
  have RB := hide rb
  have RC := hide rc
  have RQ := hide rq
  have HS := hide hS
  have hos : w.heap.size ≠ w.heap.size + 2 := by omega
  have hor : w.heap.size + 1 ≠ w.heap.size + 2 := by omega
  have hwo : w.heap.size ≤ w.heap.size + 2 := by omega
  have lb : D.bl.length ≤ 1000 := hS.bl
  have lc : D.ca.length ≤ 1000 := hS.ca
  have lq : D.qu.length ≤ 1000 := hS.qu
  have HW := hide hW0
  clear rb rc rq hS
  go_enter Try.func39, Try.ntmps39
  go_wp2
  rw [← hW0]
  clear hW0
  go_loopw [4] (fun i wr => ∃ (k : Nat) (vb : Value), k ≤ D.bl.length ∧ i = .int .i64 k ∧ Hid (Cl w w.heap.size (w.heap.size + 1) (w.heap.size + 2) #[.int .i64 D.dep, .int .i64 D.nxt, .slice Ab D.bl.length cb, .slice Ac D.ca.length cc, .slice Aq D.qu.length cq] #[.int .i64 0, .int .i64 0, .slice none 0 0, .slice none 0 0, .slice none 0 0] D.dep D.nxt vb (.slice none 0 0) (.slice none 0 0) (D.bl.take k) [] [] wr)) (fun i _ => D.bl.length - (intOf i).toNat)
  case atStart => exact ⟨0, _, Nat.zero_le _, rfl, CL0⟩
  case round =>
    obtain ⟨k, vb, hk, rfl, CL⟩ := hrel
    have s2 := CL.out.src.cell 2
    simp at s2
    by_cases hlt : k < D.bl.length
    · obtain ⟨b, off, v, rfl, hbl, c0, hv⟩ := RB.out.cells CL.out.below hlt
      obtain ⟨l, hl⟩ : ∃ l, l = bAt D.bl k := ⟨_, rfl⟩
      have TS := hide (show D.bl.take (k + 1) = D.bl.take k ++ [l] by rw [hl]; exact bAt_snoc hlt)
      have hlen : l.length ≤ 1000 := by rw [hl]; exact HS.out.bb _ (bAt_mem hlt)
      rw [← hl] at hv
      obtain ⟨Av, cv, rfl⟩ := hv.form
      have C := hide (fun W (hb : Below wr.heap.size wr W) => rbytes_any _ l W (hv.below hb) hlen)
      unfold ByR at C
      have hTK : (D.bl.take k).length ≤ 1000 := by rw [List.length_take]; omega
      generalize D.bl.take k = M at *
      obtain ⟨Ao, co, rfl, _⟩ := CL.out.ob.form
      have hown := CL.out.ob.choose_spec.2.1
      have x2 := CL.out.out.cell 2
      simp at x2
      have N1 := hide (row_own_box hown CL.out.src (by decide))
      have N2 := hide (row_own_ge hown hbl)
      have hbw : b < wr.heap.size := Nat.lt_of_lt_of_le hbl CL.out.below.size
      have HC := hide c0
      have HS2 := hide s2
      have SL := hide CL.out.src.lt
      have KZ := hide (Kz.refl wr (.slice Ao M.length co) (w.heap.size + 2)).drew
      have CE := hide (fun (W : World) (h : Kz wr (.slice Ao M.length co) (w.heap.size + 2) W) => (⟨h.cell HS2.out SL.out (by omega) N1.out, h.cell HC.out hbw (by omega) N2.out⟩ : W.cell? ⟨w.heap.size, 2, none⟩ = some (.slice (some ⟨b, off, none⟩) D.bl.length cb) ∧ W.cell? ⟨b, off + k, none⟩ = some (.slice Av l.length cv)))
      obtain ⟨i0, hi0, hz0, hz1, hz2⟩ := info_parts info35
      replace CL := hide CL.out.drew
      clear hv hl hown
      go_wp2
      refine wp_region_noPanic ?_
      refine wp_region_held_drew (S := (fun W => W.cell? ⟨w.heap.size, 2, none⟩ = some (.slice (some ⟨b, off, none⟩) D.bl.length cb) ∧ W.cell? ⟨b, off + k, none⟩ = some (.slice Av l.length cv))) (by kernel_rfl) ?_ (fun hHeld => ?_)
      · exact CE.out _ KZ.out
      refine wpAnyH_take (i := 0) (oi := ⟨some 20, _, _, _, _, _⟩) (v := ?_) rfl (by kernel_rfl) (by kernel_rfl) (by kernel_rfl) (fun _ _ _ h => h) (Or.inl ⟨by kernel_rfl, ?_⟩) (by assumption) ?_
      rotate_left 1
      · (intro w hSw; (try dsimp only at hSw); go_simp) <;> (with_reducible rfl)
      (try simp only [Act.put, List.setIfInBounds_toArray, List.set_cons_succ, List.set_cons_zero])
      refine wpAnyH_take (i := 2) (oi := ⟨some 22, _, _, _, _, _⟩) (v := ?_) rfl (by kernel_rfl) (by kernel_rfl) (by kernel_rfl) (fun _ _ _ h => h) (Or.inl ⟨by kernel_rfl, ?_⟩) (by assumption) ?_
      rotate_left 1
      · (intro w hSw; (try dsimp only at hSw); go_simp) <;> (with_reducible rfl)
      (try simp only [Act.put, List.setIfInBounds_toArray, List.set_cons_succ, List.set_cons_zero])
      refine wpAnyH_take (i := 3) (oi := ⟨some 23, _, _, _, _, _⟩) (v := ?_) rfl (by kernel_rfl) (by kernel_rfl) (by kernel_rfl) (fun _ _ _ h => h) (Or.inl ⟨by kernel_rfl, ?_⟩) (by assumption) ?_
      rotate_left 1
      · (intro w hSw; (try dsimp only at hSw); go_simp) <;> (with_reducible rfl)
      (try simp only [Act.put, List.setIfInBounds_toArray, List.set_cons_succ, List.set_cons_zero])
      refine wpAnyH_take (i := 4) (oi := ⟨some 24, _, _, _, _, _⟩) (v := ?_) rfl (by kernel_rfl) (by kernel_rfl) (by kernel_rfl) (fun _ _ _ h => h) (Or.inl ⟨by kernel_rfl, ?_⟩) (by assumption) ?_
      rotate_left 1
      · (intro w hSw; (try dsimp only at hSw); go_simp) <;> (with_reducible rfl)
      (try simp only [Act.put, List.setIfInBounds_toArray, List.set_cons_succ, List.set_cons_zero])
      refine wpAnyH_take (i := 5) (oi := ⟨some 25, _, _, _, _, _⟩) (v := ?_) rfl (by kernel_rfl) (by kernel_rfl) (by kernel_rfl) (fun _ _ _ h => h) (Or.inl ⟨by kernel_rfl, ?_⟩) (by assumption) ?_
      rotate_left 1
      · (intro w hSw; (try dsimp only at hSw); go_simp) <;> (with_reducible rfl)
      (try simp only [Act.put, List.setIfInBounds_toArray, List.set_cons_succ, List.set_cons_zero])
      refine wpAnyH_take (i := 6) (oi := ⟨some 26, _, _, _, _, _⟩) (v := ?_) rfl (by kernel_rfl) (by kernel_rfl) (by kernel_rfl) (fun _ _ _ h => h) (Or.inl ⟨by kernel_rfl, ?_⟩) (by assumption) ?_
      rotate_left 1
      · (intro w hSw; (try dsimp only at hSw); go_simp) <;> (with_reducible rfl)
      (try simp only [Act.put, List.setIfInBounds_toArray, List.set_cons_succ, List.set_cons_zero])
      refine wpAnyH_ready (rs := [1, 7]) (by kernel_rfl) (by simp) ?_
      refine AllReadyH.cons (o := ⟨some 21, _, _, _, _, _⟩) rfl (fun K' hK => ?_) ?_
      · go_simp
        refine hK.out _ _ ?_ (fun hHeld => ?_)
        · exact CE.out _ KZ.out
        clear hK K'
        (try simp only [Act.put, List.setIfInBounds_toArray, List.set_cons_succ, List.set_cons_zero])
        refine wpAnyH_ready (rs := [7]) (by kernel_rfl) (by simp) ?_
        refine AllReadyH.cons (o := ⟨some 27, _, _, _, _, _⟩) rfl (fun K' hK => ?_) AllReadyH.nil
        go_simp
        refine (C.out _ (below_drew (brefl _))).mono ?_
        rintro e w1 ⟨v1, rfl, ho, hb⟩
        obtain ⟨A1, d1, rfl⟩ := ho.form
        have HU := hide ho
        replace KZ := hide (KZ.out.below hb)
        replace CL := hide (CL.out.on hb)
        have y2 := CL.out.out.cell 2
        simp at y2
        clear ho hb
        refine hK.out _ _ ?_ (fun hHeld => ?_)
        · exact CE.out _ KZ.out
        clear hK K'
        (try simp only [Act.put, List.setIfInBounds_toArray, List.set_cons_succ, List.set_cons_zero])
        refine wpAnyH_ready (rs := [8]) (by kernel_rfl) (by simp) ?_
        refine AllReadyH.cons (o := ⟨some 28, _, _, _, _, _⟩) rfl (fun K' hK => ?_) AllReadyH.nil
        go_simp
        replace CL := hide (CL.out.alloc (.cells #[.slice A1 l.length d1] 35))
        replace KZ := hide (KZ.out.alloc (.cells #[.slice A1 l.length d1] 35))
        replace HU := hide (HU.out.below (bal (brefl _) (.cells #[.slice A1 l.length d1] 35)))
        have NW := hide (cell_row w1 #[.slice A1 l.length d1] 35)
        generalize w1.alloc (.cells #[.slice A1 l.length d1] 35) = w5 at *
        have y5 := CL.out.out.cell 2
        simp at y5
        refine hK.out _ _ ?_ (fun hHeld => ?_)
        · exact CE.out _ KZ.out
        clear hK K'
        (try simp only [Act.put, List.setIfInBounds_toArray, List.set_cons_succ, List.set_cons_zero])
        refine wpAnyH_ready (rs := [9]) (by kernel_rfl) (by simp) ?_
        refine AllReadyH.cons (o := ⟨some 29, _, _, _, _, _⟩) rfl (fun K' hK => ?_) AllReadyH.nil
        obtain ⟨R, hR, hrow, hro⟩ := CL.out.ob
        refine step_append_own rfl (.tmp 21) (.tmp 28) 22 rfl w.heap.size 35 i0 _ 1 24 Try.underlying22 hi0 hz0 hz1 hz2 rfl (by omega) (.slice Ao M.length co) (M.length) _ rfl hrow ⟨w1.heap.size, 0, none⟩ 1 1 [.slice A1 l.length d1] rfl rfl NW.out (by intro u hu; simp at hu; rcases hu with rfl <;> rfl) (by simp only [maxLen]; omega) (by omega) CL.out.below.size ?_
        intro v4 w4 hown4 hg4
        obtain ⟨A4, c4, rfl, _⟩ := row_form hown4
        have PU := hide (CL.out.pushB hos hor hwo hR hro hrow HU.out hown4 hg4)
        replace KZ := hide (KZ.out.grown hg4)
        have OB := hide (CL.out.gb (kp_grown hrow hg4 CL.out.below.size))
        have o2 := OB.out.cell 2
        have of2 := OB.out.frozen 2
        simp at o2
        clear hown4 hg4 hrow hro hR OB
        (try simp only [Act.put, List.setIfInBounds_toArray, List.set_cons_succ, List.set_cons_zero])
        refine hK.out _ _ ?_ (fun hHeld => ?_)
        · exact CE.out _ KZ.out
        clear hK K'
        (try simp only [Act.put, List.setIfInBounds_toArray, List.set_cons_succ, List.set_cons_zero])
        refine wpAnyH_take (i := 10) (oi := ⟨some 30, _, _, _, _, _⟩) (v := ?_) rfl (by kernel_rfl) (by kernel_rfl) (by kernel_rfl) (fun _ _ _ h => h) (Or.inl ⟨by kernel_rfl, ?_⟩) (by assumption) ?_
        rotate_left 1
        · (intro w hSw; (try dsimp only at hSw); go_simp) <;> (with_reducible rfl)
        (try simp only [Act.put, List.setIfInBounds_toArray, List.set_cons_succ, List.set_cons_zero])
        refine wpAnyH_ready (rs := [11]) (by kernel_rfl) (by simp) ?_
        refine AllReadyH.cons (o := ⟨none, _, _, _, _, _⟩) rfl (fun K' hK => ?_) AllReadyH.nil
        go_simp
        replace KZ := hide (KZ.out.set 2 (.slice A4 (M.length + 1) c4))
        refine hK.out _ _ ?_ (fun hHeld => ?_)
        · exact CE.out _ KZ.out
        clear hK K'
        (try simp only [Act.put, List.setIfInBounds_toArray, List.set_cons_succ, List.set_cons_zero])
        refine wpAnyH_done (by kernel_rfl) ?_ _
        refine NoPanic.normal ?_
        go_wp2
        go_roundw
        case rel => exact ⟨k + 1, _, by omega, by go_num, by rw [TS.out]; exact PU⟩
        case measure => simp [intOf]; omega
      refine AllReadyH.cons (o := ⟨some 27, _, _, _, _, _⟩) rfl (fun K' hK => ?_) AllReadyH.nil
      go_simp
      refine (C.out _ (below_drew (brefl _))).mono ?_
      rintro e w1 ⟨v1, rfl, ho, hb⟩
      obtain ⟨A1, d1, rfl⟩ := ho.form
      have HU := hide ho
      replace KZ := hide (KZ.out.below hb)
      replace CL := hide (CL.out.on hb)
      have y2 := CL.out.out.cell 2
      simp at y2
      clear ho hb
      refine hK.out _ _ ?_ (fun hHeld => ?_)
      · exact CE.out _ KZ.out
      clear hK K'
      (try simp only [Act.put, List.setIfInBounds_toArray, List.set_cons_succ, List.set_cons_zero])
      refine wpAnyH_ready (rs := [1, 8]) (by kernel_rfl) (by simp) ?_
      refine AllReadyH.cons (o := ⟨some 21, _, _, _, _, _⟩) rfl (fun K' hK => ?_) ?_
      · go_simp
        refine hK.out _ _ ?_ (fun hHeld => ?_)
        · exact CE.out _ KZ.out
        clear hK K'
        (try simp only [Act.put, List.setIfInBounds_toArray, List.set_cons_succ, List.set_cons_zero])
        refine wpAnyH_ready (rs := [8]) (by kernel_rfl) (by simp) ?_
        refine AllReadyH.cons (o := ⟨some 28, _, _, _, _, _⟩) rfl (fun K' hK => ?_) AllReadyH.nil
        go_simp
        replace CL := hide (CL.out.alloc (.cells #[.slice A1 l.length d1] 35))
        replace KZ := hide (KZ.out.alloc (.cells #[.slice A1 l.length d1] 35))
        replace HU := hide (HU.out.below (bal (brefl _) (.cells #[.slice A1 l.length d1] 35)))
        have NW := hide (cell_row w1 #[.slice A1 l.length d1] 35)
        generalize w1.alloc (.cells #[.slice A1 l.length d1] 35) = w5 at *
        have y5 := CL.out.out.cell 2
        simp at y5
        refine hK.out _ _ ?_ (fun hHeld => ?_)
        · exact CE.out _ KZ.out
        clear hK K'
        (try simp only [Act.put, List.setIfInBounds_toArray, List.set_cons_succ, List.set_cons_zero])
        refine wpAnyH_ready (rs := [9]) (by kernel_rfl) (by simp) ?_
        refine AllReadyH.cons (o := ⟨some 29, _, _, _, _, _⟩) rfl (fun K' hK => ?_) AllReadyH.nil
        obtain ⟨R, hR, hrow, hro⟩ := CL.out.ob
        refine step_append_own rfl (.tmp 21) (.tmp 28) 22 rfl w.heap.size 35 i0 _ 1 24 Try.underlying22 hi0 hz0 hz1 hz2 rfl (by omega) (.slice Ao M.length co) (M.length) _ rfl hrow ⟨w1.heap.size, 0, none⟩ 1 1 [.slice A1 l.length d1] rfl rfl NW.out (by intro u hu; simp at hu; rcases hu with rfl <;> rfl) (by simp only [maxLen]; omega) (by omega) CL.out.below.size ?_
        intro v4 w4 hown4 hg4
        obtain ⟨A4, c4, rfl, _⟩ := row_form hown4
        have PU := hide (CL.out.pushB hos hor hwo hR hro hrow HU.out hown4 hg4)
        replace KZ := hide (KZ.out.grown hg4)
        have OB := hide (CL.out.gb (kp_grown hrow hg4 CL.out.below.size))
        have o2 := OB.out.cell 2
        have of2 := OB.out.frozen 2
        simp at o2
        clear hown4 hg4 hrow hro hR OB
        (try simp only [Act.put, List.setIfInBounds_toArray, List.set_cons_succ, List.set_cons_zero])
        refine hK.out _ _ ?_ (fun hHeld => ?_)
        · exact CE.out _ KZ.out
        clear hK K'
        (try simp only [Act.put, List.setIfInBounds_toArray, List.set_cons_succ, List.set_cons_zero])
        refine wpAnyH_take (i := 10) (oi := ⟨some 30, _, _, _, _, _⟩) (v := ?_) rfl (by kernel_rfl) (by kernel_rfl) (by kernel_rfl) (fun _ _ _ h => h) (Or.inl ⟨by kernel_rfl, ?_⟩) (by assumption) ?_
        rotate_left 1
        · (intro w hSw; (try dsimp only at hSw); go_simp) <;> (with_reducible rfl)
        (try simp only [Act.put, List.setIfInBounds_toArray, List.set_cons_succ, List.set_cons_zero])
        refine wpAnyH_ready (rs := [11]) (by kernel_rfl) (by simp) ?_
        refine AllReadyH.cons (o := ⟨none, _, _, _, _, _⟩) rfl (fun K' hK => ?_) AllReadyH.nil
        go_simp
        replace KZ := hide (KZ.out.set 2 (.slice A4 (M.length + 1) c4))
        refine hK.out _ _ ?_ (fun hHeld => ?_)
        · exact CE.out _ KZ.out
        clear hK K'
        (try simp only [Act.put, List.setIfInBounds_toArray, List.set_cons_succ, List.set_cons_zero])
        refine wpAnyH_done (by kernel_rfl) ?_ _
        refine NoPanic.normal ?_
        go_wp2
        go_roundw
        case rel => exact ⟨k + 1, _, by omega, by go_num, by rw [TS.out]; exact PU⟩
        case measure => simp [intOf]; omega
      refine AllReadyH.cons (o := ⟨some 28, _, _, _, _, _⟩) rfl (fun K' hK => ?_) AllReadyH.nil
      go_simp
      replace CL := hide (CL.out.alloc (.cells #[.slice A1 l.length d1] 35))
      replace KZ := hide (KZ.out.alloc (.cells #[.slice A1 l.length d1] 35))
      replace HU := hide (HU.out.below (bal (brefl _) (.cells #[.slice A1 l.length d1] 35)))
      have NW := hide (cell_row w1 #[.slice A1 l.length d1] 35)
      generalize w1.alloc (.cells #[.slice A1 l.length d1] 35) = w5 at *
      have y5 := CL.out.out.cell 2
      simp at y5
      refine hK.out _ _ ?_ (fun hHeld => ?_)
      · exact CE.out _ KZ.out
      clear hK K'
      (try simp only [Act.put, List.setIfInBounds_toArray, List.set_cons_succ, List.set_cons_zero])
      refine wpAnyH_ready (rs := [1]) (by kernel_rfl) (by simp) ?_
      refine AllReadyH.cons (o := ⟨some 21, _, _, _, _, _⟩) rfl (fun K' hK => ?_) AllReadyH.nil
      go_simp
      refine hK.out _ _ ?_ (fun hHeld => ?_)
      · exact CE.out _ KZ.out
      clear hK K'
      (try simp only [Act.put, List.setIfInBounds_toArray, List.set_cons_succ, List.set_cons_zero])
      refine wpAnyH_ready (rs := [9]) (by kernel_rfl) (by simp) ?_
      refine AllReadyH.cons (o := ⟨some 29, _, _, _, _, _⟩) rfl (fun K' hK => ?_) AllReadyH.nil
      obtain ⟨R, hR, hrow, hro⟩ := CL.out.ob
      refine step_append_own rfl (.tmp 21) (.tmp 28) 22 rfl w.heap.size 35 i0 _ 1 24 Try.underlying22 hi0 hz0 hz1 hz2 rfl (by omega) (.slice Ao M.length co) (M.length) _ rfl hrow ⟨w1.heap.size, 0, none⟩ 1 1 [.slice A1 l.length d1] rfl rfl NW.out (by intro u hu; simp at hu; rcases hu with rfl <;> rfl) (by simp only [maxLen]; omega) (by omega) CL.out.below.size ?_
      intro v4 w4 hown4 hg4
      obtain ⟨A4, c4, rfl, _⟩ := row_form hown4
      have PU := hide (CL.out.pushB hos hor hwo hR hro hrow HU.out hown4 hg4)
      replace KZ := hide (KZ.out.grown hg4)
      have OB := hide (CL.out.gb (kp_grown hrow hg4 CL.out.below.size))
      have o2 := OB.out.cell 2
      have of2 := OB.out.frozen 2
      simp at o2
      clear hown4 hg4 hrow hro hR OB
      (try simp only [Act.put, List.setIfInBounds_toArray, List.set_cons_succ, List.set_cons_zero])
      refine hK.out _ _ ?_ (fun hHeld => ?_)
      · exact CE.out _ KZ.out
      clear hK K'
      (try simp only [Act.put, List.setIfInBounds_toArray, List.set_cons_succ, List.set_cons_zero])
      refine wpAnyH_take (i := 10) (oi := ⟨some 30, _, _, _, _, _⟩) (v := ?_) rfl (by kernel_rfl) (by kernel_rfl) (by kernel_rfl) (fun _ _ _ h => h) (Or.inl ⟨by kernel_rfl, ?_⟩) (by assumption) ?_
      rotate_left 1
      · (intro w hSw; (try dsimp only at hSw); go_simp) <;> (with_reducible rfl)
      (try simp only [Act.put, List.setIfInBounds_toArray, List.set_cons_succ, List.set_cons_zero])
      refine wpAnyH_ready (rs := [11]) (by kernel_rfl) (by simp) ?_
      refine AllReadyH.cons (o := ⟨none, _, _, _, _, _⟩) rfl (fun K' hK => ?_) AllReadyH.nil
      go_simp
      replace KZ := hide (KZ.out.set 2 (.slice A4 (M.length + 1) c4))
      refine hK.out _ _ ?_ (fun hHeld => ?_)
      · exact CE.out _ KZ.out
      clear hK K'
      (try simp only [Act.put, List.setIfInBounds_toArray, List.set_cons_succ, List.set_cons_zero])
      refine wpAnyH_done (by kernel_rfl) ?_ _
      refine NoPanic.normal ?_
      go_wp2
      go_roundw
      case rel => exact ⟨k + 1, _, by omega, by go_num, by rw [TS.out]; exact PU⟩
      case measure => simp [intOf]; omega
    · obtain rfl : k = D.bl.length := by omega
      have CL1 := hide (show Cl w w.heap.size (w.heap.size + 1) (w.heap.size + 2) #[.int .i64 D.dep, .int .i64 D.nxt, .slice Ab D.bl.length cb, .slice Ac D.ca.length cc, .slice Aq D.qu.length cq] #[.int .i64 0, .int .i64 0, .slice none 0 0, .slice none 0 0, .slice none 0 0] D.dep D.nxt vb (.slice none 0 0) (.slice none 0 0) D.bl [] [] wr by have := CL.out; rw [List.take_length] at this; exact this)
      clear CL CL0
      go_wp2
      clear s2
      go_loopw [5] (fun i wr => ∃ (k : Nat) (vc : Value), k ≤ D.ca.length ∧ i = .int .i64 k ∧ Hid (Cl w w.heap.size (w.heap.size + 1) (w.heap.size + 2) #[.int .i64 D.dep, .int .i64 D.nxt, .slice Ab D.bl.length cb, .slice Ac D.ca.length cc, .slice Aq D.qu.length cq] #[.int .i64 0, .int .i64 0, .slice none 0 0, .slice none 0 0, .slice none 0 0] D.dep D.nxt vb vc (.slice none 0 0) D.bl (D.ca.take k) [] wr)) (fun i _ => D.ca.length - (intOf i).toNat)
      case atStart => exact ⟨0, _, Nat.zero_le _, rfl, CL1⟩
      case round =>
        clear CL1
        obtain ⟨k, vc, hk, rfl, CL⟩ := hrel
        have s3 := CL.out.src.cell 3
        simp at s3
        by_cases hlt : k < D.ca.length
        · obtain ⟨b, off, v, rfl, hbl, c0, c1, hv⟩ := RC.out.cells CL.out.below hlt
          obtain ⟨⟨z, l⟩, hl⟩ : ∃ l, l = cAt D.ca k := ⟨_, rfl⟩
          have TS := hide (show D.ca.take (k + 1) = D.ca.take k ++ [(z, l)] by rw [hl]; exact cAt_snoc hlt)
          have hlen : l.length ≤ 1000 := by have := HS.out.cb _ (cAt_mem hlt); rw [← hl] at this; exact this
          rw [← hl] at hv c0
          simp only at hv c0
          obtain ⟨Av, cv, rfl⟩ := hv.form
          have C := hide (fun W (hb : Below wr.heap.size wr W) => rbytes_any _ l W (hv.below hb) hlen)
          unfold ByR at C
          have hTK : (D.ca.take k).length ≤ 1000 := by rw [List.length_take]; omega
          generalize D.ca.take k = M at *
          obtain ⟨Ao, co, rfl, _⟩ := CL.out.oc.form
          have hown := CL.out.oc.choose_spec.2.1
          have x2 := CL.out.out.cell 3
          simp at x2
          have N1 := hide (row_own_box hown CL.out.src (by decide))
          have N2 := hide (row_own_ge hown hbl)
          have hbw : b < wr.heap.size := Nat.lt_of_lt_of_le hbl CL.out.below.size
          have HC := hide c0
          have HC1 := hide c1
          have HS2 := hide s3
          have SL := hide CL.out.src.lt
          have KZ := hide (Kz.refl wr (.slice Ao M.length co) (w.heap.size + 2)).drew
          have CE := hide (fun (W : World) (h : Kz wr (.slice Ao M.length co) (w.heap.size + 2) W) => (⟨h.cell HS2.out SL.out (by omega) N1.out, h.cell HC.out hbw (by omega) N2.out, h.cell HC1.out hbw (by omega) N2.out⟩ : W.cell? ⟨w.heap.size, 3, none⟩ = some (.slice (some ⟨b, off, none⟩) D.ca.length cc) ∧ W.cell? ⟨b, off + k * 2, none⟩ = some (.int .i64 z) ∧ W.cell? ⟨b, off + k * 2 + 1, none⟩ = some (.slice Av l.length cv)))
          obtain ⟨i0, hi0, hz0, hz1, hz2⟩ := info_parts info64
          replace CL := hide CL.out.drew
          clear hv hl hown
          go_wp2
          refine wp_region_noPanic ?_
          refine wp_region_held_drew (S := (fun W => W.cell? ⟨w.heap.size, 3, none⟩ = some (.slice (some ⟨b, off, none⟩) D.ca.length cc) ∧ W.cell? ⟨b, off + k * 2, none⟩ = some (.int .i64 z) ∧ W.cell? ⟨b, off + k * 2 + 1, none⟩ = some (.slice Av l.length cv))) (by kernel_rfl) ?_ (fun hHeld => ?_)
          · exact CE.out _ KZ.out
          refine wpAnyH_take (i := 0) (oi := ⟨some 38, _, _, _, _, _⟩) (v := ?_) rfl (by kernel_rfl) (by kernel_rfl) (by kernel_rfl) (fun _ _ _ h => h) (Or.inl ⟨by kernel_rfl, ?_⟩) (by assumption) ?_
          rotate_left 1
          · (intro w hSw; (try dsimp only at hSw); go_simp) <;> (with_reducible rfl)
          (try simp only [Act.put, List.setIfInBounds_toArray, List.set_cons_succ, List.set_cons_zero])
          refine wpAnyH_take (i := 2) (oi := ⟨some 40, _, _, _, _, _⟩) (v := ?_) rfl (by kernel_rfl) (by kernel_rfl) (by kernel_rfl) (fun _ _ _ h => h) (Or.inl ⟨by kernel_rfl, ?_⟩) (by assumption) ?_
          rotate_left 1
          · (intro w hSw; (try dsimp only at hSw); go_simp) <;> (with_reducible rfl)
          (try simp only [Act.put, List.setIfInBounds_toArray, List.set_cons_succ, List.set_cons_zero])
          refine wpAnyH_take (i := 3) (oi := ⟨some 41, _, _, _, _, _⟩) (v := ?_) rfl (by kernel_rfl) (by kernel_rfl) (by kernel_rfl) (fun _ _ _ h => h) (Or.inl ⟨by kernel_rfl, ?_⟩) (by assumption) ?_
          rotate_left 1
          · (intro w hSw; (try dsimp only at hSw); go_simp) <;> (with_reducible rfl)
          (try simp only [Act.put, List.setIfInBounds_toArray, List.set_cons_succ, List.set_cons_zero])
          refine wpAnyH_take (i := 4) (oi := ⟨some 42, _, _, _, _, _⟩) (v := ?_) rfl (by kernel_rfl) (by kernel_rfl) (by kernel_rfl) (fun _ _ _ h => h) (Or.inl ⟨by kernel_rfl, ?_⟩) (by assumption) ?_
          rotate_left 1
          · (intro w hSw; (try dsimp only at hSw); go_simp) <;> (with_reducible rfl)
          (try simp only [Act.put, List.setIfInBounds_toArray, List.set_cons_succ, List.set_cons_zero])
          refine wpAnyH_take (i := 5) (oi := ⟨some 43, _, _, _, _, _⟩) (v := ?_) rfl (by kernel_rfl) (by kernel_rfl) (by kernel_rfl) (fun _ _ _ h => h) (Or.inl ⟨by kernel_rfl, ?_⟩) (by assumption) ?_
          rotate_left 1
          · (intro w hSw; (try dsimp only at hSw); go_simp) <;> (with_reducible rfl)
          (try simp only [Act.put, List.setIfInBounds_toArray, List.set_cons_succ, List.set_cons_zero])
          refine wpAnyH_take (i := 6) (oi := ⟨some 44, _, _, _, _, _⟩) (v := ?_) rfl (by kernel_rfl) (by kernel_rfl) (by kernel_rfl) (fun _ _ _ h => h) (Or.inl ⟨by kernel_rfl, ?_⟩) (by assumption) ?_
          rotate_left 1
          · (intro w hSw; (try dsimp only at hSw); go_simp) <;> (with_reducible rfl)
          (try simp only [Act.put, List.setIfInBounds_toArray, List.set_cons_succ, List.set_cons_zero])
          refine wpAnyH_take (i := 7) (oi := ⟨some 45, _, _, _, _, _⟩) (v := ?_) rfl (by kernel_rfl) (by kernel_rfl) (by kernel_rfl) (fun _ _ _ h => h) (Or.inl ⟨by kernel_rfl, ?_⟩) (by assumption) ?_
          rotate_left 1
          · (intro w hSw; (try dsimp only at hSw); go_simp) <;> (with_reducible rfl)
          (try simp only [Act.put, List.setIfInBounds_toArray, List.set_cons_succ, List.set_cons_zero])
          refine wpAnyH_take (i := 8) (oi := ⟨some 46, _, _, _, _, _⟩) (v := ?_) rfl (by kernel_rfl) (by kernel_rfl) (by kernel_rfl) (fun _ _ _ h => h) (Or.inl ⟨by kernel_rfl, ?_⟩) (by assumption) ?_
          rotate_left 1
          · (intro w hSw; (try dsimp only at hSw); go_simp) <;> (with_reducible rfl)
          (try simp only [Act.put, List.setIfInBounds_toArray, List.set_cons_succ, List.set_cons_zero])
          refine wpAnyH_take (i := 9) (oi := ⟨some 47, _, _, _, _, _⟩) (v := ?_) rfl (by kernel_rfl) (by kernel_rfl) (by kernel_rfl) (fun _ _ _ h => h) (Or.inl ⟨by kernel_rfl, ?_⟩) (by assumption) ?_
          rotate_left 1
          · (intro w hSw; (try dsimp only at hSw); go_simp) <;> (with_reducible rfl)
          (try simp only [Act.put, List.setIfInBounds_toArray, List.set_cons_succ, List.set_cons_zero])
          refine wpAnyH_take (i := 10) (oi := ⟨some 48, _, _, _, _, _⟩) (v := ?_) rfl (by kernel_rfl) (by kernel_rfl) (by kernel_rfl) (fun _ _ _ h => h) (Or.inl ⟨by kernel_rfl, ?_⟩) (by assumption) ?_
          rotate_left 1
          · (intro w hSw; (try dsimp only at hSw); go_simp) <;> (with_reducible rfl)
          (try simp only [Act.put, List.setIfInBounds_toArray, List.set_cons_succ, List.set_cons_zero])
          refine wpAnyH_take (i := 11) (oi := ⟨some 49, _, _, _, _, _⟩) (v := ?_) rfl (by kernel_rfl) (by kernel_rfl) (by kernel_rfl) (fun _ _ _ h => h) (Or.inl ⟨by kernel_rfl, ?_⟩) (by assumption) ?_
          rotate_left 1
          · (intro w hSw; (try dsimp only at hSw); go_simp) <;> (with_reducible rfl)
          (try simp only [Act.put, List.setIfInBounds_toArray, List.set_cons_succ, List.set_cons_zero])
          refine wpAnyH_take (i := 12) (oi := ⟨some 50, _, _, _, _, _⟩) (v := ?_) rfl (by kernel_rfl) (by kernel_rfl) (by kernel_rfl) (fun _ _ _ h => h) (Or.inl ⟨by kernel_rfl, ?_⟩) (by assumption) ?_
          rotate_left 1
          · (intro w hSw; (try dsimp only at hSw); go_simp) <;> (with_reducible rfl)
          (try simp only [Act.put, List.setIfInBounds_toArray, List.set_cons_succ, List.set_cons_zero])
          refine wpAnyH_take (i := 13) (oi := ⟨some 51, _, _, _, _, _⟩) (v := ?_) rfl (by kernel_rfl) (by kernel_rfl) (by kernel_rfl) (fun _ _ _ h => h) (Or.inl ⟨by kernel_rfl, ?_⟩) (by assumption) ?_
          rotate_left 1
          · (intro w hSw; (try dsimp only at hSw); go_simp) <;> (with_reducible rfl)
          (try simp only [Act.put, List.setIfInBounds_toArray, List.set_cons_succ, List.set_cons_zero])
          refine wpAnyH_ready (rs := [1, 14]) (by kernel_rfl) (by simp) ?_
          refine AllReadyH.cons (o := ⟨some 39, _, _, _, _, _⟩) rfl (fun K' hK => ?_) ?_
          · go_simp
            refine hK.out _ _ ?_ (fun hHeld => ?_)
            · exact CE.out _ KZ.out
            clear hK K'
            (try simp only [Act.put, List.setIfInBounds_toArray, List.set_cons_succ, List.set_cons_zero])
            refine wpAnyH_ready (rs := [14]) (by kernel_rfl) (by simp) ?_
            refine AllReadyH.cons (o := ⟨some 52, _, _, _, _, _⟩) rfl (fun K' hK => ?_) AllReadyH.nil
            go_simp
            refine (C.out _ (below_drew (brefl _))).mono ?_
            rintro e w1 ⟨v1, rfl, ho, hb⟩
            obtain ⟨A1, d1, rfl⟩ := ho.form
            have HU := hide ho
            replace KZ := hide (KZ.out.below hb)
            replace CL := hide (CL.out.on hb)
            have y2 := CL.out.out.cell 3
            simp at y2
            clear ho hb
            refine hK.out _ _ ?_ (fun hHeld => ?_)
            · exact CE.out _ KZ.out
            clear hK K'
            (try simp only [Act.put, List.setIfInBounds_toArray, List.set_cons_succ, List.set_cons_zero])
            refine wpAnyH_take (i := 15) (oi := ⟨some 53, _, _, _, _, _⟩) (v := ?_) rfl (by kernel_rfl) (by kernel_rfl) (by kernel_rfl) (fun _ _ _ h => h) (Or.inl ⟨by kernel_rfl, ?_⟩) (by assumption) ?_
            rotate_left 1
            · (intro w hSw; (try dsimp only at hSw); go_simp) <;> (with_reducible rfl)
            (try simp only [Act.put, List.setIfInBounds_toArray, List.set_cons_succ, List.set_cons_zero])
            refine wpAnyH_ready (rs := [16]) (by kernel_rfl) (by simp) ?_
            refine AllReadyH.cons (o := ⟨some 54, _, _, _, _, _⟩) rfl (fun K' hK => ?_) AllReadyH.nil
            go_simp
            replace CL := hide (CL.out.alloc (.cells #[.int .i64 z, .slice A1 l.length d1] 64))
            replace KZ := hide (KZ.out.alloc (.cells #[.int .i64 z, .slice A1 l.length d1] 64))
            replace HU := hide (HU.out.below (bal (brefl _) (.cells #[.int .i64 z, .slice A1 l.length d1] 64)))
            have NW := hide (cell_row w1 #[.int .i64 z, .slice A1 l.length d1] 64)
            generalize w1.alloc (.cells #[.int .i64 z, .slice A1 l.length d1] 64) = w5 at *
            have y5 := CL.out.out.cell 3
            simp at y5
            refine hK.out _ _ ?_ (fun hHeld => ?_)
            · exact CE.out _ KZ.out
            clear hK K'
            (try simp only [Act.put, List.setIfInBounds_toArray, List.set_cons_succ, List.set_cons_zero])
            refine wpAnyH_ready (rs := [17]) (by kernel_rfl) (by simp) ?_
            refine AllReadyH.cons (o := ⟨some 55, _, _, _, _, _⟩) rfl (fun K' hK => ?_) AllReadyH.nil
            obtain ⟨R, hR, hrow, hro⟩ := CL.out.oc
            refine step_append_own rfl (.tmp 39) (.tmp 54) 25 rfl w.heap.size 64 i0 _ 2 32 Try.underlying25 hi0 hz0 hz1 hz2 rfl (by omega) (.slice Ao M.length co) (M.length) _ rfl hrow ⟨w1.heap.size, 0, none⟩ 1 1 [.int .i64 z, .slice A1 l.length d1] rfl rfl NW.out (by intro u hu; simp at hu; rcases hu with rfl | rfl <;> rfl) (by simp only [maxLen]; omega) (by omega) CL.out.below.size ?_
            intro v4 w4 hown4 hg4
            obtain ⟨A4, c4, rfl, _⟩ := row_form hown4
            have PU := hide (CL.out.pushC hos hor hwo hR hro hrow HU.out hown4 hg4)
            replace KZ := hide (KZ.out.grown hg4)
            have OB := hide (CL.out.gc (kp_grown hrow hg4 CL.out.below.size))
            have o2 := OB.out.cell 3
            have of2 := OB.out.frozen 3
            simp at o2
            clear hown4 hg4 hrow hro hR OB
            (try simp only [Act.put, List.setIfInBounds_toArray, List.set_cons_succ, List.set_cons_zero])
            refine hK.out _ _ ?_ (fun hHeld => ?_)
            · exact CE.out _ KZ.out
            clear hK K'
            (try simp only [Act.put, List.setIfInBounds_toArray, List.set_cons_succ, List.set_cons_zero])
            refine wpAnyH_take (i := 18) (oi := ⟨some 56, _, _, _, _, _⟩) (v := ?_) rfl (by kernel_rfl) (by kernel_rfl) (by kernel_rfl) (fun _ _ _ h => h) (Or.inl ⟨by kernel_rfl, ?_⟩) (by assumption) ?_
            rotate_left 1
            · (intro w hSw; (try dsimp only at hSw); go_simp) <;> (with_reducible rfl)
            (try simp only [Act.put, List.setIfInBounds_toArray, List.set_cons_succ, List.set_cons_zero])
            refine wpAnyH_ready (rs := [19]) (by kernel_rfl) (by simp) ?_
            refine AllReadyH.cons (o := ⟨none, _, _, _, _, _⟩) rfl (fun K' hK => ?_) AllReadyH.nil
            go_simp
            replace KZ := hide (KZ.out.set 3 (.slice A4 (M.length + 1) c4))
            refine hK.out _ _ ?_ (fun hHeld => ?_)
            · exact CE.out _ KZ.out
            clear hK K'
            (try simp only [Act.put, List.setIfInBounds_toArray, List.set_cons_succ, List.set_cons_zero])
            refine wpAnyH_done (by kernel_rfl) ?_ _
            refine NoPanic.normal ?_
            go_wp2
            go_roundw
            case rel => exact ⟨k + 1, _, by omega, by go_num, by rw [TS.out]; exact PU⟩
            case measure => simp [intOf]; omega
          refine AllReadyH.cons (o := ⟨some 52, _, _, _, _, _⟩) rfl (fun K' hK => ?_) AllReadyH.nil
          go_simp
          refine (C.out _ (below_drew (brefl _))).mono ?_
          rintro e w1 ⟨v1, rfl, ho, hb⟩
          obtain ⟨A1, d1, rfl⟩ := ho.form
          have HU := hide ho
          replace KZ := hide (KZ.out.below hb)
          replace CL := hide (CL.out.on hb)
          have y2 := CL.out.out.cell 3
          simp at y2
          clear ho hb
          refine hK.out _ _ ?_ (fun hHeld => ?_)
          · exact CE.out _ KZ.out
          clear hK K'
          (try simp only [Act.put, List.setIfInBounds_toArray, List.set_cons_succ, List.set_cons_zero])
          refine wpAnyH_take (i := 15) (oi := ⟨some 53, _, _, _, _, _⟩) (v := ?_) rfl (by kernel_rfl) (by kernel_rfl) (by kernel_rfl) (fun _ _ _ h => h) (Or.inl ⟨by kernel_rfl, ?_⟩) (by assumption) ?_
          rotate_left 1
          · (intro w hSw; (try dsimp only at hSw); go_simp) <;> (with_reducible rfl)
          (try simp only [Act.put, List.setIfInBounds_toArray, List.set_cons_succ, List.set_cons_zero])
          refine wpAnyH_ready (rs := [1, 16]) (by kernel_rfl) (by simp) ?_
          refine AllReadyH.cons (o := ⟨some 39, _, _, _, _, _⟩) rfl (fun K' hK => ?_) ?_
          · go_simp
            refine hK.out _ _ ?_ (fun hHeld => ?_)
            · exact CE.out _ KZ.out
            clear hK K'
            (try simp only [Act.put, List.setIfInBounds_toArray, List.set_cons_succ, List.set_cons_zero])
            refine wpAnyH_ready (rs := [16]) (by kernel_rfl) (by simp) ?_
            refine AllReadyH.cons (o := ⟨some 54, _, _, _, _, _⟩) rfl (fun K' hK => ?_) AllReadyH.nil
            go_simp
            replace CL := hide (CL.out.alloc (.cells #[.int .i64 z, .slice A1 l.length d1] 64))
            replace KZ := hide (KZ.out.alloc (.cells #[.int .i64 z, .slice A1 l.length d1] 64))
            replace HU := hide (HU.out.below (bal (brefl _) (.cells #[.int .i64 z, .slice A1 l.length d1] 64)))
            have NW := hide (cell_row w1 #[.int .i64 z, .slice A1 l.length d1] 64)
            generalize w1.alloc (.cells #[.int .i64 z, .slice A1 l.length d1] 64) = w5 at *
            have y5 := CL.out.out.cell 3
            simp at y5
            refine hK.out _ _ ?_ (fun hHeld => ?_)
            · exact CE.out _ KZ.out
            clear hK K'
            (try simp only [Act.put, List.setIfInBounds_toArray, List.set_cons_succ, List.set_cons_zero])
            refine wpAnyH_ready (rs := [17]) (by kernel_rfl) (by simp) ?_
            refine AllReadyH.cons (o := ⟨some 55, _, _, _, _, _⟩) rfl (fun K' hK => ?_) AllReadyH.nil
            obtain ⟨R, hR, hrow, hro⟩ := CL.out.oc
            refine step_append_own rfl (.tmp 39) (.tmp 54) 25 rfl w.heap.size 64 i0 _ 2 32 Try.underlying25 hi0 hz0 hz1 hz2 rfl (by omega) (.slice Ao M.length co) (M.length) _ rfl hrow ⟨w1.heap.size, 0, none⟩ 1 1 [.int .i64 z, .slice A1 l.length d1] rfl rfl NW.out (by intro u hu; simp at hu; rcases hu with rfl | rfl <;> rfl) (by simp only [maxLen]; omega) (by omega) CL.out.below.size ?_
            intro v4 w4 hown4 hg4
            obtain ⟨A4, c4, rfl, _⟩ := row_form hown4
            have PU := hide (CL.out.pushC hos hor hwo hR hro hrow HU.out hown4 hg4)
            replace KZ := hide (KZ.out.grown hg4)
            have OB := hide (CL.out.gc (kp_grown hrow hg4 CL.out.below.size))
            have o2 := OB.out.cell 3
            have of2 := OB.out.frozen 3
            simp at o2
            clear hown4 hg4 hrow hro hR OB
            (try simp only [Act.put, List.setIfInBounds_toArray, List.set_cons_succ, List.set_cons_zero])
            refine hK.out _ _ ?_ (fun hHeld => ?_)
            · exact CE.out _ KZ.out
            clear hK K'
            (try simp only [Act.put, List.setIfInBounds_toArray, List.set_cons_succ, List.set_cons_zero])
            refine wpAnyH_take (i := 18) (oi := ⟨some 56, _, _, _, _, _⟩) (v := ?_) rfl (by kernel_rfl) (by kernel_rfl) (by kernel_rfl) (fun _ _ _ h => h) (Or.inl ⟨by kernel_rfl, ?_⟩) (by assumption) ?_
            rotate_left 1
            · (intro w hSw; (try dsimp only at hSw); go_simp) <;> (with_reducible rfl)
            (try simp only [Act.put, List.setIfInBounds_toArray, List.set_cons_succ, List.set_cons_zero])
            refine wpAnyH_ready (rs := [19]) (by kernel_rfl) (by simp) ?_
            refine AllReadyH.cons (o := ⟨none, _, _, _, _, _⟩) rfl (fun K' hK => ?_) AllReadyH.nil
            go_simp
            replace KZ := hide (KZ.out.set 3 (.slice A4 (M.length + 1) c4))
            refine hK.out _ _ ?_ (fun hHeld => ?_)
            · exact CE.out _ KZ.out
            clear hK K'
            (try simp only [Act.put, List.setIfInBounds_toArray, List.set_cons_succ, List.set_cons_zero])
            refine wpAnyH_done (by kernel_rfl) ?_ _
            refine NoPanic.normal ?_
            go_wp2
            go_roundw
            case rel => exact ⟨k + 1, _, by omega, by go_num, by rw [TS.out]; exact PU⟩
            case measure => simp [intOf]; omega
          refine AllReadyH.cons (o := ⟨some 54, _, _, _, _, _⟩) rfl (fun K' hK => ?_) AllReadyH.nil
          go_simp
          replace CL := hide (CL.out.alloc (.cells #[.int .i64 z, .slice A1 l.length d1] 64))
          replace KZ := hide (KZ.out.alloc (.cells #[.int .i64 z, .slice A1 l.length d1] 64))
          replace HU := hide (HU.out.below (bal (brefl _) (.cells #[.int .i64 z, .slice A1 l.length d1] 64)))
          have NW := hide (cell_row w1 #[.int .i64 z, .slice A1 l.length d1] 64)
          generalize w1.alloc (.cells #[.int .i64 z, .slice A1 l.length d1] 64) = w5 at *
          have y5 := CL.out.out.cell 3
          simp at y5
          refine hK.out _ _ ?_ (fun hHeld => ?_)
          · exact CE.out _ KZ.out
          clear hK K'
          (try simp only [Act.put, List.setIfInBounds_toArray, List.set_cons_succ, List.set_cons_zero])
          refine wpAnyH_ready (rs := [1]) (by kernel_rfl) (by simp) ?_
          refine AllReadyH.cons (o := ⟨some 39, _, _, _, _, _⟩) rfl (fun K' hK => ?_) AllReadyH.nil
          go_simp
          refine hK.out _ _ ?_ (fun hHeld => ?_)
          · exact CE.out _ KZ.out
          clear hK K'
          (try simp only [Act.put, List.setIfInBounds_toArray, List.set_cons_succ, List.set_cons_zero])
          refine wpAnyH_ready (rs := [17]) (by kernel_rfl) (by simp) ?_
          refine AllReadyH.cons (o := ⟨some 55, _, _, _, _, _⟩) rfl (fun K' hK => ?_) AllReadyH.nil
          obtain ⟨R, hR, hrow, hro⟩ := CL.out.oc
          refine step_append_own rfl (.tmp 39) (.tmp 54) 25 rfl w.heap.size 64 i0 _ 2 32 Try.underlying25 hi0 hz0 hz1 hz2 rfl (by omega) (.slice Ao M.length co) (M.length) _ rfl hrow ⟨w1.heap.size, 0, none⟩ 1 1 [.int .i64 z, .slice A1 l.length d1] rfl rfl NW.out (by intro u hu; simp at hu; rcases hu with rfl | rfl <;> rfl) (by simp only [maxLen]; omega) (by omega) CL.out.below.size ?_
          intro v4 w4 hown4 hg4
          obtain ⟨A4, c4, rfl, _⟩ := row_form hown4
          have PU := hide (CL.out.pushC hos hor hwo hR hro hrow HU.out hown4 hg4)
          replace KZ := hide (KZ.out.grown hg4)
          have OB := hide (CL.out.gc (kp_grown hrow hg4 CL.out.below.size))
          have o2 := OB.out.cell 3
          have of2 := OB.out.frozen 3
          simp at o2
          clear hown4 hg4 hrow hro hR OB
          (try simp only [Act.put, List.setIfInBounds_toArray, List.set_cons_succ, List.set_cons_zero])
          refine hK.out _ _ ?_ (fun hHeld => ?_)
          · exact CE.out _ KZ.out
          clear hK K'
          (try simp only [Act.put, List.setIfInBounds_toArray, List.set_cons_succ, List.set_cons_zero])
          refine wpAnyH_take (i := 18) (oi := ⟨some 56, _, _, _, _, _⟩) (v := ?_) rfl (by kernel_rfl) (by kernel_rfl) (by kernel_rfl) (fun _ _ _ h => h) (Or.inl ⟨by kernel_rfl, ?_⟩) (by assumption) ?_
          rotate_left 1
          · (intro w hSw; (try dsimp only at hSw); go_simp) <;> (with_reducible rfl)
          (try simp only [Act.put, List.setIfInBounds_toArray, List.set_cons_succ, List.set_cons_zero])
          refine wpAnyH_ready (rs := [19]) (by kernel_rfl) (by simp) ?_
          refine AllReadyH.cons (o := ⟨none, _, _, _, _, _⟩) rfl (fun K' hK => ?_) AllReadyH.nil
          go_simp
          replace KZ := hide (KZ.out.set 3 (.slice A4 (M.length + 1) c4))
          refine hK.out _ _ ?_ (fun hHeld => ?_)
          · exact CE.out _ KZ.out
          clear hK K'
          (try simp only [Act.put, List.setIfInBounds_toArray, List.set_cons_succ, List.set_cons_zero])
          refine wpAnyH_done (by kernel_rfl) ?_ _
          refine NoPanic.normal ?_
          go_wp2
          go_roundw
          case rel => exact ⟨k + 1, _, by omega, by go_num, by rw [TS.out]; exact PU⟩
          case measure => simp [intOf]; omega
        · obtain rfl : k = D.ca.length := by omega
          have CL1 := hide (show Cl w w.heap.size (w.heap.size + 1) (w.heap.size + 2) #[.int .i64 D.dep, .int .i64 D.nxt, .slice Ab D.bl.length cb, .slice Ac D.ca.length cc, .slice Aq D.qu.length cq] #[.int .i64 0, .int .i64 0, .slice none 0 0, .slice none 0 0, .slice none 0 0] D.dep D.nxt vb vc (.slice none 0 0) D.bl D.ca [] wr by have := CL.out; rw [List.take_length] at this; exact this)
          clear CL
          go_wp2
          clear s3
          go_loopw [6, 7] (fun i _ wr => ∃ (k : Nat) (vq : Value), k ≤ D.qu.length ∧ i = .int .i64 k ∧ Hid (Cl w w.heap.size (w.heap.size + 1) (w.heap.size + 2) #[.int .i64 D.dep, .int .i64 D.nxt, .slice Ab D.bl.length cb, .slice Ac D.ca.length cc, .slice Aq D.qu.length cq] #[.int .i64 0, .int .i64 0, .slice none 0 0, .slice none 0 0, .slice none 0 0] D.dep D.nxt vb vc vq D.bl D.ca (D.qu.take k) wr)) (fun i _ _ => D.qu.length - (intOf i).toNat)
          case atStart => exact ⟨0, _, Nat.zero_le _, rfl, CL1⟩
          case round =>
            clear CL1
            obtain ⟨k, vq, hk, rfl, CL⟩ := hrel
            have s4 := CL.out.src.cell 4
            simp at s4
            by_cases hlt : k < D.qu.length
            · obtain ⟨b, off, v, rfl, hbl, c0, c1, c2, c3, hv⟩ := RQ.out.cells CL.out.below hlt
              obtain ⟨⟨z0, z1, z2, l⟩, hl⟩ : ∃ l, l = qAt D.qu k := ⟨_, rfl⟩
              have TS := hide (show D.qu.take (k + 1) = D.qu.take k ++ [(z0, z1, z2, l)] by rw [hl]; exact qAt_snoc hlt)
              have hlen : l.length ≤ 1000 := by have := HS.out.qb _ (qAt_mem hlt); rw [← hl] at this; exact this
              rw [← hl] at hv c0 c1 c2
              simp only at hv c0 c1 c2
              obtain ⟨Av, cv, rfl⟩ := hv.form
              have hTK : (D.qu.take k).length ≤ 1000 := by rw [List.length_take]; omega
              generalize D.qu.take k = M at *
              obtain ⟨Ao, co, rfl, _⟩ := CL.out.oq.form
              have hown := CL.out.oq.choose_spec.2.1
              have BX := hide (Box.new wr 39 #[.int .i64 z0, .int .i64 z1, .int .i64 z2, .slice Av l.length cv])
              have NE := hide (row_own_lt hown (Nat.le_refl _))
              have NO := hide (show wr.heap.size ≠ w.heap.size + 2 by have := CL.out.out.lt; omega)
              have HVA := hide (hv.below (bal (brefl wr) (.cells #[.int .i64 z0, .int .i64 z1, .int .i64 z2, .slice Av l.length cv] 39)))
              replace CL := hide (CL.out.alloc (.cells #[.int .i64 z0, .int .i64 z1, .int .i64 z2, .slice Av l.length cv] 39))
              clear hown hv hl
              obtain ⟨i0, hi0, hz0, hz1, hz2⟩ := info_parts info39
              go_wp2
              have hlw : wr.heap.size < (wr.alloc (.cells #[.int .i64 z0, .int .i64 z1, .int .i64 z2, .slice Av l.length cv] 39)).heap.size := BX.out.lt
              have HLW := hide hlw
              obtain ⟨nb, hnb⟩ : ∃ nb, nb = wr.heap.size := ⟨_, rfl⟩
              rw [← hnb] at BX NE NO HLW ⊢
              clear hlw
              generalize wr.alloc (.cells #[.int .i64 z0, .int .i64 z1, .int .i64 z2, .slice Av l.length cv] 39) = wz at *
              have C := hide (fun W (hb : Below wz.heap.size wz W) => rbytes_any _ l W (HVA.out.below hb) hlen)
              unfold ByR at C
              have x2 := CL.out.out.cell 4
              simp at x2
              have KZ := hide (Kz.refl wz (.slice Ao M.length co) (w.heap.size + 2)).drew
              have CE := hide (fun (W : World) (h : Kz wz (.slice Ao M.length co) (w.heap.size + 2) W) => (⟨h.cell (BX.out.cell 0) HLW.out NO.out NE.out, h.cell (BX.out.cell 1) HLW.out NO.out NE.out, h.cell (BX.out.cell 2) HLW.out NO.out NE.out, h.cell (BX.out.cell 3) HLW.out NO.out NE.out⟩ : W.cell? ⟨nb, 0, none⟩ = some (.int .i64 z0) ∧ W.cell? ⟨nb, 1, none⟩ = some (.int .i64 z1) ∧ W.cell? ⟨nb, 2, none⟩ = some (.int .i64 z2) ∧ W.cell? ⟨nb, 3, none⟩ = some (.slice Av l.length cv)))
              replace CL := hide CL.out.drew
              clear hnb
              refine wp_region_noPanic ?_
              refine wp_region_held_drew (S := (fun W => W.cell? ⟨nb, 0, none⟩ = some (.int .i64 z0) ∧ W.cell? ⟨nb, 1, none⟩ = some (.int .i64 z1) ∧ W.cell? ⟨nb, 2, none⟩ = some (.int .i64 z2) ∧ W.cell? ⟨nb, 3, none⟩ = some (.slice Av l.length cv))) (by kernel_rfl) ?_ (fun hHeld => ?_)
              · exact CE.out _ KZ.out
              refine wpAnyH_take (i := 0) (oi := ⟨some 69, _, _, _, _, _⟩) (v := ?_) rfl (by kernel_rfl) (by kernel_rfl) (by kernel_rfl) (fun _ _ _ h => h) (Or.inl ⟨by kernel_rfl, ?_⟩) (by assumption) ?_
              rotate_left 1
              · (intro w hSw; (try dsimp only at hSw); go_simp) <;> (with_reducible rfl)
              (try simp only [Act.put, List.setIfInBounds_toArray, List.set_cons_succ, List.set_cons_zero])
              refine wpAnyH_take (i := 2) (oi := ⟨some 71, _, _, _, _, _⟩) (v := ?_) rfl (by kernel_rfl) (by kernel_rfl) (by kernel_rfl) (fun _ _ _ h => h) (Or.inl ⟨by kernel_rfl, ?_⟩) (by assumption) ?_
              rotate_left 1
              · (intro w hSw; (try dsimp only at hSw); go_simp) <;> (with_reducible rfl)
              (try simp only [Act.put, List.setIfInBounds_toArray, List.set_cons_succ, List.set_cons_zero])
              refine wpAnyH_take (i := 3) (oi := ⟨some 72, _, _, _, _, _⟩) (v := ?_) rfl (by kernel_rfl) (by kernel_rfl) (by kernel_rfl) (fun _ _ _ h => h) (Or.inl ⟨by kernel_rfl, ?_⟩) (by assumption) ?_
              rotate_left 1
              · (intro w hSw; (try dsimp only at hSw); go_simp) <;> (with_reducible rfl)
              (try simp only [Act.put, List.setIfInBounds_toArray, List.set_cons_succ, List.set_cons_zero])
              refine wpAnyH_take (i := 4) (oi := ⟨some 73, _, _, _, _, _⟩) (v := ?_) rfl (by kernel_rfl) (by kernel_rfl) (by kernel_rfl) (fun _ _ _ h => h) (Or.inl ⟨by kernel_rfl, ?_⟩) (by assumption) ?_
              rotate_left 1
              · (intro w hSw; (try dsimp only at hSw); go_simp) <;> (with_reducible rfl)
              (try simp only [Act.put, List.setIfInBounds_toArray, List.set_cons_succ, List.set_cons_zero])
              refine wpAnyH_take (i := 5) (oi := ⟨some 74, _, _, _, _, _⟩) (v := ?_) rfl (by kernel_rfl) (by kernel_rfl) (by kernel_rfl) (fun _ _ _ h => h) (Or.inl ⟨by kernel_rfl, ?_⟩) (by assumption) ?_
              rotate_left 1
              · (intro w hSw; (try dsimp only at hSw); go_simp) <;> (with_reducible rfl)
              (try simp only [Act.put, List.setIfInBounds_toArray, List.set_cons_succ, List.set_cons_zero])
              refine wpAnyH_take (i := 6) (oi := ⟨some 75, _, _, _, _, _⟩) (v := ?_) rfl (by kernel_rfl) (by kernel_rfl) (by kernel_rfl) (fun _ _ _ h => h) (Or.inl ⟨by kernel_rfl, ?_⟩) (by assumption) ?_
              rotate_left 1
              · (intro w hSw; (try dsimp only at hSw); go_simp) <;> (with_reducible rfl)
              (try simp only [Act.put, List.setIfInBounds_toArray, List.set_cons_succ, List.set_cons_zero])
              refine wpAnyH_take (i := 7) (oi := ⟨some 76, _, _, _, _, _⟩) (v := ?_) rfl (by kernel_rfl) (by kernel_rfl) (by kernel_rfl) (fun _ _ _ h => h) (Or.inl ⟨by kernel_rfl, ?_⟩) (by assumption) ?_
              rotate_left 1
              · (intro w hSw; (try dsimp only at hSw); go_simp) <;> (with_reducible rfl)
              (try simp only [Act.put, List.setIfInBounds_toArray, List.set_cons_succ, List.set_cons_zero])
              refine wpAnyH_take (i := 8) (oi := ⟨some 77, _, _, _, _, _⟩) (v := ?_) rfl (by kernel_rfl) (by kernel_rfl) (by kernel_rfl) (fun _ _ _ h => h) (Or.inl ⟨by kernel_rfl, ?_⟩) (by assumption) ?_
              rotate_left 1
              · (intro w hSw; (try dsimp only at hSw); go_simp) <;> (with_reducible rfl)
              (try simp only [Act.put, List.setIfInBounds_toArray, List.set_cons_succ, List.set_cons_zero])
              refine wpAnyH_take (i := 9) (oi := ⟨some 78, _, _, _, _, _⟩) (v := ?_) rfl (by kernel_rfl) (by kernel_rfl) (by kernel_rfl) (fun _ _ _ h => h) (Or.inl ⟨by kernel_rfl, ?_⟩) (by assumption) ?_
              rotate_left 1
              · (intro w hSw; (try dsimp only at hSw); go_simp) <;> (with_reducible rfl)
              (try simp only [Act.put, List.setIfInBounds_toArray, List.set_cons_succ, List.set_cons_zero])
              refine wpAnyH_ready (rs := [1, 10]) (by kernel_rfl) (by simp) ?_
              refine AllReadyH.cons (o := ⟨some 70, _, _, _, _, _⟩) rfl (fun K' hK => ?_) ?_
              · go_simp
                refine hK.out _ _ ?_ (fun hHeld => ?_)
                · exact CE.out _ KZ.out
                clear hK K'
                (try simp only [Act.put, List.setIfInBounds_toArray, List.set_cons_succ, List.set_cons_zero])
                refine wpAnyH_ready (rs := [10]) (by kernel_rfl) (by simp) ?_
                refine AllReadyH.cons (o := ⟨some 79, _, _, _, _, _⟩) rfl (fun K' hK => ?_) AllReadyH.nil
                go_simp
                refine (C.out _ (below_drew (brefl _))).mono ?_
                rintro e w1 ⟨v1, rfl, ho, hb⟩
                obtain ⟨A1, d1, rfl⟩ := ho.form
                have HU := hide ho
                replace KZ := hide (KZ.out.below hb)
                replace CL := hide (CL.out.on hb)
                have y2 := CL.out.out.cell 4
                simp at y2
                clear ho hb
                refine hK.out _ _ ?_ (fun hHeld => ?_)
                · exact CE.out _ KZ.out
                clear hK K'
                (try simp only [Act.put, List.setIfInBounds_toArray, List.set_cons_succ, List.set_cons_zero])
                refine wpAnyH_take (i := 11) (oi := ⟨some 80, _, _, _, _, _⟩) (v := ?_) rfl (by kernel_rfl) (by kernel_rfl) (by kernel_rfl) (fun _ _ _ h => h) (Or.inl ⟨by kernel_rfl, ?_⟩) (by assumption) ?_
                rotate_left 1
                · (intro w hSw; (try dsimp only at hSw); go_simp) <;> (with_reducible rfl)
                (try simp only [Act.put, List.setIfInBounds_toArray, List.set_cons_succ, List.set_cons_zero])
                refine wpAnyH_ready (rs := [12]) (by kernel_rfl) (by simp) ?_
                refine AllReadyH.cons (o := ⟨some 81, _, _, _, _, _⟩) rfl (fun K' hK => ?_) AllReadyH.nil
                go_simp
                replace CL := hide (CL.out.alloc (.cells #[.int .i64 z0, .int .i64 z1, .int .i64 z2, .slice A1 l.length d1] 39))
                replace KZ := hide (KZ.out.alloc (.cells #[.int .i64 z0, .int .i64 z1, .int .i64 z2, .slice A1 l.length d1] 39))
                replace HU := hide (HU.out.below (bal (brefl _) (.cells #[.int .i64 z0, .int .i64 z1, .int .i64 z2, .slice A1 l.length d1] 39)))
                have NW := hide (cell_row w1 #[.int .i64 z0, .int .i64 z1, .int .i64 z2, .slice A1 l.length d1] 39)
                generalize w1.alloc (.cells #[.int .i64 z0, .int .i64 z1, .int .i64 z2, .slice A1 l.length d1] 39) = w5 at *
                have y5 := CL.out.out.cell 4
                simp at y5
                refine hK.out _ _ ?_ (fun hHeld => ?_)
                · exact CE.out _ KZ.out
                clear hK K'
                (try simp only [Act.put, List.setIfInBounds_toArray, List.set_cons_succ, List.set_cons_zero])
                refine wpAnyH_ready (rs := [13]) (by kernel_rfl) (by simp) ?_
                refine AllReadyH.cons (o := ⟨some 82, _, _, _, _, _⟩) rfl (fun K' hK => ?_) AllReadyH.nil
                obtain ⟨R, hR, hrow, hro⟩ := CL.out.oq
                refine step_append_own rfl (.tmp 70) (.tmp 81) 26 rfl w.heap.size 39 i0 _ 4 48 Try.underlying26 hi0 hz0 hz1 hz2 rfl (by omega) (.slice Ao M.length co) (M.length) _ rfl hrow ⟨w1.heap.size, 0, none⟩ 1 1 [.int .i64 z0, .int .i64 z1, .int .i64 z2, .slice A1 l.length d1] rfl rfl NW.out (by intro u hu; simp at hu; rcases hu with rfl | rfl | rfl | rfl <;> rfl) (by simp only [maxLen]; omega) (by omega) CL.out.below.size ?_
                intro v4 w4 hown4 hg4
                obtain ⟨A4, c4, rfl, _⟩ := row_form hown4
                have PU := hide (CL.out.pushQ hos hor hwo hR hro hrow HU.out hown4 hg4)
                replace KZ := hide (KZ.out.grown hg4)
                have OB := hide (CL.out.gq (kp_grown hrow hg4 CL.out.below.size))
                have o2 := OB.out.cell 4
                have of2 := OB.out.frozen 4
                simp at o2
                clear hown4 hg4 hrow hro hR OB
                (try simp only [Act.put, List.setIfInBounds_toArray, List.set_cons_succ, List.set_cons_zero])
                refine hK.out _ _ ?_ (fun hHeld => ?_)
                · exact CE.out _ KZ.out
                clear hK K'
                (try simp only [Act.put, List.setIfInBounds_toArray, List.set_cons_succ, List.set_cons_zero])
                refine wpAnyH_take (i := 14) (oi := ⟨some 83, _, _, _, _, _⟩) (v := ?_) rfl (by kernel_rfl) (by kernel_rfl) (by kernel_rfl) (fun _ _ _ h => h) (Or.inl ⟨by kernel_rfl, ?_⟩) (by assumption) ?_
                rotate_left 1
                · (intro w hSw; (try dsimp only at hSw); go_simp) <;> (with_reducible rfl)
                (try simp only [Act.put, List.setIfInBounds_toArray, List.set_cons_succ, List.set_cons_zero])
                refine wpAnyH_ready (rs := [15]) (by kernel_rfl) (by simp) ?_
                refine AllReadyH.cons (o := ⟨none, _, _, _, _, _⟩) rfl (fun K' hK => ?_) AllReadyH.nil
                go_simp
                replace KZ := hide (KZ.out.set 4 (.slice A4 (M.length + 1) c4))
                refine hK.out _ _ ?_ (fun hHeld => ?_)
                · exact CE.out _ KZ.out
                clear hK K'
                (try simp only [Act.put, List.setIfInBounds_toArray, List.set_cons_succ, List.set_cons_zero])
                refine wpAnyH_done (by kernel_rfl) ?_ _
                refine NoPanic.normal ?_
                go_wp2
                go_roundw
                case rel => exact ⟨k + 1, _, by omega, by go_num, by rw [TS.out]; exact PU⟩
                case measure => simp [intOf]; omega
              refine AllReadyH.cons (o := ⟨some 79, _, _, _, _, _⟩) rfl (fun K' hK => ?_) AllReadyH.nil
              go_simp
              refine (C.out _ (below_drew (brefl _))).mono ?_
              rintro e w1 ⟨v1, rfl, ho, hb⟩
              obtain ⟨A1, d1, rfl⟩ := ho.form
              have HU := hide ho
              replace KZ := hide (KZ.out.below hb)
              replace CL := hide (CL.out.on hb)
              have y2 := CL.out.out.cell 4
              simp at y2
              clear ho hb
              refine hK.out _ _ ?_ (fun hHeld => ?_)
              · exact CE.out _ KZ.out
              clear hK K'
              (try simp only [Act.put, List.setIfInBounds_toArray, List.set_cons_succ, List.set_cons_zero])
              refine wpAnyH_take (i := 11) (oi := ⟨some 80, _, _, _, _, _⟩) (v := ?_) rfl (by kernel_rfl) (by kernel_rfl) (by kernel_rfl) (fun _ _ _ h => h) (Or.inl ⟨by kernel_rfl, ?_⟩) (by assumption) ?_
              rotate_left 1
              · (intro w hSw; (try dsimp only at hSw); go_simp) <;> (with_reducible rfl)
              (try simp only [Act.put, List.setIfInBounds_toArray, List.set_cons_succ, List.set_cons_zero])
              refine wpAnyH_ready (rs := [1, 12]) (by kernel_rfl) (by simp) ?_
              refine AllReadyH.cons (o := ⟨some 70, _, _, _, _, _⟩) rfl (fun K' hK => ?_) ?_
              · go_simp
                refine hK.out _ _ ?_ (fun hHeld => ?_)
                · exact CE.out _ KZ.out
                clear hK K'
                (try simp only [Act.put, List.setIfInBounds_toArray, List.set_cons_succ, List.set_cons_zero])
                refine wpAnyH_ready (rs := [12]) (by kernel_rfl) (by simp) ?_
                refine AllReadyH.cons (o := ⟨some 81, _, _, _, _, _⟩) rfl (fun K' hK => ?_) AllReadyH.nil
                go_simp
                replace CL := hide (CL.out.alloc (.cells #[.int .i64 z0, .int .i64 z1, .int .i64 z2, .slice A1 l.length d1] 39))
                replace KZ := hide (KZ.out.alloc (.cells #[.int .i64 z0, .int .i64 z1, .int .i64 z2, .slice A1 l.length d1] 39))
                replace HU := hide (HU.out.below (bal (brefl _) (.cells #[.int .i64 z0, .int .i64 z1, .int .i64 z2, .slice A1 l.length d1] 39)))
                have NW := hide (cell_row w1 #[.int .i64 z0, .int .i64 z1, .int .i64 z2, .slice A1 l.length d1] 39)
                generalize w1.alloc (.cells #[.int .i64 z0, .int .i64 z1, .int .i64 z2, .slice A1 l.length d1] 39) = w5 at *
                have y5 := CL.out.out.cell 4
                simp at y5
                refine hK.out _ _ ?_ (fun hHeld => ?_)
                · exact CE.out _ KZ.out
                clear hK K'
                (try simp only [Act.put, List.setIfInBounds_toArray, List.set_cons_succ, List.set_cons_zero])
                refine wpAnyH_ready (rs := [13]) (by kernel_rfl) (by simp) ?_
                refine AllReadyH.cons (o := ⟨some 82, _, _, _, _, _⟩) rfl (fun K' hK => ?_) AllReadyH.nil
                obtain ⟨R, hR, hrow, hro⟩ := CL.out.oq
                refine step_append_own rfl (.tmp 70) (.tmp 81) 26 rfl w.heap.size 39 i0 _ 4 48 Try.underlying26 hi0 hz0 hz1 hz2 rfl (by omega) (.slice Ao M.length co) (M.length) _ rfl hrow ⟨w1.heap.size, 0, none⟩ 1 1 [.int .i64 z0, .int .i64 z1, .int .i64 z2, .slice A1 l.length d1] rfl rfl NW.out (by intro u hu; simp at hu; rcases hu with rfl | rfl | rfl | rfl <;> rfl) (by simp only [maxLen]; omega) (by omega) CL.out.below.size ?_
                intro v4 w4 hown4 hg4
                obtain ⟨A4, c4, rfl, _⟩ := row_form hown4
                have PU := hide (CL.out.pushQ hos hor hwo hR hro hrow HU.out hown4 hg4)
                replace KZ := hide (KZ.out.grown hg4)
                have OB := hide (CL.out.gq (kp_grown hrow hg4 CL.out.below.size))
                have o2 := OB.out.cell 4
                have of2 := OB.out.frozen 4
                simp at o2
                clear hown4 hg4 hrow hro hR OB
                (try simp only [Act.put, List.setIfInBounds_toArray, List.set_cons_succ, List.set_cons_zero])
                refine hK.out _ _ ?_ (fun hHeld => ?_)
                · exact CE.out _ KZ.out
                clear hK K'
                (try simp only [Act.put, List.setIfInBounds_toArray, List.set_cons_succ, List.set_cons_zero])
                refine wpAnyH_take (i := 14) (oi := ⟨some 83, _, _, _, _, _⟩) (v := ?_) rfl (by kernel_rfl) (by kernel_rfl) (by kernel_rfl) (fun _ _ _ h => h) (Or.inl ⟨by kernel_rfl, ?_⟩) (by assumption) ?_
                rotate_left 1
                · (intro w hSw; (try dsimp only at hSw); go_simp) <;> (with_reducible rfl)
                (try simp only [Act.put, List.setIfInBounds_toArray, List.set_cons_succ, List.set_cons_zero])
                refine wpAnyH_ready (rs := [15]) (by kernel_rfl) (by simp) ?_
                refine AllReadyH.cons (o := ⟨none, _, _, _, _, _⟩) rfl (fun K' hK => ?_) AllReadyH.nil
                go_simp
                replace KZ := hide (KZ.out.set 4 (.slice A4 (M.length + 1) c4))
                refine hK.out _ _ ?_ (fun hHeld => ?_)
                · exact CE.out _ KZ.out
                clear hK K'
                (try simp only [Act.put, List.setIfInBounds_toArray, List.set_cons_succ, List.set_cons_zero])
                refine wpAnyH_done (by kernel_rfl) ?_ _
                refine NoPanic.normal ?_
                go_wp2
                go_roundw
                case rel => exact ⟨k + 1, _, by omega, by go_num, by rw [TS.out]; exact PU⟩
                case measure => simp [intOf]; omega
              refine AllReadyH.cons (o := ⟨some 81, _, _, _, _, _⟩) rfl (fun K' hK => ?_) AllReadyH.nil
              go_simp
              replace CL := hide (CL.out.alloc (.cells #[.int .i64 z0, .int .i64 z1, .int .i64 z2, .slice A1 l.length d1] 39))
              replace KZ := hide (KZ.out.alloc (.cells #[.int .i64 z0, .int .i64 z1, .int .i64 z2, .slice A1 l.length d1] 39))
              replace HU := hide (HU.out.below (bal (brefl _) (.cells #[.int .i64 z0, .int .i64 z1, .int .i64 z2, .slice A1 l.length d1] 39)))
              have NW := hide (cell_row w1 #[.int .i64 z0, .int .i64 z1, .int .i64 z2, .slice A1 l.length d1] 39)
              generalize w1.alloc (.cells #[.int .i64 z0, .int .i64 z1, .int .i64 z2, .slice A1 l.length d1] 39) = w5 at *
              have y5 := CL.out.out.cell 4
              simp at y5
              refine hK.out _ _ ?_ (fun hHeld => ?_)
              · exact CE.out _ KZ.out
              clear hK K'
              (try simp only [Act.put, List.setIfInBounds_toArray, List.set_cons_succ, List.set_cons_zero])
              refine wpAnyH_ready (rs := [1]) (by kernel_rfl) (by simp) ?_
              refine AllReadyH.cons (o := ⟨some 70, _, _, _, _, _⟩) rfl (fun K' hK => ?_) AllReadyH.nil
              go_simp
              refine hK.out _ _ ?_ (fun hHeld => ?_)
              · exact CE.out _ KZ.out
              clear hK K'
              (try simp only [Act.put, List.setIfInBounds_toArray, List.set_cons_succ, List.set_cons_zero])
              refine wpAnyH_ready (rs := [13]) (by kernel_rfl) (by simp) ?_
              refine AllReadyH.cons (o := ⟨some 82, _, _, _, _, _⟩) rfl (fun K' hK => ?_) AllReadyH.nil
              obtain ⟨R, hR, hrow, hro⟩ := CL.out.oq
              refine step_append_own rfl (.tmp 70) (.tmp 81) 26 rfl w.heap.size 39 i0 _ 4 48 Try.underlying26 hi0 hz0 hz1 hz2 rfl (by omega) (.slice Ao M.length co) (M.length) _ rfl hrow ⟨w1.heap.size, 0, none⟩ 1 1 [.int .i64 z0, .int .i64 z1, .int .i64 z2, .slice A1 l.length d1] rfl rfl NW.out (by intro u hu; simp at hu; rcases hu with rfl | rfl | rfl | rfl <;> rfl) (by simp only [maxLen]; omega) (by omega) CL.out.below.size ?_
              intro v4 w4 hown4 hg4
              obtain ⟨A4, c4, rfl, _⟩ := row_form hown4
              have PU := hide (CL.out.pushQ hos hor hwo hR hro hrow HU.out hown4 hg4)
              replace KZ := hide (KZ.out.grown hg4)
              have OB := hide (CL.out.gq (kp_grown hrow hg4 CL.out.below.size))
              have o2 := OB.out.cell 4
              have of2 := OB.out.frozen 4
              simp at o2
              clear hown4 hg4 hrow hro hR OB
              (try simp only [Act.put, List.setIfInBounds_toArray, List.set_cons_succ, List.set_cons_zero])
              refine hK.out _ _ ?_ (fun hHeld => ?_)
              · exact CE.out _ KZ.out
              clear hK K'
              (try simp only [Act.put, List.setIfInBounds_toArray, List.set_cons_succ, List.set_cons_zero])
              refine wpAnyH_take (i := 14) (oi := ⟨some 83, _, _, _, _, _⟩) (v := ?_) rfl (by kernel_rfl) (by kernel_rfl) (by kernel_rfl) (fun _ _ _ h => h) (Or.inl ⟨by kernel_rfl, ?_⟩) (by assumption) ?_
              rotate_left 1
              · (intro w hSw; (try dsimp only at hSw); go_simp) <;> (with_reducible rfl)
              (try simp only [Act.put, List.setIfInBounds_toArray, List.set_cons_succ, List.set_cons_zero])
              refine wpAnyH_ready (rs := [15]) (by kernel_rfl) (by simp) ?_
              refine AllReadyH.cons (o := ⟨none, _, _, _, _, _⟩) rfl (fun K' hK => ?_) AllReadyH.nil
              go_simp
              replace KZ := hide (KZ.out.set 4 (.slice A4 (M.length + 1) c4))
              refine hK.out _ _ ?_ (fun hHeld => ?_)
              · exact CE.out _ KZ.out
              clear hK K'
              (try simp only [Act.put, List.setIfInBounds_toArray, List.set_cons_succ, List.set_cons_zero])
              refine wpAnyH_done (by kernel_rfl) ?_ _
              refine NoPanic.normal ?_
              go_wp2
              go_roundw
              case rel => exact ⟨k + 1, _, by omega, by go_num, by rw [TS.out]; exact PU⟩
              case measure => simp [intOf]; omega
            · obtain rfl : k = D.qu.length := by omega
              have CL1 := hide (show Cl w w.heap.size (w.heap.size + 1) (w.heap.size + 2) #[.int .i64 D.dep, .int .i64 D.nxt, .slice Ab D.bl.length cb, .slice Ac D.ca.length cc, .slice Aq D.qu.length cq] #[.int .i64 0, .int .i64 0, .slice none 0 0, .slice none 0 0, .slice none 0 0] D.dep D.nxt vb vc vq D.bl D.ca D.qu wr by have := CL.out; rw [List.take_length] at this; exact this)
              obtain ⟨A1, d1, rfl, _⟩ := CL1.out.ob.form
              obtain ⟨A2, d2, rfl, _⟩ := CL1.out.oc.form
              obtain ⟨A3, d3, rfl, _⟩ := CL1.out.oq.form
              obtain ⟨o0, o1, o2, o3, o4⟩ := box5_cells (W' := wr) CL1.out.out
              obtain ⟨r0, r1, r2, r3, r4⟩ := box5_cells (W' := wr) CL1.out.res
              have f0 := CL1.out.res.frozen 0
              have f1 := CL1.out.res.frozen 1
              have f2 := CL1.out.res.frozen 2
              have f3 := CL1.out.res.frozen 3
              have f4 := CL1.out.res.frozen 4
              clear CL
              go_wp2
              have KS := hide (kp_set5 (B := w.heap.size) CL1.out.res (Nat.le_succ _) (.int .i64 D.dep) (.int .i64 D.nxt) (.slice A1 D.bl.length d1) (.slice A2 D.ca.length d2) (.slice A3 D.qu.length d3))
              exact ret_d Try.results39 rfl rfl (CL1.out.res.set5 (.int .i64 D.dep) (.int .i64 D.nxt) (.slice A1 D.bl.length d1) (.slice A2 D.ca.length d2) (.slice A3 D.qu.length d3)) ⟨_, rfl, ⟨_, _, _, rfl, CL1.out.ob.kp KS.out (by decide) (by decide), CL1.out.oc.kp KS.out (by decide) (by decide), CL1.out.oq.kp KS.out (by decide) (by decide)⟩, CL1.out.below.trans KS.out.below⟩
end Go.Proofs.Ytnegigcjeoenmaa.Dv
