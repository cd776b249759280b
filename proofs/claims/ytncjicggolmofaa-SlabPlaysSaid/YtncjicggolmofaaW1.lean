import Derived.Test.YtncjicggolmofaaW0
namespace Go.Proofs.Ytncjicggolmofaa.Sb
open Go Go.RowKit
set_option linter.unusedVariables false
set_option linter.unusedSimpArgs false
theorem RdC.asD {w : World} {B : Nat} {v : Value} {L : List Ca} (h : OwnD B w v L) : ∃ R : List PC, R.map pcC = L ∧ R.length = L.length ∧ w.ownsRow B 52 2 v L.length (cC R) ∧ (∀ j (h : j < R.length), w.ownsRow B 4 1 (R[j]).2.2 (R[j]).2.1.length ((R[j]).2.1.map bc)) ∧ (∀ i j (hi : i < R.length) (hj : j < R.length), i ≠ j → Ap (R[i]).2.2 (R[j]).2.2) := by
  obtain ⟨R, e, hr, h1, hd⟩ := h
  exact ⟨R, e, by rw [← e, List.length_map], hr, h1, hd⟩
set_option maxRecDepth 100000 in
set_option maxHeartbeats 16000000 in
theorem own_any (A : Option Addr) (cp : Nat) (S : Sc) (w : World) (hr : RdC w A S.sl) (hn : S.sl.length ≤ 1000) (hln : ∀ k, k < S.sl.length → (us S k).length ≤ 1000) : Calls Try.prog 32 #[.agg #[.int .i64 S.ob, .slice A S.sl.length cp]] w fun e w' => ∃ v, e = .returned (.agg #[.int .i64 S.ob, v]) ∧ OwnD w.heap.size w' v S.sl ∧ Below w.heap.size w w' := by
  obtain ⟨i0, hi0, hz0, hz1, hz2⟩ := info_parts info52
  have HR := hide (fun w' (h : Below w.heap.size w w') => hr.below h)
  have K := hide (bal (bal (bal (brefl w) (.cells #[.int .i64 S.ob, .slice A S.sl.length cp] 24)) (.cells #[.int .i64 0, .slice none 0 0] 24)) (.cells #[.int .i64 S.ob, .slice none 0 0] 24))
  have X := hide (((Box.new w 24 #[.int .i64 S.ob, .slice A S.sl.length cp]).more (.cells #[.int .i64 0, .slice none 0 0] 24)).more (.cells #[.int .i64 S.ob, .slice none 0 0] 24))
  have Y := hide ((Box.new2 w (.cells #[.int .i64 S.ob, .slice A S.sl.length cp] 24) 24 #[.int .i64 0, .slice none 0 0]).more (.cells #[.int .i64 S.ob, .slice none 0 0] 24))
  have Z := hide (Box.new3 w (.cells #[.int .i64 S.ob, .slice A S.sl.length cp] 24) (.cells #[.int .i64 0, .slice none 0 0] 24) 24 #[.int .i64 S.ob, .slice none 0 0])
  have HLN := hide hln
  obtain ⟨g1, hg1⟩ : ∃ g, g = w.heap.size := ⟨_, rfl⟩
  obtain ⟨g2, hg2⟩ : ∃ g, g = g1 + 1 := ⟨_, rfl⟩
  obtain ⟨g3, hg3⟩ : ∃ g, g = g2 + 1 := ⟨_, rfl⟩
  rw [← hg1] at X Y Z
  rw [← hg2] at Y
  rw [show g1 + 2 = g3 by omega] at Z
  have HG1 := hide hg1
  have HG2 := hide hg2
  have HG3 := hide hg3
  have hx0 : (w.alloc (.cells #[.int .i64 S.ob, .slice A S.sl.length cp] 24)).cell? ⟨w.heap.size, 0, none⟩ = some (.int .i64 S.ob) := (Box.new w 24 _).cell 0
  have hx1 : ((w.alloc (.cells #[.int .i64 S.ob, .slice A S.sl.length cp] 24)).alloc (.cells #[.int .i64 0, .slice none 0 0] 24)).cell? ⟨w.heap.size, 0, none⟩ = some (.int .i64 S.ob) := ((Box.new w 24 _).more _).cell 0
  clear hg1 hg2 hg3 hr hln
  go_enter Try.func32, Try.ntmps32
  go_upto_region 2 with fail
  rw [← HG1.out, ← HG2.out, ← HG3.out]
  clear hx0 hx1
  generalize ((w.alloc (.cells #[.int .i64 S.ob, .slice A S.sl.length cp] 24)).alloc (.cells #[.int .i64 0, .slice none 0 0] 24)).alloc (.cells #[.int .i64 S.ob, .slice none 0 0] 24) = w1 at *
  have D := hide (OwnD.nil w.heap.size w1)
  go_wp2
  go_loopw [4] (fun i wr => ∃ (k : Nat) (v : Value), k ≤ S.sl.length ∧ i = .int .i64 k ∧ Hid (Below w.heap.size w wr) ∧ Hid (Box wr g1 24 #[.int .i64 S.ob, .slice A S.sl.length cp]) ∧ Hid (Box wr g2 24 #[.int .i64 0, .slice none 0 0]) ∧ Hid (Box wr g3 24 #[.int .i64 S.ob, v]) ∧ Hid (OwnD w.heap.size wr v (S.sl.take k))) (fun i _ => S.sl.length - (intOf i).toNat)
  case atStart => exact ⟨0, _, Nat.zero_le _, rfl, K, X, Y, Z, D⟩
  case round =>
    clear K X Y Z D
    obtain ⟨k, v, hk, rfl, K, X, Y, Z, D⟩ := hrel
    obtain ⟨x0, x1⟩ : wr.cell? ⟨g1, 0, none⟩ = some (.int .i64 S.ob) ∧ wr.cell? ⟨g1, 1, none⟩ = some (.slice A S.sl.length cp) := ⟨X.out.cell 0, X.out.cell 1⟩
    by_cases hlt : k < S.sl.length
    · have hl2 : (k : Int) < (S.sl.length : Int) := by omega
      have hk0 : (0 : Int) ≤ (k : Int) := by omega
      obtain ⟨b, off, vu, eA, hbl, y0, y1, hu⟩ := (HR.out w (brefl w)).cells K.out hlt
      subst eA
      obtain ⟨Au, cu, ev, hcu, hbs⟩ := hu
      subst ev
      have hll := HLN.out k hlt
      change (cAt S.sl k).2.length ≤ 1000 at hll
      have TS := hide (cAt_snoc hlt)
      obtain ⟨f, hf⟩ : ∃ f, f = (cAt S.sl k).1 := ⟨_, rfl⟩
      obtain ⟨lf, hlf⟩ : ∃ l, l = (cAt S.sl k).2 := ⟨_, rfl⟩
      have hca : cAt S.sl k = (f, lf) := by rw [hf, hlf]
      rw [hca] at TS y0 y1 hbs hcu hll
      dsimp only at y0 y1 hbs hcu hll
      obtain ⟨R, eR, hRl, hrow, hfl, hap⟩ := RdC.asD D.out
      have htk : (S.sl.take k).length = k := by rw [List.length_take]; omega
      rw [htk] at hrow hRl
      obtain ⟨Av, cv, ev, _⟩ := row_form hrow
      subst ev
      obtain ⟨lfn, hlfn⟩ : ∃ m, m = lf.length := ⟨_, rfl⟩
      rw [← hlfn] at y1 hcu hll
      have HLF := hide hlfn
      clear hf hlf hca hlfn htk D
      go_upto_region 5 with fail
      have KD : Below wr.heap.size wr wr.drew := below_drewN (brefl _) 1
      replace K := hide (btrans K.out KD)
      replace X := hide (X.out.below KD)
      replace Y := hide (Y.out.below KD)
      replace Z := hide (Z.out.below KD)
      have RW := hide (row_below hrow KD)
      have FL := hide (fun j h => row_below (hfl j h) KD)
      have BS := hide (hbs.below KD)
      have Y0 := hide (show wr.drew.cell? ⟨b, off + k * 2, none⟩ = some (.int .i64 f) from y0)
      have Y1 := hide (show wr.drew.cell? ⟨b, off + k * 2 + 1, none⟩ = some (.slice Au lfn cu) from y1)
      have HAP := hide hap
      have HBL := hide hbl
      have HGW := hide (show w.heap.size ≤ g3 by have h1 := HG1.out; have h2 := HG2.out; have h3 := HG3.out; omega)
      have HG13 := hide (show g1 ≠ g3 by have h2 := HG2.out; have h3 := HG3.out; omega)
      have HG23 := hide (show g2 ≠ g3 by have h3 := HG3.out; omega)
      have HB := hide (show b < wr.drew.heap.size from Nat.lt_of_lt_of_le hbl K.out.size)
      clear KD x0 x1 y0 y1 hrow hfl hbs hap
      refine wp_region_noPanic ?_
      refine wp_region_held_drew (S := (fun W => (W.cell? ⟨g1, 0, none⟩ = some (.int .i64 S.ob) ∧ W.cell? ⟨g1, 1, none⟩ = some (.slice (some ⟨b, off, none⟩) S.sl.length cp)) ∧ W.cell? ⟨b, off + k * 2, none⟩ = some (.int .i64 f) ∧ W.cell? ⟨b, off + k * 2 + 1, none⟩ = some (.slice Au lfn cu))) (by kernel_rfl) ?_ (fun hHeld => ?_)
      · exact ⟨⟨X.out.cell 0, X.out.cell 1⟩, Y0.out, Y1.out⟩
      generalize wr.drew = wd at *
      have FLD := hide FL.out
      have HBW := hide K.out.size
      have WD := hide (show ∀ W, Below wd.heap.size wd W → Below w.heap.size w W ∧ Box W g1 24 #[.int .i64 S.ob, .slice (some ⟨b, off, none⟩) S.sl.length cp] ∧ Box W g2 24 #[.int .i64 0, .slice none 0 0] ∧ Box W g3 24 #[.int .i64 S.ob, .slice Av k cv] ∧ W.ownsRow w.heap.size 52 2 (.slice Av k cv) k (cC R) ∧ (∀ j (h : j < R.length), W.ownsRow w.heap.size 4 1 (R[j]).2.2 (R[j]).2.1.length ((R[j]).2.1.map bc)) ∧ W.cell? ⟨b, off + k * 2, none⟩ = some (.int .i64 f) ∧ W.cell? ⟨b, off + k * 2 + 1, none⟩ = some (.slice Au lfn cu) from fun W MM => ⟨btrans K.out MM, X.out.below MM, Y.out.below MM, Z.out.below MM, row_below RW.out MM, fun j h => row_below (FL.out j h) MM, (MM.cell (p := ⟨b, off + k * 2, none⟩) HB.out).trans Y0.out, (MM.cell (p := ⟨b, off + k * 2 + 1, none⟩) HB.out).trans Y1.out⟩)
      have z1 := Z.out.cell 1
      refine wpAnyH_take (i := 0) (oi := ⟨some 15, _, _, _, _, _⟩) (v := ?_) rfl (by kernel_rfl) (by kernel_rfl) (by kernel_rfl) (fun _ _ _ h => h) (Or.inl ⟨by kernel_rfl, ?_⟩) (by assumption) ?_
      rotate_left 1
      · (intro w hSw; (try dsimp only at hSw); go_simp) <;> (with_reducible rfl)
      (try simp only [Act.put, List.setIfInBounds_toArray, List.set_cons_succ, List.set_cons_zero])
      refine wpAnyH_take (i := 2) (oi := ⟨some 17, _, _, _, _, _⟩) (v := ?_) rfl (by kernel_rfl) (by kernel_rfl) (by kernel_rfl) (fun _ _ _ h => h) (Or.inl ⟨by kernel_rfl, ?_⟩) (by assumption) ?_
      rotate_left 1
      · (intro w hSw; (try dsimp only at hSw); go_simp) <;> (with_reducible rfl)
      (try simp only [Act.put, List.setIfInBounds_toArray, List.set_cons_succ, List.set_cons_zero])
      refine wpAnyH_take (i := 3) (oi := ⟨some 18, _, _, _, _, _⟩) (v := ?_) rfl (by kernel_rfl) (by kernel_rfl) (by kernel_rfl) (fun _ _ _ h => h) (Or.inl ⟨by kernel_rfl, ?_⟩) (by assumption) ?_
      rotate_left 1
      · (intro w hSw; (try dsimp only at hSw); go_simp) <;> (with_reducible rfl)
      (try simp only [Act.put, List.setIfInBounds_toArray, List.set_cons_succ, List.set_cons_zero])
      refine wpAnyH_take (i := 4) (oi := ⟨some 19, _, _, _, _, _⟩) (v := ?_) rfl (by kernel_rfl) (by kernel_rfl) (by kernel_rfl) (fun _ _ _ h => h) (Or.inl ⟨by kernel_rfl, ?_⟩) (by assumption) ?_
      rotate_left 1
      · (intro w hSw; (try dsimp only at hSw); go_simp) <;> (with_reducible rfl)
      (try simp only [Act.put, List.setIfInBounds_toArray, List.set_cons_succ, List.set_cons_zero])
      refine wpAnyH_take (i := 5) (oi := ⟨some 20, _, _, _, _, _⟩) (v := ?_) rfl (by kernel_rfl) (by kernel_rfl) (by kernel_rfl) (fun _ _ _ h => h) (Or.inl ⟨by kernel_rfl, ?_⟩) (by assumption) ?_
      rotate_left 1
      · (intro w hSw; (try dsimp only at hSw); go_simp) <;> (with_reducible rfl)
      (try simp only [Act.put, List.setIfInBounds_toArray, List.set_cons_succ, List.set_cons_zero])
      refine wpAnyH_take (i := 6) (oi := ⟨some 21, _, _, _, _, _⟩) (v := ?_) rfl (by kernel_rfl) (by kernel_rfl) (by kernel_rfl) (fun _ _ _ h => h) (Or.inl ⟨by kernel_rfl, ?_⟩) (by assumption) ?_
      rotate_left 1
      · (intro w hSw; (try dsimp only at hSw); go_simp) <;> (with_reducible rfl)
      (try simp only [Act.put, List.setIfInBounds_toArray, List.set_cons_succ, List.set_cons_zero])
      refine wpAnyH_take (i := 7) (oi := ⟨some 22, _, _, _, _, _⟩) (v := ?_) rfl (by kernel_rfl) (by kernel_rfl) (by kernel_rfl) (fun _ _ _ h => h) (Or.inl ⟨by kernel_rfl, ?_⟩) (by assumption) ?_
      rotate_left 1
      · (intro w hSw; (try dsimp only at hSw); go_simp) <;> (with_reducible rfl)
      (try simp only [Act.put, List.setIfInBounds_toArray, List.set_cons_succ, List.set_cons_zero])
      refine wpAnyH_take (i := 9) (oi := ⟨some 24, _, _, _, _, _⟩) (v := ?_) rfl (by kernel_rfl) (by kernel_rfl) (by kernel_rfl) (fun _ _ _ h => h) (Or.inl ⟨by kernel_rfl, ?_⟩) (by assumption) ?_
      rotate_left 1
      · (intro w hSw; (try dsimp only at hSw); go_simp) <;> (with_reducible rfl)
      (try simp only [Act.put, List.setIfInBounds_toArray, List.set_cons_succ, List.set_cons_zero])
      refine wpAnyH_take (i := 10) (oi := ⟨some 25, _, _, _, _, _⟩) (v := ?_) rfl (by kernel_rfl) (by kernel_rfl) (by kernel_rfl) (fun _ _ _ h => h) (Or.inl ⟨by kernel_rfl, ?_⟩) (by assumption) ?_
      rotate_left 1
      · (intro w hSw; (try dsimp only at hSw); go_simp) <;> (with_reducible rfl)
      (try simp only [Act.put, List.setIfInBounds_toArray, List.set_cons_succ, List.set_cons_zero])
      refine wpAnyH_take (i := 11) (oi := ⟨some 26, _, _, _, _, _⟩) (v := ?_) rfl (by kernel_rfl) (by kernel_rfl) (by kernel_rfl) (fun _ _ _ h => h) (Or.inl ⟨by kernel_rfl, ?_⟩) (by assumption) ?_
      rotate_left 1
      · (intro w hSw; (try dsimp only at hSw); go_simp) <;> (with_reducible rfl)
      (try simp only [Act.put, List.setIfInBounds_toArray, List.set_cons_succ, List.set_cons_zero])
      refine wpAnyH_take (i := 12) (oi := ⟨some 27, _, _, _, _, _⟩) (v := ?_) rfl (by kernel_rfl) (by kernel_rfl) (by kernel_rfl) (fun _ _ _ h => h) (Or.inl ⟨by kernel_rfl, ?_⟩) (by assumption) ?_
      rotate_left 1
      · (intro w hSw; (try dsimp only at hSw); go_simp) <;> (with_reducible rfl)
      (try simp only [Act.put, List.setIfInBounds_toArray, List.set_cons_succ, List.set_cons_zero])
      refine wpAnyH_take (i := 13) (oi := ⟨some 28, _, _, _, _, _⟩) (v := ?_) rfl (by kernel_rfl) (by kernel_rfl) (by kernel_rfl) (fun _ _ _ h => h) (Or.inl ⟨by kernel_rfl, ?_⟩) (by assumption) ?_
      rotate_left 1
      · (intro w hSw; (try dsimp only at hSw); go_simp) <;> (with_reducible rfl)
      (try simp only [Act.put, List.setIfInBounds_toArray, List.set_cons_succ, List.set_cons_zero])
      refine wpAnyH_take (i := 14) (oi := ⟨some 29, _, _, _, _, _⟩) (v := ?_) rfl (by kernel_rfl) (by kernel_rfl) (by kernel_rfl) (fun _ _ _ h => h) (Or.inl ⟨by kernel_rfl, ?_⟩) (by assumption) ?_
      rotate_left 1
      · (intro w hSw; (try dsimp only at hSw); go_simp) <;> (with_reducible rfl)
      (try simp only [Act.put, List.setIfInBounds_toArray, List.set_cons_succ, List.set_cons_zero])
      refine wpAnyH_ready (rs := [1, 8]) (by kernel_rfl) (by simp) ?_
      refine AllReadyH.cons (o := ⟨some 16, _, _, _, _, _⟩) rfl (fun K' hK => ?_) ?_
      · go_simp
        refine hK.out _ _ ?_ (fun hHeld => ?_)
        · exact ⟨⟨X.out.cell 0, X.out.cell 1⟩, Y0.out, Y1.out⟩
        clear hK K'
        (try simp only [Act.put, List.setIfInBounds_toArray, List.set_cons_succ, List.set_cons_zero])
        refine wpAnyH_ready (rs := [8]) (by kernel_rfl) (by simp) ?_
        refine AllReadyH.cons (o := ⟨some 23, _, _, _, _, _⟩) rfl (fun K' hK => ?_) AllReadyH.nil
        go_simp
        have MM := bal (brefl wd) (.cells #[] 4)
        obtain ⟨k1, k2, k3, k4, k5, k6, k7, k8⟩ := WD.out _ MM
        replace K := hide k1
        replace X := hide k2
        replace Y := hide k3
        replace Z := hide k4
        replace RW := hide k5
        replace FL := hide k6
        replace Y0 := hide k7
        replace Y1 := hide k8
        clear k1 k2 k3 k4 k5 k6 k7 k8
        have EO := hide (empty_own wd wd.heap.size (Nat.le_refl _))
        have BS1 := hide (BS.out.below MM)
        have HM := hide MM
        have SA := hide MM.size
        clear MM
        have z1 := Z.out.cell 1
        refine hK.out _ _ ?_ (fun hHeld => ?_)
        · exact ⟨⟨X.out.cell 0, X.out.cell 1⟩, Y0.out, Y1.out⟩
        clear hK K'
        (try simp only [Act.put, List.setIfInBounds_toArray, List.set_cons_succ, List.set_cons_zero])
        refine wpAnyH_ready (rs := [15]) (by kernel_rfl) (by simp) ?_
        refine AllReadyH.cons (o := ⟨some 30, _, _, _, _, _⟩) rfl (fun K' hK => ?_) AllReadyH.nil
        refine step_app_b rfl (.tmp 23) (.tmp 29) rfl wd.heap.size wd.heap.size Au cu lfn lf rfl rfl EO.out BS1.out HLF.out.symm (by have := HLF.out; omega) SA.out hcu ?_
        intro A4 c4 w4 hown4 hk4
        have MM := HM.out.trans hk4.below
        obtain ⟨k1, k2, k3, k4, k5, k6, k7, k8⟩ := WD.out _ MM
        replace K := hide k1
        replace X := hide k2
        replace Y := hide k3
        replace Z := hide k4
        replace RW := hide k5
        replace FL := hide k6
        replace Y0 := hide k7
        replace Y1 := hide k8
        clear k1 k2 k3 k4 k5 k6 k7 k8
        have HU := hide hown4
        have SB := hide (Nat.le_trans SA.out hk4.below.size)
        clear HM SA EO BS1 hk4 hown4
        have HM := hide MM
        clear MM
        have z1 := Z.out.cell 1
        refine hK.out _ _ ?_ (fun hHeld => ?_)
        · exact ⟨⟨X.out.cell 0, X.out.cell 1⟩, Y0.out, Y1.out⟩
        clear hK K'
        (try simp only [Act.put, List.setIfInBounds_toArray, List.set_cons_succ, List.set_cons_zero])
        refine wpAnyH_take (i := 16) (oi := ⟨some 31, _, _, _, _, _⟩) (v := ?_) rfl (by kernel_rfl) (by kernel_rfl) (by kernel_rfl) (fun _ _ _ h => h) (Or.inl ⟨by kernel_rfl, ?_⟩) (by assumption) ?_
        rotate_left 1
        · (intro w hSw; (try dsimp only at hSw); go_simp) <;> (with_reducible rfl)
        (try simp only [Act.put, List.setIfInBounds_toArray, List.set_cons_succ, List.set_cons_zero])
        refine wpAnyH_ready (rs := [17]) (by kernel_rfl) (by simp) ?_
        refine AllReadyH.cons (o := ⟨some 32, _, _, _, _, _⟩) rfl (fun K' hK => ?_) AllReadyH.nil
        go_simp
        have M2 := bal (brefl w4) (.cells #[.int .i64 f, .slice A4 lfn c4] 52)
        have MM := HM.out.trans (M2.mono SB.out)
        obtain ⟨k1, k2, k3, k4, k5, k6, k7, k8⟩ := WD.out _ MM
        replace K := hide k1
        replace X := hide k2
        replace Y := hide k3
        replace Z := hide k4
        replace RW := hide k5
        replace FL := hide k6
        replace Y0 := hide k7
        replace Y1 := hide k8
        clear k1 k2 k3 k4 k5 k6 k7 k8
        replace HU := hide (row_below HU.out M2)
        have NB := hide (cells_two (Box.new w4 52 #[.int .i64 f, .slice A4 lfn c4]))
        have SC := hide (Nat.le_trans (Nat.le_trans HBW.out SB.out) M2.size)
        clear MM M2 HM SB
        have z1 := Z.out.cell 1
        refine hK.out _ _ ?_ (fun hHeld => ?_)
        · exact ⟨⟨X.out.cell 0, X.out.cell 1⟩, Y0.out, Y1.out⟩
        clear hK K'
        (try simp only [Act.put, List.setIfInBounds_toArray, List.set_cons_succ, List.set_cons_zero])
        refine wpAnyH_ready (rs := [18]) (by kernel_rfl) (by simp) ?_
        refine AllReadyH.cons (o := ⟨some 33, _, _, _, _, _⟩) rfl (fun K' hK => ?_) AllReadyH.nil
        refine step_append_own rfl (.tmp 16) (.tmp 32) 22 rfl w.heap.size 52 i0 _ 2 32 Try.underlying22 hi0 hz0 hz1 hz2 rfl (by omega) (.slice Av k cv) k (cC R) rfl RW.out ⟨w4.heap.size, 0, none⟩ 1 1 [.int .i64 f, .slice A4 lfn c4] rfl rfl NB.out (by intro u hu; rcases List.mem_cons.1 hu with rfl | hu; rfl; rw [List.mem_singleton.1 hu]; rfl) (by simp only [maxLen]; omega) (by omega) SC.out ?_
        intro v5 w5 hown5 hg5
        obtain ⟨A5, c5, ev5, _⟩ := row_form hown5
        subst ev5
        have KU := kp_own RW.out hg5 SC.out
        have DD := hide (show OwnD w.heap.size w5 (.slice A5 (k + 1) c5) (S.sl.take (k + 1)) by rw [TS.out]; exact OwnD.push ⟨R, eR, hRl, FL.out, HAP.out, fun j hj => ap_new (FLD.out j hj) HU.out (Nat.le_refl _), hown5⟩ (row_mono HU.out HBW.out) KU)
        replace K := hide (K.out.trans KU.below)
        replace X := hide (X.out.kp KU (by decide))
        replace Y := hide (Y.out.kp KU (by decide))
        replace Z := hide (Z.out.kp KU (by decide))
        replace Y0 := hide ((KU.below.cell (p := ⟨b, off + k * 2, none⟩) HBL.out).trans Y0.out)
        replace Y1 := hide ((KU.below.cell (p := ⟨b, off + k * 2 + 1, none⟩) HBL.out).trans Y1.out)
        clear hown5 hg5 KU NB SC
        have z1 := Z.out.cell 1
        have zf := Z.out.frozen 1
        refine hK.out _ _ ?_ (fun hHeld => ?_)
        · exact ⟨⟨X.out.cell 0, X.out.cell 1⟩, Y0.out, Y1.out⟩
        clear hK K'
        (try simp only [Act.put, List.setIfInBounds_toArray, List.set_cons_succ, List.set_cons_zero])
        refine wpAnyH_take (i := 19) (oi := ⟨some 34, _, _, _, _, _⟩) (v := ?_) rfl (by kernel_rfl) (by kernel_rfl) (by kernel_rfl) (fun _ _ _ h => h) (Or.inl ⟨by kernel_rfl, ?_⟩) (by assumption) ?_
        rotate_left 1
        · (intro w hSw; (try dsimp only at hSw); go_simp) <;> (with_reducible rfl)
        (try simp only [Act.put, List.setIfInBounds_toArray, List.set_cons_succ, List.set_cons_zero])
        refine wpAnyH_ready (rs := [20]) (by kernel_rfl) (by simp) ?_
        refine AllReadyH.cons (o := ⟨none, _, _, _, _, _⟩) rfl (fun K' hK => ?_) AllReadyH.nil
        go_simp
        have KS := Kp.boxset Z.out HGW.out 1 (.slice A5 (k + 1) c5)
        have D := hide (DD.out.kp KS (by decide) (by decide))
        replace K := hide (K.out.trans KS.below)
        replace X := hide (X.out.far (b := g3) (i := 1) HG13.out (.slice A5 (k + 1) c5))
        replace Y := hide (Y.out.far (b := g3) (i := 1) HG23.out (.slice A5 (k + 1) c5))
        replace Z := hide (Z.out.put 1 (.slice A5 (k + 1) c5))
        replace Y0 := hide ((KS.below.cell (p := ⟨b, off + k * 2, none⟩) HBL.out).trans Y0.out)
        replace Y1 := hide ((KS.below.cell (p := ⟨b, off + k * 2 + 1, none⟩) HBL.out).trans Y1.out)
        clear KS DD
        refine hK.out _ _ ?_ (fun hHeld => ?_)
        · exact ⟨⟨X.out.cell 0, X.out.cell 1⟩, Y0.out, Y1.out⟩
        clear hK K'
        (try simp only [Act.put, List.setIfInBounds_toArray, List.set_cons_succ, List.set_cons_zero])
        refine wpAnyH_done (by kernel_rfl) ?_ _
        refine NoPanic.normal ?_
        clear hHeld
        go_wp2
        go_roundw
        case rel => first | exact ⟨k + 1, _, by omega, by go_num, K, X, Y, Z, D⟩ | exact ⟨k + 1, _, by omega, by omega, K, X, Y, Z, D⟩ | ((repeat apply Exists.intro); exact ⟨⟨k + 1, _, by omega, by go_num, K, X, Y, Z, D⟩, rfl⟩)
        case measure => simp [intOf]; omega
      refine AllReadyH.cons (o := ⟨some 23, _, _, _, _, _⟩) rfl (fun K' hK => ?_) AllReadyH.nil
      go_simp
      have MM := bal (brefl wd) (.cells #[] 4)
      obtain ⟨k1, k2, k3, k4, k5, k6, k7, k8⟩ := WD.out _ MM
      replace K := hide k1
      replace X := hide k2
      replace Y := hide k3
      replace Z := hide k4
      replace RW := hide k5
      replace FL := hide k6
      replace Y0 := hide k7
      replace Y1 := hide k8
      clear k1 k2 k3 k4 k5 k6 k7 k8
      have EO := hide (empty_own wd wd.heap.size (Nat.le_refl _))
      have BS1 := hide (BS.out.below MM)
      have HM := hide MM
      have SA := hide MM.size
      clear MM
      have z1 := Z.out.cell 1
      refine hK.out _ _ ?_ (fun hHeld => ?_)
      · exact ⟨⟨X.out.cell 0, X.out.cell 1⟩, Y0.out, Y1.out⟩
      clear hK K'
      (try simp only [Act.put, List.setIfInBounds_toArray, List.set_cons_succ, List.set_cons_zero])
      refine wpAnyH_ready (rs := [1, 15]) (by kernel_rfl) (by simp) ?_
      refine AllReadyH.cons (o := ⟨some 16, _, _, _, _, _⟩) rfl (fun K' hK => ?_) ?_
      · go_simp
        refine hK.out _ _ ?_ (fun hHeld => ?_)
        · exact ⟨⟨X.out.cell 0, X.out.cell 1⟩, Y0.out, Y1.out⟩
        clear hK K'
        (try simp only [Act.put, List.setIfInBounds_toArray, List.set_cons_succ, List.set_cons_zero])
        refine wpAnyH_ready (rs := [15]) (by kernel_rfl) (by simp) ?_
        refine AllReadyH.cons (o := ⟨some 30, _, _, _, _, _⟩) rfl (fun K' hK => ?_) AllReadyH.nil
        refine step_app_b rfl (.tmp 23) (.tmp 29) rfl wd.heap.size wd.heap.size Au cu lfn lf rfl rfl EO.out BS1.out HLF.out.symm (by have := HLF.out; omega) SA.out hcu ?_
        intro A4 c4 w4 hown4 hk4
        have MM := HM.out.trans hk4.below
        obtain ⟨k1, k2, k3, k4, k5, k6, k7, k8⟩ := WD.out _ MM
        replace K := hide k1
        replace X := hide k2
        replace Y := hide k3
        replace Z := hide k4
        replace RW := hide k5
        replace FL := hide k6
        replace Y0 := hide k7
        replace Y1 := hide k8
        clear k1 k2 k3 k4 k5 k6 k7 k8
        have HU := hide hown4
        have SB := hide (Nat.le_trans SA.out hk4.below.size)
        clear HM SA EO BS1 hk4 hown4
        have HM := hide MM
        clear MM
        have z1 := Z.out.cell 1
        refine hK.out _ _ ?_ (fun hHeld => ?_)
        · exact ⟨⟨X.out.cell 0, X.out.cell 1⟩, Y0.out, Y1.out⟩
        clear hK K'
        (try simp only [Act.put, List.setIfInBounds_toArray, List.set_cons_succ, List.set_cons_zero])
        refine wpAnyH_take (i := 16) (oi := ⟨some 31, _, _, _, _, _⟩) (v := ?_) rfl (by kernel_rfl) (by kernel_rfl) (by kernel_rfl) (fun _ _ _ h => h) (Or.inl ⟨by kernel_rfl, ?_⟩) (by assumption) ?_
        rotate_left 1
        · (intro w hSw; (try dsimp only at hSw); go_simp) <;> (with_reducible rfl)
        (try simp only [Act.put, List.setIfInBounds_toArray, List.set_cons_succ, List.set_cons_zero])
        refine wpAnyH_ready (rs := [17]) (by kernel_rfl) (by simp) ?_
        refine AllReadyH.cons (o := ⟨some 32, _, _, _, _, _⟩) rfl (fun K' hK => ?_) AllReadyH.nil
        go_simp
        have M2 := bal (brefl w4) (.cells #[.int .i64 f, .slice A4 lfn c4] 52)
        have MM := HM.out.trans (M2.mono SB.out)
        obtain ⟨k1, k2, k3, k4, k5, k6, k7, k8⟩ := WD.out _ MM
        replace K := hide k1
        replace X := hide k2
        replace Y := hide k3
        replace Z := hide k4
        replace RW := hide k5
        replace FL := hide k6
        replace Y0 := hide k7
        replace Y1 := hide k8
        clear k1 k2 k3 k4 k5 k6 k7 k8
        replace HU := hide (row_below HU.out M2)
        have NB := hide (cells_two (Box.new w4 52 #[.int .i64 f, .slice A4 lfn c4]))
        have SC := hide (Nat.le_trans (Nat.le_trans HBW.out SB.out) M2.size)
        clear MM M2 HM SB
        have z1 := Z.out.cell 1
        refine hK.out _ _ ?_ (fun hHeld => ?_)
        · exact ⟨⟨X.out.cell 0, X.out.cell 1⟩, Y0.out, Y1.out⟩
        clear hK K'
        (try simp only [Act.put, List.setIfInBounds_toArray, List.set_cons_succ, List.set_cons_zero])
        refine wpAnyH_ready (rs := [18]) (by kernel_rfl) (by simp) ?_
        refine AllReadyH.cons (o := ⟨some 33, _, _, _, _, _⟩) rfl (fun K' hK => ?_) AllReadyH.nil
        refine step_append_own rfl (.tmp 16) (.tmp 32) 22 rfl w.heap.size 52 i0 _ 2 32 Try.underlying22 hi0 hz0 hz1 hz2 rfl (by omega) (.slice Av k cv) k (cC R) rfl RW.out ⟨w4.heap.size, 0, none⟩ 1 1 [.int .i64 f, .slice A4 lfn c4] rfl rfl NB.out (by intro u hu; rcases List.mem_cons.1 hu with rfl | hu; rfl; rw [List.mem_singleton.1 hu]; rfl) (by simp only [maxLen]; omega) (by omega) SC.out ?_
        intro v5 w5 hown5 hg5
        obtain ⟨A5, c5, ev5, _⟩ := row_form hown5
        subst ev5
        have KU := kp_own RW.out hg5 SC.out
        have DD := hide (show OwnD w.heap.size w5 (.slice A5 (k + 1) c5) (S.sl.take (k + 1)) by rw [TS.out]; exact OwnD.push ⟨R, eR, hRl, FL.out, HAP.out, fun j hj => ap_new (FLD.out j hj) HU.out (Nat.le_refl _), hown5⟩ (row_mono HU.out HBW.out) KU)
        replace K := hide (K.out.trans KU.below)
        replace X := hide (X.out.kp KU (by decide))
        replace Y := hide (Y.out.kp KU (by decide))
        replace Z := hide (Z.out.kp KU (by decide))
        replace Y0 := hide ((KU.below.cell (p := ⟨b, off + k * 2, none⟩) HBL.out).trans Y0.out)
        replace Y1 := hide ((KU.below.cell (p := ⟨b, off + k * 2 + 1, none⟩) HBL.out).trans Y1.out)
        clear hown5 hg5 KU NB SC
        have z1 := Z.out.cell 1
        have zf := Z.out.frozen 1
        refine hK.out _ _ ?_ (fun hHeld => ?_)
        · exact ⟨⟨X.out.cell 0, X.out.cell 1⟩, Y0.out, Y1.out⟩
        clear hK K'
        (try simp only [Act.put, List.setIfInBounds_toArray, List.set_cons_succ, List.set_cons_zero])
        refine wpAnyH_take (i := 19) (oi := ⟨some 34, _, _, _, _, _⟩) (v := ?_) rfl (by kernel_rfl) (by kernel_rfl) (by kernel_rfl) (fun _ _ _ h => h) (Or.inl ⟨by kernel_rfl, ?_⟩) (by assumption) ?_
        rotate_left 1
        · (intro w hSw; (try dsimp only at hSw); go_simp) <;> (with_reducible rfl)
        (try simp only [Act.put, List.setIfInBounds_toArray, List.set_cons_succ, List.set_cons_zero])
        refine wpAnyH_ready (rs := [20]) (by kernel_rfl) (by simp) ?_
        refine AllReadyH.cons (o := ⟨none, _, _, _, _, _⟩) rfl (fun K' hK => ?_) AllReadyH.nil
        go_simp
        have KS := Kp.boxset Z.out HGW.out 1 (.slice A5 (k + 1) c5)
        have D := hide (DD.out.kp KS (by decide) (by decide))
        replace K := hide (K.out.trans KS.below)
        replace X := hide (X.out.far (b := g3) (i := 1) HG13.out (.slice A5 (k + 1) c5))
        replace Y := hide (Y.out.far (b := g3) (i := 1) HG23.out (.slice A5 (k + 1) c5))
        replace Z := hide (Z.out.put 1 (.slice A5 (k + 1) c5))
        replace Y0 := hide ((KS.below.cell (p := ⟨b, off + k * 2, none⟩) HBL.out).trans Y0.out)
        replace Y1 := hide ((KS.below.cell (p := ⟨b, off + k * 2 + 1, none⟩) HBL.out).trans Y1.out)
        clear KS DD
        refine hK.out _ _ ?_ (fun hHeld => ?_)
        · exact ⟨⟨X.out.cell 0, X.out.cell 1⟩, Y0.out, Y1.out⟩
        clear hK K'
        (try simp only [Act.put, List.setIfInBounds_toArray, List.set_cons_succ, List.set_cons_zero])
        refine wpAnyH_done (by kernel_rfl) ?_ _
        refine NoPanic.normal ?_
        clear hHeld
        go_wp2
        go_roundw
        case rel => first | exact ⟨k + 1, _, by omega, by go_num, K, X, Y, Z, D⟩ | exact ⟨k + 1, _, by omega, by omega, K, X, Y, Z, D⟩ | ((repeat apply Exists.intro); exact ⟨⟨k + 1, _, by omega, by go_num, K, X, Y, Z, D⟩, rfl⟩)
        case measure => simp [intOf]; omega
      refine AllReadyH.cons (o := ⟨some 30, _, _, _, _, _⟩) rfl (fun K' hK => ?_) AllReadyH.nil
      refine step_app_b rfl (.tmp 23) (.tmp 29) rfl wd.heap.size wd.heap.size Au cu lfn lf rfl rfl EO.out BS1.out HLF.out.symm (by have := HLF.out; omega) SA.out hcu ?_
      intro A4 c4 w4 hown4 hk4
      have MM := HM.out.trans hk4.below
      obtain ⟨k1, k2, k3, k4, k5, k6, k7, k8⟩ := WD.out _ MM
      replace K := hide k1
      replace X := hide k2
      replace Y := hide k3
      replace Z := hide k4
      replace RW := hide k5
      replace FL := hide k6
      replace Y0 := hide k7
      replace Y1 := hide k8
      clear k1 k2 k3 k4 k5 k6 k7 k8
      have HU := hide hown4
      have SB := hide (Nat.le_trans SA.out hk4.below.size)
      clear HM SA EO BS1 hk4 hown4
      have HM := hide MM
      clear MM
      have z1 := Z.out.cell 1
      refine hK.out _ _ ?_ (fun hHeld => ?_)
      · exact ⟨⟨X.out.cell 0, X.out.cell 1⟩, Y0.out, Y1.out⟩
      clear hK K'
      (try simp only [Act.put, List.setIfInBounds_toArray, List.set_cons_succ, List.set_cons_zero])
      refine wpAnyH_take (i := 16) (oi := ⟨some 31, _, _, _, _, _⟩) (v := ?_) rfl (by kernel_rfl) (by kernel_rfl) (by kernel_rfl) (fun _ _ _ h => h) (Or.inl ⟨by kernel_rfl, ?_⟩) (by assumption) ?_
      rotate_left 1
      · (intro w hSw; (try dsimp only at hSw); go_simp) <;> (with_reducible rfl)
      (try simp only [Act.put, List.setIfInBounds_toArray, List.set_cons_succ, List.set_cons_zero])
      refine wpAnyH_ready (rs := [1, 17]) (by kernel_rfl) (by simp) ?_
      refine AllReadyH.cons (o := ⟨some 16, _, _, _, _, _⟩) rfl (fun K' hK => ?_) ?_
      · go_simp
        refine hK.out _ _ ?_ (fun hHeld => ?_)
        · exact ⟨⟨X.out.cell 0, X.out.cell 1⟩, Y0.out, Y1.out⟩
        clear hK K'
        (try simp only [Act.put, List.setIfInBounds_toArray, List.set_cons_succ, List.set_cons_zero])
        refine wpAnyH_ready (rs := [17]) (by kernel_rfl) (by simp) ?_
        refine AllReadyH.cons (o := ⟨some 32, _, _, _, _, _⟩) rfl (fun K' hK => ?_) AllReadyH.nil
        go_simp
        have M2 := bal (brefl w4) (.cells #[.int .i64 f, .slice A4 lfn c4] 52)
        have MM := HM.out.trans (M2.mono SB.out)
        obtain ⟨k1, k2, k3, k4, k5, k6, k7, k8⟩ := WD.out _ MM
        replace K := hide k1
        replace X := hide k2
        replace Y := hide k3
        replace Z := hide k4
        replace RW := hide k5
        replace FL := hide k6
        replace Y0 := hide k7
        replace Y1 := hide k8
        clear k1 k2 k3 k4 k5 k6 k7 k8
        replace HU := hide (row_below HU.out M2)
        have NB := hide (cells_two (Box.new w4 52 #[.int .i64 f, .slice A4 lfn c4]))
        have SC := hide (Nat.le_trans (Nat.le_trans HBW.out SB.out) M2.size)
        clear MM M2 HM SB
        have z1 := Z.out.cell 1
        refine hK.out _ _ ?_ (fun hHeld => ?_)
        · exact ⟨⟨X.out.cell 0, X.out.cell 1⟩, Y0.out, Y1.out⟩
        clear hK K'
        (try simp only [Act.put, List.setIfInBounds_toArray, List.set_cons_succ, List.set_cons_zero])
        refine wpAnyH_ready (rs := [18]) (by kernel_rfl) (by simp) ?_
        refine AllReadyH.cons (o := ⟨some 33, _, _, _, _, _⟩) rfl (fun K' hK => ?_) AllReadyH.nil
        refine step_append_own rfl (.tmp 16) (.tmp 32) 22 rfl w.heap.size 52 i0 _ 2 32 Try.underlying22 hi0 hz0 hz1 hz2 rfl (by omega) (.slice Av k cv) k (cC R) rfl RW.out ⟨w4.heap.size, 0, none⟩ 1 1 [.int .i64 f, .slice A4 lfn c4] rfl rfl NB.out (by intro u hu; rcases List.mem_cons.1 hu with rfl | hu; rfl; rw [List.mem_singleton.1 hu]; rfl) (by simp only [maxLen]; omega) (by omega) SC.out ?_
        intro v5 w5 hown5 hg5
        obtain ⟨A5, c5, ev5, _⟩ := row_form hown5
        subst ev5
        have KU := kp_own RW.out hg5 SC.out
        have DD := hide (show OwnD w.heap.size w5 (.slice A5 (k + 1) c5) (S.sl.take (k + 1)) by rw [TS.out]; exact OwnD.push ⟨R, eR, hRl, FL.out, HAP.out, fun j hj => ap_new (FLD.out j hj) HU.out (Nat.le_refl _), hown5⟩ (row_mono HU.out HBW.out) KU)
        replace K := hide (K.out.trans KU.below)
        replace X := hide (X.out.kp KU (by decide))
        replace Y := hide (Y.out.kp KU (by decide))
        replace Z := hide (Z.out.kp KU (by decide))
        replace Y0 := hide ((KU.below.cell (p := ⟨b, off + k * 2, none⟩) HBL.out).trans Y0.out)
        replace Y1 := hide ((KU.below.cell (p := ⟨b, off + k * 2 + 1, none⟩) HBL.out).trans Y1.out)
        clear hown5 hg5 KU NB SC
        have z1 := Z.out.cell 1
        have zf := Z.out.frozen 1
        refine hK.out _ _ ?_ (fun hHeld => ?_)
        · exact ⟨⟨X.out.cell 0, X.out.cell 1⟩, Y0.out, Y1.out⟩
        clear hK K'
        (try simp only [Act.put, List.setIfInBounds_toArray, List.set_cons_succ, List.set_cons_zero])
        refine wpAnyH_take (i := 19) (oi := ⟨some 34, _, _, _, _, _⟩) (v := ?_) rfl (by kernel_rfl) (by kernel_rfl) (by kernel_rfl) (fun _ _ _ h => h) (Or.inl ⟨by kernel_rfl, ?_⟩) (by assumption) ?_
        rotate_left 1
        · (intro w hSw; (try dsimp only at hSw); go_simp) <;> (with_reducible rfl)
        (try simp only [Act.put, List.setIfInBounds_toArray, List.set_cons_succ, List.set_cons_zero])
        refine wpAnyH_ready (rs := [20]) (by kernel_rfl) (by simp) ?_
        refine AllReadyH.cons (o := ⟨none, _, _, _, _, _⟩) rfl (fun K' hK => ?_) AllReadyH.nil
        go_simp
        have KS := Kp.boxset Z.out HGW.out 1 (.slice A5 (k + 1) c5)
        have D := hide (DD.out.kp KS (by decide) (by decide))
        replace K := hide (K.out.trans KS.below)
        replace X := hide (X.out.far (b := g3) (i := 1) HG13.out (.slice A5 (k + 1) c5))
        replace Y := hide (Y.out.far (b := g3) (i := 1) HG23.out (.slice A5 (k + 1) c5))
        replace Z := hide (Z.out.put 1 (.slice A5 (k + 1) c5))
        replace Y0 := hide ((KS.below.cell (p := ⟨b, off + k * 2, none⟩) HBL.out).trans Y0.out)
        replace Y1 := hide ((KS.below.cell (p := ⟨b, off + k * 2 + 1, none⟩) HBL.out).trans Y1.out)
        clear KS DD
        refine hK.out _ _ ?_ (fun hHeld => ?_)
        · exact ⟨⟨X.out.cell 0, X.out.cell 1⟩, Y0.out, Y1.out⟩
        clear hK K'
        (try simp only [Act.put, List.setIfInBounds_toArray, List.set_cons_succ, List.set_cons_zero])
        refine wpAnyH_done (by kernel_rfl) ?_ _
        refine NoPanic.normal ?_
        clear hHeld
        go_wp2
        go_roundw
        case rel => first | exact ⟨k + 1, _, by omega, by go_num, K, X, Y, Z, D⟩ | exact ⟨k + 1, _, by omega, by omega, K, X, Y, Z, D⟩ | ((repeat apply Exists.intro); exact ⟨⟨k + 1, _, by omega, by go_num, K, X, Y, Z, D⟩, rfl⟩)
        case measure => simp [intOf]; omega
      refine AllReadyH.cons (o := ⟨some 32, _, _, _, _, _⟩) rfl (fun K' hK => ?_) AllReadyH.nil
      go_simp
      have M2 := bal (brefl w4) (.cells #[.int .i64 f, .slice A4 lfn c4] 52)
      have MM := HM.out.trans (M2.mono SB.out)
      obtain ⟨k1, k2, k3, k4, k5, k6, k7, k8⟩ := WD.out _ MM
      replace K := hide k1
      replace X := hide k2
      replace Y := hide k3
      replace Z := hide k4
      replace RW := hide k5
      replace FL := hide k6
      replace Y0 := hide k7
      replace Y1 := hide k8
      clear k1 k2 k3 k4 k5 k6 k7 k8
      replace HU := hide (row_below HU.out M2)
      have NB := hide (cells_two (Box.new w4 52 #[.int .i64 f, .slice A4 lfn c4]))
      have SC := hide (Nat.le_trans (Nat.le_trans HBW.out SB.out) M2.size)
      clear MM M2 HM SB
      have z1 := Z.out.cell 1
      refine hK.out _ _ ?_ (fun hHeld => ?_)
      · exact ⟨⟨X.out.cell 0, X.out.cell 1⟩, Y0.out, Y1.out⟩
      clear hK K'
      (try simp only [Act.put, List.setIfInBounds_toArray, List.set_cons_succ, List.set_cons_zero])
      refine wpAnyH_ready (rs := [1]) (by kernel_rfl) (by simp) ?_
      refine AllReadyH.cons (o := ⟨some 16, _, _, _, _, _⟩) rfl (fun K' hK => ?_) AllReadyH.nil
      go_simp
      refine hK.out _ _ ?_ (fun hHeld => ?_)
      · exact ⟨⟨X.out.cell 0, X.out.cell 1⟩, Y0.out, Y1.out⟩
      clear hK K'
      (try simp only [Act.put, List.setIfInBounds_toArray, List.set_cons_succ, List.set_cons_zero])
      refine wpAnyH_ready (rs := [18]) (by kernel_rfl) (by simp) ?_
      refine AllReadyH.cons (o := ⟨some 33, _, _, _, _, _⟩) rfl (fun K' hK => ?_) AllReadyH.nil
      refine step_append_own rfl (.tmp 16) (.tmp 32) 22 rfl w.heap.size 52 i0 _ 2 32 Try.underlying22 hi0 hz0 hz1 hz2 rfl (by omega) (.slice Av k cv) k (cC R) rfl RW.out ⟨w4.heap.size, 0, none⟩ 1 1 [.int .i64 f, .slice A4 lfn c4] rfl rfl NB.out (by intro u hu; rcases List.mem_cons.1 hu with rfl | hu; rfl; rw [List.mem_singleton.1 hu]; rfl) (by simp only [maxLen]; omega) (by omega) SC.out ?_
      intro v5 w5 hown5 hg5
      obtain ⟨A5, c5, ev5, _⟩ := row_form hown5
      subst ev5
      have KU := kp_own RW.out hg5 SC.out
      have DD := hide (show OwnD w.heap.size w5 (.slice A5 (k + 1) c5) (S.sl.take (k + 1)) by rw [TS.out]; exact OwnD.push ⟨R, eR, hRl, FL.out, HAP.out, fun j hj => ap_new (FLD.out j hj) HU.out (Nat.le_refl _), hown5⟩ (row_mono HU.out HBW.out) KU)
      replace K := hide (K.out.trans KU.below)
      replace X := hide (X.out.kp KU (by decide))
      replace Y := hide (Y.out.kp KU (by decide))
      replace Z := hide (Z.out.kp KU (by decide))
      replace Y0 := hide ((KU.below.cell (p := ⟨b, off + k * 2, none⟩) HBL.out).trans Y0.out)
      replace Y1 := hide ((KU.below.cell (p := ⟨b, off + k * 2 + 1, none⟩) HBL.out).trans Y1.out)
      clear hown5 hg5 KU NB SC
      have z1 := Z.out.cell 1
      have zf := Z.out.frozen 1
      refine hK.out _ _ ?_ (fun hHeld => ?_)
      · exact ⟨⟨X.out.cell 0, X.out.cell 1⟩, Y0.out, Y1.out⟩
      clear hK K'
      (try simp only [Act.put, List.setIfInBounds_toArray, List.set_cons_succ, List.set_cons_zero])
      refine wpAnyH_take (i := 19) (oi := ⟨some 34, _, _, _, _, _⟩) (v := ?_) rfl (by kernel_rfl) (by kernel_rfl) (by kernel_rfl) (fun _ _ _ h => h) (Or.inl ⟨by kernel_rfl, ?_⟩) (by assumption) ?_
      rotate_left 1
      · (intro w hSw; (try dsimp only at hSw); go_simp) <;> (with_reducible rfl)
      (try simp only [Act.put, List.setIfInBounds_toArray, List.set_cons_succ, List.set_cons_zero])
      refine wpAnyH_ready (rs := [20]) (by kernel_rfl) (by simp) ?_
      refine AllReadyH.cons (o := ⟨none, _, _, _, _, _⟩) rfl (fun K' hK => ?_) AllReadyH.nil
      go_simp
      have KS := Kp.boxset Z.out HGW.out 1 (.slice A5 (k + 1) c5)
      have D := hide (DD.out.kp KS (by decide) (by decide))
      replace K := hide (K.out.trans KS.below)
      replace X := hide (X.out.far (b := g3) (i := 1) HG13.out (.slice A5 (k + 1) c5))
      replace Y := hide (Y.out.far (b := g3) (i := 1) HG23.out (.slice A5 (k + 1) c5))
      replace Z := hide (Z.out.put 1 (.slice A5 (k + 1) c5))
      replace Y0 := hide ((KS.below.cell (p := ⟨b, off + k * 2, none⟩) HBL.out).trans Y0.out)
      replace Y1 := hide ((KS.below.cell (p := ⟨b, off + k * 2 + 1, none⟩) HBL.out).trans Y1.out)
      clear KS DD
      refine hK.out _ _ ?_ (fun hHeld => ?_)
      · exact ⟨⟨X.out.cell 0, X.out.cell 1⟩, Y0.out, Y1.out⟩
      clear hK K'
      (try simp only [Act.put, List.setIfInBounds_toArray, List.set_cons_succ, List.set_cons_zero])
      refine wpAnyH_done (by kernel_rfl) ?_ _
      refine NoPanic.normal ?_
      clear hHeld
      go_wp2
      go_roundw
      case rel => first | exact ⟨k + 1, _, by omega, by go_num, K, X, Y, Z, D⟩ | exact ⟨k + 1, _, by omega, by omega, K, X, Y, Z, D⟩ | ((repeat apply Exists.intro); exact ⟨⟨k + 1, _, by omega, by go_num, K, X, Y, Z, D⟩, rfl⟩)
      case measure => simp [intOf]; omega
    · obtain rfl : k = S.sl.length := by omega
      rw [List.take_length] at D
      obtain ⟨Aw, cw, ew, _⟩ := D.out.c.form
      subst ew
      obtain ⟨z0, z1⟩ : wr.cell? ⟨g3, 0, none⟩ = some (.int .i64 S.ob) ∧ wr.cell? ⟨g3, 1, none⟩ = some (.slice Aw S.sl.length cw) := ⟨Z.out.cell 0, Z.out.cell 1⟩
      have y0 : wr.cell? ⟨g2, 0, none⟩ = some (.int .i64 0) := Y.out.cell 0
      have y1 : wr.cell? ⟨g2, 1, none⟩ = some (.slice none 0 0) := Y.out.cell 1
      have yf0 := Y.out.frozen 0
      have yf1 := Y.out.frozen 1
      have HGW := hide (show w.heap.size ≤ g2 by have h1 := HG1.out; have h2 := HG2.out; omega)
      go_wp2
      have E1 := (Y.out.put 0 (.int .i64 S.ob)).put 1 (.slice Aw S.sl.length cw)
      have KP1 := Kp.boxset Y.out HGW.out 0 (.int .i64 S.ob)
      have KP2 := Kp.boxset (Y.out.put 0 (.int .i64 S.ob)) HGW.out 1 (.slice Aw S.sl.length cw)
      refine ret_s1 (v := .slice Aw S.sl.length cw) (g := g2) (k := 2) (o := S.ob) rfl rfl rfl E1 ?_
      exact ⟨_, rfl, (D.out.kp KP1 (by decide) (by decide)).kp KP2 (by decide) (by decide), (K.out.trans KP1.below).trans KP2.below⟩
end Go.Proofs.Ytncjicggolmofaa.Sb
