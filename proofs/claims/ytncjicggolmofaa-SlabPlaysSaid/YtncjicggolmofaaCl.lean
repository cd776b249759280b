import Derived.Test.YtncjicggolmofaaKh
import Derived.RegionTactic
import Derived.BigRegion
import Derived.ChangeAlike
namespace Go.Proofs.Ytncjicggolmofaa.Sb
open Go Go.RowKit
set_option linter.unusedVariables false
theorem ret_c2 {fn : Func} {a : Act} {W : World} {g k : Nat} {x y : Value} {Q : Ending → World → Prop} (hr : fn.results = #[.cell k 24]) (h2 : a.tmps.getD k undef = .pointer (some ⟨g, 0, none⟩)) (hd : a.defers = [])
    (hE : Box W g 24 #[x, y]) (hq : Q (.returned (.agg #[x, y])) W) : bodyPost Try.prog fn Q .ret a W := by
  have c0 := hE.cell 0
  have c1 := hE.cell 1
  simp at c0 c1
  simp only [Array.getD_eq_getD_getElem?] at h2
  exact bodyPost_ret (v := .agg #[x, y]) (by simp [results, hr, h2, go_sem, c0, c1]) hd hq
theorem slc_is (w : World) : Slc (IsBs w) := fun v l h => by obtain ⟨A, c, e, _⟩ := h; exact ⟨A, c, e⟩
set_option maxRecDepth 100000 in
set_option maxHeartbeats 2000000 in
theorem clone_any (A : Option Addr) (cp : Nat) (S : Sc) (w : World) (hr : RdC w A S.sl) (hn : S.sl.length ≤ 1000) (hf : ∀ k, k < S.sl.length → (us S k).length ≤ 1000) : Calls Try.prog 40 #[.agg #[.int .i64 S.ob, .slice A S.sl.length cp]] w fun e w' => ∃ v, e = .returned (.agg #[.int .i64 S.ob, v]) ∧ OwnD w.heap.size w' v S.sl ∧ Below w.heap.size w w' := by
  obtain ⟨W1, hW1⟩ : ∃ W1, W1 = ((w.alloc (.cells #[.int .i64 S.ob, .slice A S.sl.length cp] 24)).alloc (.cells #[.int .i64 0, .slice none 0 0] 24)) := ⟨_, rfl⟩
  obtain ⟨g2, hg2⟩ : ∃ g2, g2 = w.heap.size := ⟨_, rfl⟩
  have X2 := hide (show Box W1 g2 24 #[.int .i64 S.ob, .slice A S.sl.length cp] by rw [hW1, hg2]; exact (Box.new w 24 _).more _)
  have X3 := hide (show Box W1 (g2 + 1) 24 #[.int .i64 0, .slice none 0 0] by rw [hW1, hg2]; exact Box.new2 _ _ _ _)
  have KF := hide (show Below w.heap.size w W1 by rw [hW1]; exact bal (bal (brefl w) _) _)
  have hsz : g2 + 2 ≤ W1.heap.size := by rw [hW1, hg2]; simp
  have HR := hide hr
  have x1 := X2.out.cell 1
  have f1 := X2.out.frozen 1
  simp at x1
  have SC := hide (sclone_any (IsBs w) (slc_is w) A S.sl cp W1 (hr.cp.below KF.out) hn)
  have HF := hide hf
  clear hr hf
  go_enter Try.func40, Try.ntmps40
  go_upto_region 1 with fail
  go_upto_region 2 with fail
  rw [← hW1]
  rw [← hg2]
  clear hW1
  refine SC.out.mono ?_
  rintro e w1 ⟨v, R, rfl, hR, hown, hP, hb⟩
  have Y2 := hide (X2.out.below hb)
  have Y3 := hide (X3.out.below hb)
  have K1 := hide (KF.out.trans (hb.mono KF.out.size))
  obtain ⟨Av, cv, rfl, _⟩ := row_form hown
  have hown2 := row_mono hown (show g2 + 2 ≤ W1.heap.size from hsz)
  have f2 := Y2.out.frozen 1
  have H0 := hide (HalfC.zero (w0 := w) hR hown2 hP)
  have hsz1 : W1.heap.size ≤ w1.heap.size := hb.size
  have o2 := Y2.out.cell 1
  simp at o2
  have Z2 := hide (show Box (w1.setCell ⟨g2, 1, none⟩ (.slice Av S.sl.length cv)) g2 24 #[.int .i64 S.ob, .slice Av S.sl.length cv] from Y2.out.put 1 _)
  have Z3 := hide (show Box (w1.setCell ⟨g2, 1, none⟩ (.slice Av S.sl.length cv)) (g2 + 1) 24 #[.int .i64 0, .slice none 0 0] from Y3.out.far (by omega) _)
  have K2 := hide (show Below w.heap.size w (w1.setCell ⟨g2, 1, none⟩ (.slice Av S.sl.length cv)) from bset K1.out (by show w.heap.size ≤ g2; omega) _)
  have H1 := hide (show HalfC (g2 + 2) w (w1.setCell ⟨g2, 1, none⟩ (.slice Av S.sl.length cv)) (.slice Av S.sl.length cv) S.sl 0 from HalfC.zero hR (ownsRow_setCell_below hown2 (show g2 < g2 + 2 by omega) _) hP)
  have z1 := Z2.out.cell 1
  simp at z1
  have HG := hide hg2
  have hgw : g2 + 2 ≤ w1.heap.size := by omega
  clear hR hown hP hb X2 X3 KF SC f1 x1 hown2 H0 Y2 Y3 K1 hg2 hsz hsz1
  dsimp only
  go_wp2
  have hg4 : w1.heap.size ≤ (w1.setCell ⟨g2, 1, none⟩ (.slice Av S.sl.length cv)).heap.size := by simp
  generalize w1.setCell ⟨g2, 1, none⟩ (.slice Av S.sl.length cv) = w2 at *
  have hgw2 : g2 + 2 ≤ w2.heap.size := by omega
  clear hg4 hgw o2 f2
  go_loopw [12] (fun i wr => ∃ k : Nat, k ≤ S.sl.length ∧ i = .int .i64 k ∧ Hid (Box wr g2 24 #[.int .i64 S.ob, .slice Av S.sl.length cv]) ∧ Hid (Box wr (g2 + 1) 24 #[.int .i64 0, .slice none 0 0]) ∧ Hid (Below w.heap.size w wr) ∧ Hid (HalfC (g2 + 2) w wr (.slice Av S.sl.length cv) S.sl k) ∧ Hid (g2 + 2 ≤ wr.heap.size)) (fun i _ => S.sl.length - (intOf i).toNat)
  case atStart => exact ⟨0, Nat.zero_le _, rfl, Z2, Z3, K2, H1, hide hgw2⟩
  case round =>
    clear Z2 Z3 K2 H1 hgw2 z1
    obtain ⟨k, hk, rfl, Z2, Z3, K, H, HZ⟩ := hrel
    have z1 := Z2.out.cell 1
    simp at z1
    by_cases hlt : k < S.sl.length
    · have hl2 : (k : Int) < (S.sl.length : Int) := by omega
      have hk0 : (0 : Int) ≤ (k : Int) := by omega
      obtain ⟨g, cc, ev, hBg, hgw⟩ := H.out.form hlt
      injection ev with ev _ ev2
      subst ev ev2
      obtain ⟨vu, c0, c1, fz, hvu⟩ := H.out.cells hlt
      have hbu2 := hvu
      obtain ⟨Au, cu, rfl, _, hbu⟩ := hvu
      clear hbu
      go_upto_region 5 with fail
      have KA := hide (show Below wr.heap.size wr (wr.alloc (.cells #[.int .i64 (cAt S.sl k).1, .slice Au (cAt S.sl k).2.length cu] 52)).drew from below_drewN (bal (brefl wr) _) 1)
      have X4 := hide (show Box (wr.alloc (.cells #[.int .i64 (cAt S.sl k).1, .slice Au (cAt S.sl k).2.length cu] 52)).drew wr.heap.size 52 #[.int .i64 (cAt S.sl k).1, .slice Au (cAt S.sl k).2.length cu] from (Box.new wr 52 _).below (below_drewN (brefl _) 1))
      obtain ⟨w3, hw3⟩ : ∃ w3, w3 = (wr.alloc (.cells #[.int .i64 (cAt S.sl k).1, .slice Au (cAt S.sl k).2.length cu] 52)).drew := ⟨_, rfl⟩
      rw [← hw3] at KA X4
      replace Z2 := hide (Z2.out.below KA.out)
      replace Z3 := hide (Z3.out.below KA.out)
      replace H := hide (H.out.below KA.out)
      have K3 := hide (K.out.trans (KA.out.mono K.out.size))
      have p0 := Z2.out.cell 1
      have p1 := X4.out.cell 1
      simp at p0 p1
      have CB := hide (bclone_any (.slice Au (cAt S.sl k).2.length cu) (cAt S.sl k).2 w3 (hbu2.below K3.out) (HF.out k hlt))
      unfold ByR at CB
      refine wp_region_noPanic ?_
      refine wp_region_held_drew (S := (fun W => W.cell? ⟨g2, 1, none⟩ = some (.slice (some ⟨g, 0, none⟩) S.sl.length cv) ∧ W.cell? ⟨wr.heap.size, 1, none⟩ = some (.slice Au (cAt S.sl k).2.length cu))) (by kernel_rfl) ?_ (fun hHeld => ?_)
      · rw [← hw3]; exact ⟨p0, p1⟩
      rw [← hw3] at hHeld ⊢
      clear hw3
      refine wpAnyH_take (i := 0) (oi := ⟨some 17, _, _, _, _, _⟩) (v := ?_) rfl (by kernel_rfl) (by kernel_rfl) (by kernel_rfl) (fun _ _ _ h => h) (Or.inl ⟨by kernel_rfl, ?_⟩) (by assumption) ?_
      rotate_left 1
      · (intro w hSw; obtain ⟨s0, s1⟩ := hSw; go_simp) <;> (with_reducible rfl)
      (try simp only [Act.put, List.setIfInBounds_toArray, List.set_cons_succ, List.set_cons_zero])
      refine wpAnyH_take (i := 1) (oi := ⟨some 18, _, _, _, _, _⟩) (v := ?_) rfl (by kernel_rfl) (by kernel_rfl) (by kernel_rfl) (fun _ _ _ h => h) (Or.inl ⟨by kernel_rfl, ?_⟩) (by assumption) ?_
      rotate_left 1
      · (intro w hSw; obtain ⟨s0, s1⟩ := hSw; go_simp) <;> (with_reducible rfl)
      (try simp only [Act.put, List.setIfInBounds_toArray, List.set_cons_succ, List.set_cons_zero])
      refine wpAnyH_take (i := 2) (oi := ⟨some 19, _, _, _, _, _⟩) (v := ?_) rfl (by kernel_rfl) (by kernel_rfl) (by kernel_rfl) (fun _ _ _ h => h) (Or.inl ⟨by kernel_rfl, ?_⟩) (by assumption) ?_
      rotate_left 1
      · (intro w hSw; obtain ⟨s0, s1⟩ := hSw; go_simp) <;> (with_reducible rfl)
      (try simp only [Act.put, List.setIfInBounds_toArray, List.set_cons_succ, List.set_cons_zero])
      refine wpAnyH_take (i := 3) (oi := ⟨some 20, _, _, _, _, _⟩) (v := ?_) rfl (by kernel_rfl) (by kernel_rfl) (by kernel_rfl) (fun _ _ _ h => h) (Or.inl ⟨by kernel_rfl, ?_⟩) (by assumption) ?_
      rotate_left 1
      · (intro w hSw; obtain ⟨s0, s1⟩ := hSw; go_simp) <;> (with_reducible rfl)
      (try simp only [Act.put, List.setIfInBounds_toArray, List.set_cons_succ, List.set_cons_zero])
      refine wpAnyH_take (i := 4) (oi := ⟨some 21, _, _, _, _, _⟩) (v := ?_) rfl (by kernel_rfl) (by kernel_rfl) (by kernel_rfl) (fun _ _ _ h => h) (Or.inl ⟨by kernel_rfl, ?_⟩) (by assumption) ?_
      rotate_left 1
      · (intro w hSw; obtain ⟨s0, s1⟩ := hSw; go_simp) <;> (with_reducible rfl)
      (try simp only [Act.put, List.setIfInBounds_toArray, List.set_cons_succ, List.set_cons_zero])
      refine wpAnyH_ready (rs := [5]) (by kernel_rfl) (by simp) ?_
      refine AllReadyH.cons (o := ⟨some 22, _, _, _, _, _⟩) rfl (fun K' hK => ?_) AllReadyH.nil
      go_simp
      refine CB.out.mono ?_
      rintro e w4 ⟨v4, rfl, ho4, hb4⟩
      obtain ⟨A4, c4, rfl, _⟩ := row_form ho4
      have HN := hide (HalfC.step H.out hb4 (Nat.le_trans HZ.out KA.out.size) hlt ho4)
      replace Z2 := hide (Z2.out.below hb4)
      replace Z3 := hide (Z3.out.below hb4)
      replace H := hide (H.out.below hb4)
      replace X4 := hide (X4.out.below hb4)
      replace K3 := hide (K3.out.trans (hb4.mono K3.out.size))
      have q0 := Z2.out.cell 1
      have q1 := X4.out.cell 1
      simp at q0 q1
      obtain ⟨_, _, c3, f3, _⟩ := H.out.cells hlt
      have hgn2 : g ≠ g2 := by omega
      have hgn3 : g ≠ g2 + 1 := by omega
      have hgn4 : g ≠ wr.heap.size := by omega
      have HS4 := hide (Nat.le_trans HZ.out (Nat.le_trans KA.out.size hb4.size))
      clear ho4 hb4 CB
      refine hK.out _ _ ?_ (fun hHeld => ?_)
      · exact ⟨q0, q1⟩
      clear hK K'
      (try simp only [Act.put, List.setIfInBounds_toArray, List.set_cons_succ, List.set_cons_zero])
      refine wpAnyH_take (i := 6) (oi := ⟨some 23, _, _, _, _, _⟩) (v := ?_) rfl (by kernel_rfl) (by kernel_rfl) (by kernel_rfl) (fun _ _ _ h => h) (Or.inl ⟨by kernel_rfl, ?_⟩) (by assumption) ?_
      rotate_left 1
      · (intro w hSw; obtain ⟨s0, s1⟩ := hSw; go_simp) <;> (with_reducible rfl)
      (try simp only [Act.put, List.setIfInBounds_toArray, List.set_cons_succ, List.set_cons_zero])
      refine wpAnyH_take (i := 7) (oi := ⟨some 24, _, _, _, _, _⟩) (v := ?_) rfl (by kernel_rfl) (by kernel_rfl) (by kernel_rfl) (fun _ _ _ h => h) (Or.inl ⟨by kernel_rfl, ?_⟩) (by assumption) ?_
      rotate_left 1
      · (intro w hSw; obtain ⟨s0, s1⟩ := hSw; go_simp) <;> (with_reducible rfl)
      (try simp only [Act.put, List.setIfInBounds_toArray, List.set_cons_succ, List.set_cons_zero])
      refine wpAnyH_ready (rs := [8]) (by kernel_rfl) (by simp) ?_
      refine AllReadyH.cons (o := ⟨none, _, _, _, _, _⟩) rfl (fun K' hK => ?_) AllReadyH.nil
      go_simp
      have Z2b := hide (Z2.out.far hgn2.symm (.slice A4 (cAt S.sl k).2.length c4) (i := k * 2 + 1))
      have Z3b := hide (Z3.out.far hgn3.symm (.slice A4 (cAt S.sl k).2.length c4) (i := k * 2 + 1))
      have X4b := hide (X4.out.far hgn4.symm (.slice A4 (cAt S.sl k).2.length c4) (i := k * 2 + 1))
      have K5 := hide (bset K3.out (p := ⟨g, k * 2 + 1, none⟩) (by show w.heap.size ≤ g; have := HG.out; omega) (.slice A4 (cAt S.sl k).2.length c4))
      have HS5 := hide (show g2 + 2 ≤ (w4.setCell ⟨g, k * 2 + 1, none⟩ (.slice A4 (cAt S.sl k).2.length c4)).heap.size by simpa using HS4.out)
      have r0 := Z2b.out.cell 1
      have r1 := X4b.out.cell 1
      simp at r0 r1
      refine hK.out _ _ ?_ (fun hHeld => ?_)
      · exact ⟨r0, r1⟩
      clear hK K'
      (try simp only [Act.put, List.setIfInBounds_toArray, List.set_cons_succ, List.set_cons_zero])
      refine wpAnyH_done (by kernel_rfl) ?_ _
      refine NoPanic.normal ?_
      clear Z2 Z3 X4 K3 H K KA q0 q1 p0 p1 c3 f3 hHeld r0 r1
      generalize w4.setCell ⟨g, k * 2 + 1, none⟩ (.slice A4 (cAt S.sl k).2.length c4) = w5 at *
      go_wp2
      go_roundw
      case rel => first | exact ⟨k + 1, by omega, by go_num, Z2b, Z3b, K5, HN, HS5⟩ | ((repeat apply Exists.intro); exact ⟨⟨k + 1, by omega, by go_num, Z2b, Z3b, K5, HN, HS5⟩, rfl⟩)
      case measure => simp [intOf]; omega
    · obtain rfl : k = S.sl.length := by omega
      have OW := hide H.out.done
      have z0 := Z2.out.cell 0
      simp at z0
      have y0 := Z3.out.cell 0
      have y1 := Z3.out.cell 1
      have yf0 := Z3.out.frozen 0
      have yf1 := Z3.out.frozen 1
      simp at y0 y1
      go_wp2
      have E1 := Z3.out.put 0 (.int .i64 S.ob)
      have E2 := E1.put 1 (.slice Av S.sl.length cv)
      refine ret_c2 (x := .int .i64 S.ob) (y := .slice Av S.sl.length cv) (g := g2 + 1) (k := 2) rfl rfl rfl E2 ⟨_, rfl, ?_, ?_⟩
      · have o1 := OW.out.kp (Kp.boxset Z3.out (show g2 ≤ g2 + 1 by omega) 0 (.int .i64 S.ob)) (by decide) (by decide)
        have o2 := o1.kp (Kp.boxset E1 (show g2 ≤ g2 + 1 by omega) 1 (.slice Av S.sl.length cv)) (by decide) (by decide)
        exact o2.mono (by have := HG.out; omega)
      · exact bset (bset K.out (by show w.heap.size ≤ g2 + 1; have := HG.out; omega) _) (by show w.heap.size ≤ g2 + 1; have := HG.out; omega) _
end Go.Proofs.Ytncjicggolmofaa.Sb
