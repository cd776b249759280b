import Derived.Test.YtnegigcjeoenmaaAw0
import Derived.Deep.DeepCutAuto
namespace Go.Proofs.Ytnegigcjeoenmaa.Dv
open Go Go.RowKit
set_option linter.unusedVariables false
theorem bs_own {w : World} {A : Option Addr} {l : By} {n c : Nat} (h : OwnBy w (.slice A n c) l) : Bs w A l := by
  obtain ⟨A2, c2, e, _, h2⟩ := h.is
  injection e with e1 e2 e3
  rw [e1]
  exact h2
set_option maxHeartbeats 800000 in
set_option maxRecDepth 100000 in
theorem awake_any (w : World) : Calls Try.prog 11 #[] w fun e w' => e = .returned (.bool true) ∧ Below w.heap.size w w' := by
  have C1 : Hid (Calls Try.prog 35 #[.int .i64 2] w (BsR L2 w)) := hide (blocks_any 2 (by omega) w)
  unfold BsR at C1
  have l0 : A0.bl.length = 2 := by kernel_rfl
  go_enter Try.func11, Try.ntmps11
  go_wp2_with fail
  refine C1.out.mono ?_
  rintro e w1 ⟨v, rfl, hv, hb⟩
  obtain ⟨A, c, rfl, hc⟩ := hv.form
  have K1 := hide hb
  have C2 := hide (new_any 2 A L2 c w1 hv.rd hc (by decide))
  unfold DvR2 at C2
  rw [if_pos e_nw, e_nw] at C2
  clear hv hc hb C1
  go_wp2_with fail
  refine C2.out.mono ?_
  rintro e w2 ⟨v2, rfl, ho, hb2⟩
  have ho : DevOwn w1.heap.size w2 v2 A0 := ho
  obtain ⟨vb, vc, vq, rfl, ob, oc, oq⟩ := ho
  obtain ⟨E1, g1, rfl, _⟩ := ob.form
  obtain ⟨E2, g2, rfl, _⟩ := oc.form
  obtain ⟨E3, g3, rfl, _⟩ := oq.form
  have K2 := hide (btrans K1.out hb2)
  rw [l0] at ob ⊢
  go_upto_region 2 with fail
  have OB := hide ((ob.mono K1.out.size).below (bal (brefl w2) (.cells #[.int .i64 A0.dep, .int .i64 A0.nxt, .slice E1 2 g1, .slice E2 A0.ca.length g2, .slice E3 A0.qu.length g3] 28)))
  have OC := hide ((oc.mono K1.out.size).below (bal (brefl w2) (.cells #[.int .i64 A0.dep, .int .i64 A0.nxt, .slice E1 2 g1, .slice E2 A0.ca.length g2, .slice E3 A0.qu.length g3] 28)))
  have OQ := hide ((oq.mono K1.out.size).below (bal (brefl w2) (.cells #[.int .i64 A0.dep, .int .i64 A0.nxt, .slice E1 2 g1, .slice E2 A0.ca.length g2, .slice E3 A0.qu.length g3] 28)))
  have BX := hide (Box.new w2 28 #[.int .i64 A0.dep, .int .i64 A0.nxt, .slice E1 2 g1, .slice E2 A0.ca.length g2, .slice E3 A0.qu.length g3])
  have K3 := hide (bal K2.out (.cells #[.int .i64 A0.dep, .int .i64 A0.nxt, .slice E1 2 g1, .slice E2 A0.ca.length g2, .slice E3 A0.qu.length g3] 28))
  obtain ⟨g, hg⟩ : ∃ g, g = w2.heap.size := ⟨_, rfl⟩
  have HG := hide (show w.heap.size ≤ g by rw [hg]; exact K2.out.size)
  rw [← hg] at BX ⊢
  generalize w2.alloc (.cells #[.int .i64 A0.dep, .int .i64 A0.nxt, .slice E1 2 g1, .slice E2 A0.ca.length g2, .slice E3 A0.qu.length g3] 28) = w3 at *
  clear hg ob oc oq hb2 C2 K2 K1
  obtain ⟨x0, x1, x2, x3, x4⟩ := box5_cells (W' := w3) BX.out
  go_upto_region 4 with fail
  clear x0 x1 x2 x3 x4
  have CP := hide (fun W => page_any 1 W)
  unfold ByR at CP
  go_cut [2, 3] (fun s2 s3 wx => s2 = .int .i64 0 ∧ s3 = .int .i64 0 ∧ Hid (DevAt w.heap.size wx g A1) ∧ Hid (Below w.heap.size w wx))
  case first =>
    refine wp_region_noPanic ?_
    refine wp_region_held_drew (S := (fun _ => True)) (by kernel_rfl) ?_ (fun hHeld => ?_)
    · trivial
    have KK := hide (btrans K3.out (below_drew (brefl w3)))
    replace BX := hide (BX.out.below (below_drew (brefl w3)))
    replace OB := hide (OB.out.below (below_drew (brefl w3)))
    replace OC := hide (OC.out.below (below_drew (brefl w3)))
    replace OQ := hide (OQ.out.below (below_drew (brefl w3)))
    generalize w3.drew = wa at *
    refine wpAnyH_ready (rs := [0, 1]) (by kernel_rfl) (by simp) ?_
    refine AllReadyH.cons (o := ⟨some 20, _, _, _, _, _⟩) rfl (fun K' hK => ?_) ?_
    · obtain ⟨x0, x1, x2, x3, x4⟩ := box5_cells (W' := w) BX.out
      go_simp
      clear x0 x1 x2 x3 x4
      refine hK.out _ _ ?_ (fun hHeld => ?_)
      · trivial
      clear hK K'
      (try simp only [Act.put, List.setIfInBounds_toArray, List.set_cons_succ, List.set_cons_zero])
      refine wpAnyH_ready (rs := [1]) (by kernel_rfl) (by simp) ?_
      refine AllReadyH.cons (o := ⟨some 21, _, _, _, _, _⟩) rfl (fun K' hK => ?_) AllReadyH.nil
      go_simp
      refine (CP.out _).mono ?_
      rintro e wlc ⟨u, rfl, hu, hb⟩
      obtain ⟨A3, d3, rfl⟩ := hu.form
      have HU := hide hu
      replace BX := hide (BX.out.below hb)
      replace KK := hide (btrans KK.out hb)
      replace OB := hide (OB.out.below hb)
      replace OC := hide (OC.out.below hb)
      replace OQ := hide (OQ.out.below hb)
      clear hu hb
      refine hK.out _ _ ?_ (fun hHeld => ?_)
      · trivial
      clear hK K'
      (try simp only [Act.put, List.setIfInBounds_toArray, List.set_cons_succ, List.set_cons_zero])
      refine wpAnyH_ready (rs := [2]) (by kernel_rfl) (by simp) ?_
      refine AllReadyH.cons (o := ⟨some 22, _, _, _, _, _⟩) rfl (fun K' hK => ?_) AllReadyH.nil
      have CS := hide (submit_any _ A0 2 1 _ (pg 1) _ (DevOwn.is (B := w.heap.size) ⟨_, _, _, rfl, OB.out, OC.out, OQ.out⟩) big_0 HU.out.is)
      unfold DvR3 at CS
      rw [if_pos e_sb, if_pos e_sb, e_sb] at CS
      go_simp
      refine CS.out.mono ?_
      rintro e wlcd ⟨v2, rfl, ho, hb⟩
      clear CS
      obtain ⟨vb2, vc2, vq2, rfl, ob2, oc2, oq2⟩ := ho
      obtain ⟨F1, f1, rfl, _⟩ := ob2.form
      obtain ⟨F2, f2, rfl, _⟩ := oc2.form
      obtain ⟨F3, f3, rfl, _⟩ := oq2.form
      have NB := hide (ob2.mono KK.out.size)
      have NC := hide (oc2.mono KK.out.size)
      have NQ := hide (oq2.mono KK.out.size)
      replace BX := hide (BX.out.below hb)
      replace KK := hide (btrans KK.out hb)
      replace OB := hide (OB.out.below hb)
      replace OC := hide (OC.out.below hb)
      replace OQ := hide (OQ.out.below hb)
      replace HU := hide (HU.out.below hb)
      clear hb ob2 oc2 oq2
      refine hK.out _ _ ?_ (fun hHeld => ?_)
      · trivial
      clear hK K'
      (try simp only [Act.put, List.setIfInBounds_toArray, List.set_cons_succ, List.set_cons_zero])
      refine wpAnyH_take (i := 3) (oi := ⟨some 19, _, _, _, _, _⟩) (v := ?_) rfl (by kernel_rfl) (by kernel_rfl) (by kernel_rfl) (fun _ _ _ h => h) (Or.inl ⟨by kernel_rfl, ?_⟩) (by assumption) ?_
      rotate_left 1
      · (intro w hSw; (try dsimp only at hSw); go_simp) <;> (with_reducible rfl)
      (try simp only [Act.put, List.setIfInBounds_toArray, List.set_cons_succ, List.set_cons_zero])
      refine wpAnyH_take (i := 4) (oi := ⟨some 23, _, _, _, _, _⟩) (v := ?_) rfl (by kernel_rfl) (by kernel_rfl) (by kernel_rfl) (fun _ _ _ h => h) (Or.inl ⟨by kernel_rfl, ?_⟩) (by assumption) ?_
      rotate_left 1
      · (intro w hSw; (try dsimp only at hSw); go_simp) <;> (with_reducible rfl)
      (try simp only [Act.put, List.setIfInBounds_toArray, List.set_cons_succ, List.set_cons_zero])
      refine wpAnyH_take (i := 5) (oi := ⟨some 24, _, _, _, _, _⟩) (v := ?_) rfl (by kernel_rfl) (by kernel_rfl) (by kernel_rfl) (fun _ _ _ h => h) (Or.inl ⟨by kernel_rfl, ?_⟩) (by assumption) ?_
      rotate_left 1
      · (intro w hSw; (try dsimp only at hSw); go_simp) <;> (with_reducible rfl)
      (try simp only [Act.put, List.setIfInBounds_toArray, List.set_cons_succ, List.set_cons_zero])
      refine wpAnyH_take (i := 6) (oi := ⟨some 25, _, _, _, _, _⟩) (v := ?_) rfl (by kernel_rfl) (by kernel_rfl) (by kernel_rfl) (fun _ _ _ h => h) (Or.inl ⟨by kernel_rfl, ?_⟩) (by assumption) ?_
      rotate_left 1
      · (intro w hSw; (try dsimp only at hSw); go_simp) <;> (with_reducible rfl)
      (try simp only [Act.put, List.setIfInBounds_toArray, List.set_cons_succ, List.set_cons_zero])
      refine wpAnyH_ready (rs := [7]) (by kernel_rfl) (by simp) ?_
      refine AllReadyH.cons (o := ⟨none, _, _, _, _, _⟩) rfl (fun K' hK => ?_) AllReadyH.nil
      obtain ⟨b0, b1, b2, b3, b4⟩ := box5_cells (W' := w) BX.out
      have fb0 := BX.out.frozen 0
      have fb1 := BX.out.frozen 1
      have fb2 := BX.out.frozen 2
      have fb3 := BX.out.frozen 3
      have fb4 := BX.out.frozen 4
      go_simp
      have KS := hide (kp_set5 (B := w.heap.size) BX.out HG.out (.int .i64 (sbD A0 2 1 (pg 1)).dep) (.int .i64 (sbD A0 2 1 (pg 1)).nxt) (.slice F1 (sbD A0 2 1 (pg 1)).bl.length f1) (.slice F2 (sbD A0 2 1 (pg 1)).ca.length f2) (.slice F3 (sbD A0 2 1 (pg 1)).qu.length f3))
      replace NB := hide (NB.out.kp KS.out (by decide) (by decide))
      replace NC := hide (NC.out.kp KS.out (by decide) (by decide))
      replace NQ := hide (NQ.out.kp KS.out (by decide) (by decide))
      replace BX := hide (BX.out.set5 (.int .i64 (sbD A0 2 1 (pg 1)).dep) (.int .i64 (sbD A0 2 1 (pg 1)).nxt) (.slice F1 (sbD A0 2 1 (pg 1)).bl.length f1) (.slice F2 (sbD A0 2 1 (pg 1)).ca.length f2) (.slice F3 (sbD A0 2 1 (pg 1)).qu.length f3))
      replace KK := hide (KK.out.trans KS.out.below)
      have DA := hide (show DevAt w.heap.size _ g A1 from ⟨_, _, _, BX.out, NB.out, NC.out, NQ.out⟩)
      clear b0 b1 b2 b3 b4 fb0 fb1 fb2 fb3 fb4 KS BX NB NC NQ
      refine hK.out _ _ ?_ (fun hHeld => ?_)
      · trivial
      clear hK K'
      (try simp only [Act.put, List.setIfInBounds_toArray, List.set_cons_succ, List.set_cons_zero])
      refine wpAnyH_take (i := 8) (oi := ⟨some 3, _, _, _, _, _⟩) (v := ?_) rfl (by kernel_rfl) (by kernel_rfl) (by kernel_rfl) (fun _ _ _ h => h) (Or.inl ⟨by kernel_rfl, ?_⟩) (by assumption) ?_
      rotate_left 1
      · (intro w hSw; (try dsimp only at hSw); go_simp) <;> (with_reducible rfl)
      (try simp only [Act.put, List.setIfInBounds_toArray, List.set_cons_succ, List.set_cons_zero])
      refine wpAnyH_take (i := 9) (oi := ⟨some 2, _, _, _, _, _⟩) (v := ?_) rfl (by kernel_rfl) (by kernel_rfl) (by kernel_rfl) (fun _ _ _ h => h) (Or.inl ⟨by kernel_rfl, ?_⟩) (by assumption) ?_
      rotate_left 1
      · (intro w hSw; (try dsimp only at hSw); go_simp) <;> (with_reducible rfl)
      (try simp only [Act.put, List.setIfInBounds_toArray, List.set_cons_succ, List.set_cons_zero])
      refine wpAnyH_done (by kernel_rfl) ?_ _
      refine NoPanic.normal ?_
      go_wp2_with fail
      go_meet
      exact ⟨rfl, rfl, DA, KK⟩
    refine AllReadyH.cons (o := ⟨some 21, _, _, _, _, _⟩) rfl (fun K' hK => ?_) AllReadyH.nil
    go_simp
    refine (CP.out _).mono ?_
    rintro e wc ⟨u, rfl, hu, hb⟩
    obtain ⟨A3, d3, rfl⟩ := hu.form
    have HU := hide hu
    replace BX := hide (BX.out.below hb)
    replace KK := hide (btrans KK.out hb)
    replace OB := hide (OB.out.below hb)
    replace OC := hide (OC.out.below hb)
    replace OQ := hide (OQ.out.below hb)
    clear hu hb
    refine hK.out _ _ ?_ (fun hHeld => ?_)
    · trivial
    clear hK K'
    (try simp only [Act.put, List.setIfInBounds_toArray, List.set_cons_succ, List.set_cons_zero])
    refine wpAnyH_ready (rs := [0]) (by kernel_rfl) (by simp) ?_
    refine AllReadyH.cons (o := ⟨some 20, _, _, _, _, _⟩) rfl (fun K' hK => ?_) AllReadyH.nil
    obtain ⟨x0, x1, x2, x3, x4⟩ := box5_cells (W' := w) BX.out
    go_simp
    clear x0 x1 x2 x3 x4
    refine hK.out _ _ ?_ (fun hHeld => ?_)
    · trivial
    clear hK K'
    (try simp only [Act.put, List.setIfInBounds_toArray, List.set_cons_succ, List.set_cons_zero])
    refine wpAnyH_ready (rs := [2]) (by kernel_rfl) (by simp) ?_
    refine AllReadyH.cons (o := ⟨some 22, _, _, _, _, _⟩) rfl (fun K' hK => ?_) AllReadyH.nil
    have CS := hide (submit_any _ A0 2 1 _ (pg 1) _ (DevOwn.is (B := w.heap.size) ⟨_, _, _, rfl, OB.out, OC.out, OQ.out⟩) big_0 HU.out.is)
    unfold DvR3 at CS
    rw [if_pos e_sb, if_pos e_sb, e_sb] at CS
    go_simp
    refine CS.out.mono ?_
    rintro e wcld ⟨v2, rfl, ho, hb⟩
    clear CS
    obtain ⟨vb2, vc2, vq2, rfl, ob2, oc2, oq2⟩ := ho
    obtain ⟨F1, f1, rfl, _⟩ := ob2.form
    obtain ⟨F2, f2, rfl, _⟩ := oc2.form
    obtain ⟨F3, f3, rfl, _⟩ := oq2.form
    have NB := hide (ob2.mono KK.out.size)
    have NC := hide (oc2.mono KK.out.size)
    have NQ := hide (oq2.mono KK.out.size)
    replace BX := hide (BX.out.below hb)
    replace KK := hide (btrans KK.out hb)
    replace OB := hide (OB.out.below hb)
    replace OC := hide (OC.out.below hb)
    replace OQ := hide (OQ.out.below hb)
    replace HU := hide (HU.out.below hb)
    clear hb ob2 oc2 oq2
    refine hK.out _ _ ?_ (fun hHeld => ?_)
    · trivial
    clear hK K'
    (try simp only [Act.put, List.setIfInBounds_toArray, List.set_cons_succ, List.set_cons_zero])
    refine wpAnyH_take (i := 3) (oi := ⟨some 19, _, _, _, _, _⟩) (v := ?_) rfl (by kernel_rfl) (by kernel_rfl) (by kernel_rfl) (fun _ _ _ h => h) (Or.inl ⟨by kernel_rfl, ?_⟩) (by assumption) ?_
    rotate_left 1
    · (intro w hSw; (try dsimp only at hSw); go_simp) <;> (with_reducible rfl)
    (try simp only [Act.put, List.setIfInBounds_toArray, List.set_cons_succ, List.set_cons_zero])
    refine wpAnyH_take (i := 4) (oi := ⟨some 23, _, _, _, _, _⟩) (v := ?_) rfl (by kernel_rfl) (by kernel_rfl) (by kernel_rfl) (fun _ _ _ h => h) (Or.inl ⟨by kernel_rfl, ?_⟩) (by assumption) ?_
    rotate_left 1
    · (intro w hSw; (try dsimp only at hSw); go_simp) <;> (with_reducible rfl)
    (try simp only [Act.put, List.setIfInBounds_toArray, List.set_cons_succ, List.set_cons_zero])
    refine wpAnyH_take (i := 5) (oi := ⟨some 24, _, _, _, _, _⟩) (v := ?_) rfl (by kernel_rfl) (by kernel_rfl) (by kernel_rfl) (fun _ _ _ h => h) (Or.inl ⟨by kernel_rfl, ?_⟩) (by assumption) ?_
    rotate_left 1
    · (intro w hSw; (try dsimp only at hSw); go_simp) <;> (with_reducible rfl)
    (try simp only [Act.put, List.setIfInBounds_toArray, List.set_cons_succ, List.set_cons_zero])
    refine wpAnyH_take (i := 6) (oi := ⟨some 25, _, _, _, _, _⟩) (v := ?_) rfl (by kernel_rfl) (by kernel_rfl) (by kernel_rfl) (fun _ _ _ h => h) (Or.inl ⟨by kernel_rfl, ?_⟩) (by assumption) ?_
    rotate_left 1
    · (intro w hSw; (try dsimp only at hSw); go_simp) <;> (with_reducible rfl)
    (try simp only [Act.put, List.setIfInBounds_toArray, List.set_cons_succ, List.set_cons_zero])
    refine wpAnyH_ready (rs := [7]) (by kernel_rfl) (by simp) ?_
    refine AllReadyH.cons (o := ⟨none, _, _, _, _, _⟩) rfl (fun K' hK => ?_) AllReadyH.nil
    obtain ⟨b0, b1, b2, b3, b4⟩ := box5_cells (W' := w) BX.out
    have fb0 := BX.out.frozen 0
    have fb1 := BX.out.frozen 1
    have fb2 := BX.out.frozen 2
    have fb3 := BX.out.frozen 3
    have fb4 := BX.out.frozen 4
    go_simp
    have KS := hide (kp_set5 (B := w.heap.size) BX.out HG.out (.int .i64 (sbD A0 2 1 (pg 1)).dep) (.int .i64 (sbD A0 2 1 (pg 1)).nxt) (.slice F1 (sbD A0 2 1 (pg 1)).bl.length f1) (.slice F2 (sbD A0 2 1 (pg 1)).ca.length f2) (.slice F3 (sbD A0 2 1 (pg 1)).qu.length f3))
    replace NB := hide (NB.out.kp KS.out (by decide) (by decide))
    replace NC := hide (NC.out.kp KS.out (by decide) (by decide))
    replace NQ := hide (NQ.out.kp KS.out (by decide) (by decide))
    replace BX := hide (BX.out.set5 (.int .i64 (sbD A0 2 1 (pg 1)).dep) (.int .i64 (sbD A0 2 1 (pg 1)).nxt) (.slice F1 (sbD A0 2 1 (pg 1)).bl.length f1) (.slice F2 (sbD A0 2 1 (pg 1)).ca.length f2) (.slice F3 (sbD A0 2 1 (pg 1)).qu.length f3))
    replace KK := hide (KK.out.trans KS.out.below)
    have DA := hide (show DevAt w.heap.size _ g A1 from ⟨_, _, _, BX.out, NB.out, NC.out, NQ.out⟩)
    clear b0 b1 b2 b3 b4 fb0 fb1 fb2 fb3 fb4 KS BX NB NC NQ
    refine hK.out _ _ ?_ (fun hHeld => ?_)
    · trivial
    clear hK K'
    (try simp only [Act.put, List.setIfInBounds_toArray, List.set_cons_succ, List.set_cons_zero])
    refine wpAnyH_take (i := 8) (oi := ⟨some 3, _, _, _, _, _⟩) (v := ?_) rfl (by kernel_rfl) (by kernel_rfl) (by kernel_rfl) (fun _ _ _ h => h) (Or.inl ⟨by kernel_rfl, ?_⟩) (by assumption) ?_
    rotate_left 1
    · (intro w hSw; (try dsimp only at hSw); go_simp) <;> (with_reducible rfl)
    (try simp only [Act.put, List.setIfInBounds_toArray, List.set_cons_succ, List.set_cons_zero])
    refine wpAnyH_take (i := 9) (oi := ⟨some 2, _, _, _, _, _⟩) (v := ?_) rfl (by kernel_rfl) (by kernel_rfl) (by kernel_rfl) (fun _ _ _ h => h) (Or.inl ⟨by kernel_rfl, ?_⟩) (by assumption) ?_
    rotate_left 1
    · (intro w hSw; (try dsimp only at hSw); go_simp) <;> (with_reducible rfl)
    (try simp only [Act.put, List.setIfInBounds_toArray, List.set_cons_succ, List.set_cons_zero])
    refine wpAnyH_done (by kernel_rfl) ?_ _
    refine NoPanic.normal ?_
    go_wp2_with fail
    go_meet
    exact ⟨rfl, rfl, DA, KK⟩
  case rest =>
    obtain ⟨rfl, rfl, DA, KK⟩ := hcut
    clear CP BX OB OC OQ K3 ho
    obtain ⟨vb, vc, vq, bx, ob, oc, oq⟩ := DA.out
    obtain ⟨F1, f1, rfl, _⟩ := ob.form
    obtain ⟨F2, f2, rfl, _⟩ := oc.form
    obtain ⟨F3, f3, rfl, _⟩ := oq.form
    have l1 : A1.qu.length = 1 := by kernel_rfl
    rw [l1] at bx oq
    have IN := hide (DevOwn.is (B := w.heap.size) (w := wc) (D := A1) ⟨_, _, _, rfl, ob, oc, oq⟩)
    have CC : Hid (Calls Try.prog 25 #[.agg #[.int .i64 A1.dep, .int .i64 A1.nxt, .slice F1 A1.bl.length f1, .slice F2 A1.ca.length f2, .slice F3 1 f3], .int .i64 0, .bool true] wc (DqR A2 (0, 2, 1, pg 1) 0 wc)) := hide (by
      have := complete_end _ A1 0 0 1 (pg 1) wc IN.out big_1 e_c1 (by decide) e_q e_hit e_cap
      rw [e_a2] at this
      exact this)
    unfold DqR at CC
    obtain ⟨x0, x1, x2, x3, x4⟩ := box5_cells (W' := wc) bx
    have BX := hide bx
    clear bx ob oc oq DA IN
    go_wp2_with fail
    refine CC.out.mono ?_
    rintro e w4 ⟨v2, u, rfl, ho, hu, hb⟩
    obtain ⟨vb, vc, vq, rfl, ob, oc, oq⟩ := ho
    obtain ⟨E1, g1, rfl, _⟩ := ob.form
    obtain ⟨E2, g2, rfl, _⟩ := oc.form
    obtain ⟨E3, g3, rfl, _⟩ := oq.form
    obtain ⟨A3, d3, rfl⟩ := hu.form
    have BX4 := hide ((BX.out.below hb).more (.cells #[.int .i64 0, .int .i64 0, .int .i64 0, .slice none 0 0] 39))
    have K4 := hide (btrans KK.out hb)
    have OB := hide (ob.mono KK.out.size)
    have OC := hide (oc.mono KK.out.size)
    have OQ := hide (oq.mono KK.out.size)
    have HU := hide hu
    obtain ⟨y0, y1, y2, y3, y4⟩ := box5_cells (W' := w) BX4.out
    have fb0 := BX4.out.frozen 0
    have fb1 := BX4.out.frozen 1
    have fb2 := BX4.out.frozen 2
    have fb3 := BX4.out.frozen 3
    have fb4 := BX4.out.frozen 4
    have KS := hide (kp_set5 (B := w.heap.size) BX4.out HG.out (.int .i64 A2.dep) (.int .i64 A2.nxt) (.slice E1 A2.bl.length g1) (.slice E2 A2.ca.length g2) (.slice E3 A2.qu.length g3))
    have ZB := hide ((Box.new w4 39 #[.int .i64 0, .int .i64 0, .int .i64 0, .slice none 0 0]).kp KS.out (by decide))
    obtain ⟨z0, z1, z2, z3⟩ := box4_cells ZB.out
    have fz0 := ZB.out.frozen 0
    have fz1 := ZB.out.frozen 1
    have fz2 := ZB.out.frozen 2
    have fz3 := ZB.out.frozen 3
    have HNE := hide (show g ≠ w4.heap.size from Nat.ne_of_lt (BX.out.below hb).lt)
    have NE := hide (row_own_lt OQ.out.choose_spec.2.1 (Nat.le_refl _))
    clear x0 x1 x2 x3 x4 ob oc oq hu hb CC
    go_upto_region 8 with fail
    have KT := hide (KpB.set4 ((((((w4.alloc (.cells #[.int .i64 0, .int .i64 0, .int .i64 0, .slice none 0 0] 39)).setCell ⟨g, 0, none⟩ (.int .i64 A2.dep)).setCell ⟨g, 1, none⟩ (.int .i64 A2.nxt)).setCell ⟨g, 2, none⟩ (.slice E1 A2.bl.length g1)).setCell ⟨g, 3, none⟩ (.slice E2 A2.ca.length g2)).setCell ⟨g, 4, none⟩ (.slice E3 A2.qu.length g3)) w4.heap.size (.int .i64 0) (.int .i64 2) (.int .i64 1) (.slice A3 (pg 1).length d3))
    have M := bal (brefl w4) (.cells #[.int .i64 0, .int .i64 0, .int .i64 0, .slice none 0 0] 39)
    have BX8 := hide ((BX4.out.set5 (.int .i64 A2.dep) (.int .i64 A2.nxt) (.slice E1 A2.bl.length g1) (.slice E2 A2.ca.length g2) (.slice E3 A2.qu.length g3)).kb KT.out HNE.out)
    have RB8 := hide (ZB.out.set4 (.int .i64 0) (.int .i64 2) (.int .i64 1) (.slice A3 (pg 1).length d3))
    have OB8 := hide (((OB.out.below M).kp KS.out (by decide) (by decide)).kb KT.out ZB.out (by decide) (by decide))
    have OC8 := hide (((OC.out.below M).kp KS.out (by decide) (by decide)).kb KT.out ZB.out (by decide) (by decide))
    have OQ8 := hide (((OQ.out.below M).kp KS.out (by decide) (by decide)).kb KT.out ZB.out (by decide) NE.out)
    have K8 := hide (below_set4 (hh := w4.heap.size) (x0 := .int .i64 0) (x1 := .int .i64 2) (x2 := .int .i64 1) (x3 := .slice A3 (pg 1).length d3) ((bal K4.out (.cells #[.int .i64 0, .int .i64 0, .int .i64 0, .slice none 0 0] 39)).trans KS.out.below) K4.out.size)
    clear y0 y1 y2 y3 y4 fb0 fb1 fb2 fb3 fb4 z0 z1 z2 z3 fz0 fz1 fz2 fz3 KS KT M BX4 ZB OB OC OQ HNE NE HU
    obtain ⟨w8, hw8⟩ : ∃ w8, w8 = ((((((((((w4.alloc (.cells #[.int .i64 0, .int .i64 0, .int .i64 0, .slice none 0 0] 39)).setCell ⟨g, 0, none⟩ (.int .i64 A2.dep)).setCell ⟨g, 1, none⟩ (.int .i64 A2.nxt)).setCell ⟨g, 2, none⟩ (.slice E1 A2.bl.length g1)).setCell ⟨g, 3, none⟩ (.slice E2 A2.ca.length g2)).setCell ⟨g, 4, none⟩ (.slice E3 A2.qu.length g3)).setCell ⟨w4.heap.size, 0, none⟩ (.int .i64 0)).setCell ⟨w4.heap.size, 1, none⟩ (.int .i64 2)).setCell ⟨w4.heap.size, 2, none⟩ (.int .i64 1)).setCell ⟨w4.heap.size, 3, none⟩ (.slice A3 (pg 1).length d3)) := ⟨_, rfl⟩
    rw [← hw8] at BX8 RB8 OB8 OC8 OQ8 K8 ⊢
    clear hw8
    have DV := hide (DevOwn.is (B := w.heap.size) (w := w8) (D := A2) ⟨_, _, _, rfl, OB8.out, OC8.out, OQ8.out⟩)
    have CT := hide (fun W (hb : Below w8.heap.size w8 W) => contentD_any _ A2 1 W (DV.out.below hb) big_2)
    have DU := hide (fun W (hb : Below w8.heap.size w8 W) => durable_any _ A2 1 W (DV.out.below hb) big_2)
    have CH := hide (fun W (hb : Below w8.heap.size w8 W) => choices_any _ A2 W (DV.out.below hb) big_2)
    have CR := hide (fun W (hb : Below w8.heap.size w8 W) Ap c hp => crash_any _ A2 Ap [true] c W (DV.out.below hb) big_2 hp (by decide))
    have CK := hide (fun W (hb : Below w8.heap.size w8 W) => check_any _ A2 W (DV.out.below hb) big_2)
    have PG := hide (fun z W => page_any z W)
    have SB := hide (fun A1 A2 c1 c2 l W h1 h2 hn => sbytes A1 A2 c1 c2 l W h1 h2 hn)
    unfold ByR at CT DU PG
    unfold DvR2 at CR
    rw [e_ct] at CT
    rw [e_du] at DU
    rw [e_ch] at CH
    simp only [e_c2, if_true] at CR CK
    clear DV OB8 OC8 OQ8
    have Hw8 := hide (brefl w8)
    obtain ⟨r0, r1, r2, r3⟩ := box4_cells RB8.out
    obtain ⟨x0, x1, x2, x3, x4⟩ := box5_cells (W' := w8) (BX8.out.below Hw8.out)
    go_wp2_with fail
    refine (CT.out _ Hw8.out).mono ?_
    rintro e w9 ⟨u, rfl, hu, hb⟩
    obtain ⟨B1, n1, rfl⟩ := hu.form
    have Hw9 := hide hb
    have U9 := hide hu
    clear hb hu r0 r1 r2 r3
    clear x0 x1 x2 x3 x4
    go_wp2_with fail
    refine (PG.out 1 _).mono ?_
    rintro e w10 ⟨u, rfl, hu, hb⟩
    obtain ⟨B2, n2, rfl⟩ := hu.form
    have Hw10 := hide (btrans Hw9.out hb)
    have Y1 := hide (bs_own (U9.out.below hb))
    have Y2 := hide (bs_own hu)
    clear hb hu U9
    go_wp2_with fail
    refine (SB.out _ _ _ _ _ _ Y1.out Y2.out (by decide)).mono ?_
    rintro e w11 ⟨rfl, hb⟩
    have Hw11 := hide (btrans Hw10.out hb)
    clear hb
    obtain ⟨x0, x1, x2, x3, x4⟩ := box5_cells (W' := w11) (BX8.out.below Hw11.out)
    go_wp2_with fail
    refine (DU.out _ Hw11.out).mono ?_
    rintro e w12 ⟨u, rfl, hu, hb⟩
    obtain ⟨B3, n3, rfl⟩ := hu.form
    have Hw12 := hide (btrans Hw11.out hb)
    have U12 := hide hu
    clear hb hu
    clear x0 x1 x2 x3 x4
    go_wp2_with fail
    refine (PG.out 0 _).mono ?_
    rintro e w13 ⟨u, rfl, hu, hb⟩
    obtain ⟨B4, n4, rfl⟩ := hu.form
    have Hw13 := hide (btrans Hw12.out hb)
    have Y3 := hide (bs_own (U12.out.below hb))
    have Y4 := hide (bs_own hu)
    clear hb hu U12
    go_wp2_with fail
    refine (SB.out _ _ _ _ _ _ Y3.out Y4.out (by decide)).mono ?_
    rintro e w14 ⟨rfl, hb⟩
    have Hw14 := hide (btrans Hw13.out hb)
    clear hb
    obtain ⟨x0, x1, x2, x3, x4⟩ := box5_cells (W' := w14) (BX8.out.below Hw14.out)
    go_wp2_with fail
    refine (CH.out _ Hw14.out).mono ?_
    rintro e w15 ⟨rfl, hb⟩
    have Hw15 := hide (btrans Hw14.out hb)
    clear hb
    clear x0 x1 x2 x3 x4
    obtain ⟨x0, x1, x2, x3, x4⟩ := box5_cells (W' := w15) (BX8.out.below Hw15.out)
    go_wp2_with fail
    have RT := hide (show RdT (w15.alloc (.cells #[.bool true] 4)) (some ⟨w15.heap.size, 0, none⟩) [true] from fun _ => ⟨w15.heap.size, 0, rfl, (Box.new w15 4 #[.bool true]).lt, fun k hk => by
      obtain rfl : k = 0 := by simpa using hk
      exact (Box.new w15 4 #[.bool true]).cell 0⟩)
    have Hw16 := hide (bal Hw15.out (.cells #[.bool true] 4))
    refine (CR.out _ Hw16.out _ 1 RT.out).mono ?_
    rintro e w17 ⟨v, rfl, ho, hb⟩
    have ho : DevOwn (w15.alloc (.cells #[.bool true] 4)).heap.size w17 v Dv.A3 := ho
    obtain ⟨vb, vc, vq, rfl, ob, oc, oq⟩ := ho
    obtain ⟨G1, k1, rfl, _⟩ := ob.form
    obtain ⟨G2, k2, rfl, _⟩ := oc.form
    obtain ⟨G3, k3, rfl, _⟩ := oq.form
    have Hw18 := hide (bal (btrans Hw16.out hb) (.cells #[.int .i64 Dv.A3.dep, .int .i64 Dv.A3.nxt, .slice G1 Dv.A3.bl.length k1, .slice G2 Dv.A3.ca.length k2, .slice G3 Dv.A3.qu.length k3] 28))
    have DV3 := hide ((DevOwn.is (B := (w15.alloc (.cells #[.bool true] 4)).heap.size) (w := w17) (D := Dv.A3) ⟨_, _, _, rfl, ob, oc, oq⟩).below (bal (brefl w17) (.cells #[.int .i64 Dv.A3.dep, .int .i64 Dv.A3.nxt, .slice G1 Dv.A3.bl.length k1, .slice G2 Dv.A3.ca.length k2, .slice G3 Dv.A3.qu.length k3] 28)))
    have BX3 := hide (Box.new w17 28 #[.int .i64 Dv.A3.dep, .int .i64 Dv.A3.nxt, .slice G1 Dv.A3.bl.length k1, .slice G2 Dv.A3.ca.length k2, .slice G3 Dv.A3.qu.length k3])
    clear x0 x1 x2 x3 x4 hb ob oc oq RT CR CT DU CH
    go_upto_region 11 with fail
    generalize w17.alloc (.cells #[.int .i64 Dv.A3.dep, .int .i64 Dv.A3.nxt, .slice G1 Dv.A3.bl.length k1, .slice G2 Dv.A3.ca.length k2, .slice G3 Dv.A3.qu.length k3] 28) = w18 at *
    have DU3 := hide (fun W (hb : Below w18.heap.size w18 W) => durable_any _ Dv.A3 1 W (DV3.out.below hb) big_3)
    unfold ByR at DU3
    rw [e_d3] at DU3
    obtain ⟨x0, x1, x2, x3, x4⟩ := box5_cells (W' := w18) BX3.out
    go_wp2_with fail
    refine (DU3.out _ (brefl w18)).mono ?_
    rintro e w19 ⟨u, rfl, hu, hb⟩
    obtain ⟨B5, n5, rfl⟩ := hu.form
    have Hw19 := hide (btrans Hw18.out hb)
    have U19 := hide hu
    clear hb hu
    clear x0 x1 x2 x3 x4
    go_wp2_with fail
    refine (PG.out 1 _).mono ?_
    rintro e w20 ⟨u, rfl, hu, hb⟩
    obtain ⟨B6, n6, rfl⟩ := hu.form
    have Hw20 := hide (btrans Hw19.out hb)
    have Y5 := hide (bs_own (U19.out.below hb))
    have Y6 := hide (bs_own hu)
    clear hb hu U19
    go_wp2_with fail
    refine (SB.out _ _ _ _ _ _ Y5.out Y6.out (by decide)).mono ?_
    rintro e w21 ⟨rfl, hb⟩
    have Hw21 := hide (btrans Hw20.out hb)
    clear hb
    obtain ⟨x0, x1, x2, x3, x4⟩ := box5_cells (W' := w21) (BX8.out.below Hw21.out)
    go_wp2_with fail
    refine (CK.out _ Hw21.out).mono ?_
    rintro e w22 ⟨rfl, hb⟩
    have Hw22 := hide (btrans Hw21.out hb)
    clear hb
    clear x0 x1 x2 x3 x4
    go_wp2_with fail
    go_ret
    exact ⟨rfl, btrans K8.out Hw22.out⟩
end Go.Proofs.Ytnegigcjeoenmaa.Dv
