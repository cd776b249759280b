import Derived.Test.YtncdilkcblakhaaDCmM
namespace Go.Proofs.Ytncdilkcblakhaa.Dv
open Go Go.RowKit
set_option linter.unusedVariables false
/-- all but boxes g and h, and rows of blocks and of cached blocks, is as it was -/
structure KpH (B g h : Nat) (w w' : World) : Prop where
  below : Below B w w'
  keep : ∀ k, k < w.heap.size → k ≠ g → k ≠ h → (∀ cur, w.heap[k]? ≠ some (.cells cur 89 (0, 0))) → (∀ cur, w.heap[k]? ≠ some (.cells cur 23 (0, 0))) → w'.heap[k]? = w.heap[k]?
theorem KpG.toH {B g h : Nat} {w w' : World} (k : KpG B g w w') : KpH B g h w w' := ⟨k.below, fun i hi h1 _ h3 h4 => k.keep i hi h1 h3 h4⟩
/-- what carrying a request out leaves: the device, the request -/
def CarR (B g h : Nat) (D : Dev) (q : Rq) (w : World) (e : Ending) (w' : World) : Prop := e = .returned (.tuple #[]) ∧ DevAt B w' g D ∧ ReqAt w' h q ∧ KpH B g h w w'
/-- the blocks behind the first k entries of a cache -/
def flK (C : List Ca) (L : List By) : Nat → List By
  | 0 => L
  | k + 1 => (flK C L k).set (cAt C k).1.toNat (cAt C k).2
theorem flK_len (C : List Ca) (L : List By) : ∀ k, (flK C L k).length = L.length
  | 0 => rfl
  | k + 1 => by unfold flK; rw [List.length_set, flK_len C L k]
/-- a device at g, its request at h, which is not in the row of the queue -/
def DevAtH (B : Nat) (W : World) (g h : Nat) (D : Dev) : Prop := ∃ vb vc vq, Box W g 57 #[.int .i64 D.dep, .int .i64 D.nxt, vb, vc, vq] ∧ OwnB B W vb D.bl ∧ OwnC B W vc D.ca ∧ OwnQ B W vq D.qu ∧ some h ≠ vq.ownBlock
theorem DevAtH.at {B g h : Nat} {W : World} {D : Dev} (x : DevAtH B W g h D) : DevAt B W g D := by
  obtain ⟨vb, vc, vq, h1, h2, h3, h4, h5⟩ := x
  exact ⟨vb, vc, vq, h1, h2, h3, h4⟩
set_option maxHeartbeats 2000000 in
theorem carry_write (B g h : Nat) (D : Dev) (i b : Int) (x : By) (w : World) (hd : DevAt B w g D) (hr : ReqAt w h (i, 2, b, x)) (hBg : B ≤ g) (hB : B ≤ w.heap.size) (hx : x.length ≤ 1000) (ha : Asc D.ca) (hl : D.ca.length ≤ 1000) :
    Calls Try.prog 48 #[.pointer (some ⟨g, 0, none⟩), .pointer (some ⟨h, 0, none⟩)] w (CarR B g h { D with ca := putD D.ca b x } (i, 2, b, x) w) := by
  have RQ := hide hr
  obtain ⟨u, hY, hu⟩ := hr
  obtain ⟨Au, cu, rfl⟩ := hu.form
  have CB := hide (fun W (hb : Below w.heap.size w W) => clone_any _ x W (hu.is.below hb) hx)
  unfold ByR at CB
  have CP := hide (fun (W : World) (v : Value) (h1 : DevAt B W g D) (h2 : OwnBy W v x) (h3 : B ≤ W.heap.size) => put_any B g D b v x W h1 hBg h3 h2 ha hl)
  unfold TurnR at CP
  have Y := hide hY
  have DV := hide hd
  have y1 := hY.cell 1
  have SS := hide (show (fun W => W.cell? ⟨h, 2, none⟩ = some (.int .i64 b) ∧ W.cell? ⟨h, 3, none⟩ = some (.slice Au x.length cu)) w from ⟨hY.cell 2, hY.cell 3⟩)
  simp at y1
  clear hd hY hu ha
  go_enter Try.func48, Try.ntmps48
  go_wp2_with fail
  refine wp_region_noPanic ?_
  refine wp_region_held_drew (S := (fun W => W.cell? ⟨h, 2, none⟩ = some (.int .i64 b) ∧ W.cell? ⟨h, 3, none⟩ = some (.slice Au x.length cu))) (by kernel_rfl) ?_ (fun hHeld => ?_)
  · exact SS.out
  refine wpAnyH_take (i := 0) (oi := ⟨some 26, _, _, _, _, _⟩) (v := ?_) rfl (by kernel_rfl) (by kernel_rfl) (by kernel_rfl) (fun _ _ _ h => h) (Or.inl ⟨by kernel_rfl, ?_⟩) (by assumption) ?_
  rotate_left 1
  · (intro w hSw; (try dsimp only at hSw); go_simp) <;> (with_reducible rfl)
  (try simp only [Act.put, List.setIfInBounds_toArray, List.set_cons_succ, List.set_cons_zero])
  refine wpAnyH_take (i := 1) (oi := ⟨some 27, _, _, _, _, _⟩) (v := ?_) rfl (by kernel_rfl) (by kernel_rfl) (by kernel_rfl) (fun _ _ _ h => h) (Or.inl ⟨by kernel_rfl, ?_⟩) (by assumption) ?_
  rotate_left 1
  · (intro w hSw; (try dsimp only at hSw); go_simp) <;> (with_reducible rfl)
  (try simp only [Act.put, List.setIfInBounds_toArray, List.set_cons_succ, List.set_cons_zero])
  refine wpAnyH_take (i := 2) (oi := ⟨some 28, _, _, _, _, _⟩) (v := ?_) rfl (by kernel_rfl) (by kernel_rfl) (by kernel_rfl) (fun _ _ _ h => h) (Or.inl ⟨by kernel_rfl, ?_⟩) (by assumption) ?_
  rotate_left 1
  · (intro w hSw; (try dsimp only at hSw); go_simp) <;> (with_reducible rfl)
  (try simp only [Act.put, List.setIfInBounds_toArray, List.set_cons_succ, List.set_cons_zero])
  refine wpAnyH_take (i := 3) (oi := ⟨some 29, _, _, _, _, _⟩) (v := ?_) rfl (by kernel_rfl) (by kernel_rfl) (by kernel_rfl) (fun _ _ _ h => h) (Or.inl ⟨by kernel_rfl, ?_⟩) (by assumption) ?_
  rotate_left 1
  · (intro w hSw; (try dsimp only at hSw); go_simp) <;> (with_reducible rfl)
  (try simp only [Act.put, List.setIfInBounds_toArray, List.set_cons_succ, List.set_cons_zero])
  refine wpAnyH_take (i := 4) (oi := ⟨some 30, _, _, _, _, _⟩) (v := ?_) rfl (by kernel_rfl) (by kernel_rfl) (by kernel_rfl) (fun _ _ _ h => h) (Or.inl ⟨by kernel_rfl, ?_⟩) (by assumption) ?_
  rotate_left 1
  · (intro w hSw; (try dsimp only at hSw); go_simp) <;> (with_reducible rfl)
  (try simp only [Act.put, List.setIfInBounds_toArray, List.set_cons_succ, List.set_cons_zero])
  refine wpAnyH_take (i := 5) (oi := ⟨some 31, _, _, _, _, _⟩) (v := ?_) rfl (by kernel_rfl) (by kernel_rfl) (by kernel_rfl) (fun _ _ _ h => h) (Or.inl ⟨by kernel_rfl, ?_⟩) (by assumption) ?_
  rotate_left 1
  · (intro w hSw; (try dsimp only at hSw); go_simp) <;> (with_reducible rfl)
  (try simp only [Act.put, List.setIfInBounds_toArray, List.set_cons_succ, List.set_cons_zero])
  refine wpAnyH_take (i := 6) (oi := ⟨some 32, _, _, _, _, _⟩) (v := ?_) rfl (by kernel_rfl) (by kernel_rfl) (by kernel_rfl) (fun _ _ _ h => h) (Or.inl ⟨by kernel_rfl, ?_⟩) (by assumption) ?_
  rotate_left 1
  · (intro w hSw; (try dsimp only at hSw); go_simp) <;> (with_reducible rfl)
  (try simp only [Act.put, List.setIfInBounds_toArray, List.set_cons_succ, List.set_cons_zero])
  refine wpAnyH_take (i := 7) (oi := ⟨some 33, _, _, _, _, _⟩) (v := ?_) rfl (by kernel_rfl) (by kernel_rfl) (by kernel_rfl) (fun _ _ _ h => h) (Or.inl ⟨by kernel_rfl, ?_⟩) (by assumption) ?_
  rotate_left 1
  · (intro w hSw; (try dsimp only at hSw); go_simp) <;> (with_reducible rfl)
  (try simp only [Act.put, List.setIfInBounds_toArray, List.set_cons_succ, List.set_cons_zero])
  refine wpAnyH_take (i := 8) (oi := ⟨some 34, _, _, _, _, _⟩) (v := ?_) rfl (by kernel_rfl) (by kernel_rfl) (by kernel_rfl) (fun _ _ _ h => h) (Or.inl ⟨by kernel_rfl, ?_⟩) (by assumption) ?_
  rotate_left 1
  · (intro w hSw; (try dsimp only at hSw); go_simp) <;> (with_reducible rfl)
  (try simp only [Act.put, List.setIfInBounds_toArray, List.set_cons_succ, List.set_cons_zero])
  refine wpAnyH_ready (rs := [9]) (by kernel_rfl) (by simp) ?_
  refine AllReadyH.cons (o := _) rfl (fun K' hK => ?_) AllReadyH.nil
  go_simp
  refine (CB.out _ (below_drew (brefl _))).mono ?_
  rintro e w1 ⟨v1, rfl, ho, hb⟩
  obtain ⟨A1, d1, rfl⟩ := ho.form
  have HU1 := hide ho
  have K1 := hide (btrans (below_drew (brefl w)) hb)
  replace Y := hide (Y.out.below K1.out)
  replace RQ := hide (RQ.out.below K1.out)
  replace DV := hide (DV.out.below K1.out)
  replace SS := hide (show (fun W => W.cell? ⟨h, 2, none⟩ = some (.int .i64 b) ∧ W.cell? ⟨h, 3, none⟩ = some (.slice Au x.length cu)) w1 from ⟨Y.out.cell 2, Y.out.cell 3⟩)
  have hs1 := K1.out.size
  clear ho hb
  refine hK.out _ _ ?_ (fun hHeld => ?_)
  · exact SS.out
  clear hK K'
  (try simp only [Act.put, List.setIfInBounds_toArray, List.set_cons_succ, List.set_cons_zero])
  refine wpAnyH_ready (rs := [10]) (by kernel_rfl) (by simp) ?_
  refine AllReadyH.cons (o := _) rfl (fun K' hK => ?_) AllReadyH.nil
  go_simp
  refine (CP.out _ _ DV.out HU1.out (by omega)).mono ?_
  rintro e w2 ⟨rfl, hdv, hkp⟩
  have DV2 := hide hdv
  have HK := hide hkp
  have HGX := hide (DV.out.choose_spec.choose_spec.choose_spec.1)
  replace RQ := hide (RQ.out.kpg hkp HGX.out)
  replace Y := hide (Y.out.kpg hkp (Y.out.ne HGX.out (by decide)) (by decide) (by decide))
  replace SS := hide (show (fun W => W.cell? ⟨h, 2, none⟩ = some (.int .i64 b) ∧ W.cell? ⟨h, 3, none⟩ = some (.slice Au x.length cu)) w2 from ⟨Y.out.cell 2, Y.out.cell 3⟩)
  clear hdv hkp
  refine hK.out _ _ ?_ (fun hHeld => ?_)
  · exact SS.out
  clear hK K'
  (try simp only [Act.put, List.setIfInBounds_toArray, List.set_cons_succ, List.set_cons_zero])
  refine wpAnyH_done (by kernel_rfl) ?_ _
  refine NoPanic.normal ?_
  go_wp2
  go_end0
  exact ⟨rfl, DV2.out, RQ.out, ((KpG.of_below K1.out hB).trans HK.out).toH⟩
set_option maxHeartbeats 2000000 in
theorem carry_read (B g h : Nat) (D : Dev) (i b : Int) (x : By) (w : World) (hd : DevAtH B w g h D) (hr : ReqAt w h (i, 1, b, x)) (hBg : B ≤ g) (hBh : B ≤ h) (hB : B ≤ w.heap.size) {qu0 : List Rq} (hk : chk { D with qu := qu0 } = 0) (hb : inB D.bl.length b = true) :
    Calls Try.prog 48 #[.pointer (some ⟨g, 0, none⟩), .pointer (some ⟨h, 0, none⟩)] w (CarR B g h D (i, 1, b, contD D b) w) := by
  obtain ⟨u, hY, hu⟩ := hr
  obtain ⟨vb, vc, vq, hX, ob, oc, oq, hhq⟩ := hd
  obtain ⟨E1, g1, rfl, _⟩ := ob.form
  obtain ⟨E2, g2, rfl, _⟩ := oc.form
  obtain ⟨E3, g3, rfl, _⟩ := oq.form
  have S := sm_ok hk
  have IN := hide (DevOwn.is (B := B) (w := w) (D := D) ⟨_, _, _, rfl, ob, oc, oq⟩)
  have CC := hide (fun W (hb2 : Below w.heap.size w W) => content_any _ D b W (IN.out.below hb2) S.ca S.bl (asc_ok (D := { D with qu := qu0 }) hk) hb)
  unfold ByI at CC
  have HL := hide (show (contD D b).length ≤ 1000 from contD_len (D := { D with qu := qu0 }) hk hb)
  have Y := hide hY
  have X := hide hX
  have OB := hide ob
  have OC := hide oc
  have OQ := hide oq
  have y1 := hY.cell 1
  have hgh : g ≠ h := fun e => by subst e; exact absurd rfl (hX.ne hY (by decide))
  have CE := hide (fun W (hb2 : Below w.heap.size w W) => (by
    have x1 := X.out.below hb2
    have y1 := Y.out.below hb2
    exact ⟨x1.cell 0, x1.cell 1, x1.cell 2, x1.cell 3, x1.cell 4, y1.cell 2⟩ : (fun W => W.cell? ⟨g, 0, none⟩ = some (.int .i64 D.dep) ∧ W.cell? ⟨g, 1, none⟩ = some (.int .i64 D.nxt) ∧ W.cell? ⟨g, 2, none⟩ = some (.slice E1 D.bl.length g1) ∧ W.cell? ⟨g, 3, none⟩ = some (.slice E2 D.ca.length g2) ∧ W.cell? ⟨g, 4, none⟩ = some (.slice E3 D.qu.length g3) ∧ W.cell? ⟨h, 2, none⟩ = some (.int .i64 b)) W))
  have CS := hide (fun W (hb2 : Below w.heap.size w W) (u : Value) => (by
    have x1 := (X.out.below hb2).far (i := 3) hgh u
    have y1 := (Y.out.below hb2).put 3 u
    exact ⟨x1.cell 0, x1.cell 1, x1.cell 2, x1.cell 3, x1.cell 4, y1.cell 2⟩ : (fun W => W.cell? ⟨g, 0, none⟩ = some (.int .i64 D.dep) ∧ W.cell? ⟨g, 1, none⟩ = some (.int .i64 D.nxt) ∧ W.cell? ⟨g, 2, none⟩ = some (.slice E1 D.bl.length g1) ∧ W.cell? ⟨g, 3, none⟩ = some (.slice E2 D.ca.length g2) ∧ W.cell? ⟨g, 4, none⟩ = some (.slice E3 D.qu.length g3) ∧ W.cell? ⟨h, 2, none⟩ = some (.int .i64 b)) (W.setCell ⟨h, 3, none⟩ u)))
  simp at y1
  generalize contD D b = l at *
  clear hX hY hu ob oc oq S IN hk hb
  go_enter Try.func48, Try.ntmps48
  go_wp2_with fail
  refine wp_region_noPanic ?_
  refine wp_region_held_drew (S := (fun W => W.cell? ⟨g, 0, none⟩ = some (.int .i64 D.dep) ∧ W.cell? ⟨g, 1, none⟩ = some (.int .i64 D.nxt) ∧ W.cell? ⟨g, 2, none⟩ = some (.slice E1 D.bl.length g1) ∧ W.cell? ⟨g, 3, none⟩ = some (.slice E2 D.ca.length g2) ∧ W.cell? ⟨g, 4, none⟩ = some (.slice E3 D.qu.length g3) ∧ W.cell? ⟨h, 2, none⟩ = some (.int .i64 b))) (by kernel_rfl) ?_ (fun hHeld => ?_)
  · exact CE.out _ (below_drew (brefl w))
  refine wpAnyH_take (i := 0) (oi := ⟨some 12, _, _, _, _, _⟩) (v := ?_) rfl (by kernel_rfl) (by kernel_rfl) (by kernel_rfl) (fun _ _ _ h => h) (Or.inl ⟨by kernel_rfl, ?_⟩) (by assumption) ?_
  rotate_left 1
  · (intro w hSw; (try dsimp only at hSw); go_simp) <;> (with_reducible rfl)
  (try simp only [Act.put, List.setIfInBounds_toArray, List.set_cons_succ, List.set_cons_zero])
  refine wpAnyH_take (i := 1) (oi := ⟨some 13, _, _, _, _, _⟩) (v := ?_) rfl (by kernel_rfl) (by kernel_rfl) (by kernel_rfl) (fun _ _ _ h => h) (Or.inl ⟨by kernel_rfl, ?_⟩) (by assumption) ?_
  rotate_left 1
  · (intro w hSw; (try dsimp only at hSw); go_simp) <;> (with_reducible rfl)
  (try simp only [Act.put, List.setIfInBounds_toArray, List.set_cons_succ, List.set_cons_zero])
  refine wpAnyH_take (i := 2) (oi := ⟨some 14, _, _, _, _, _⟩) (v := ?_) rfl (by kernel_rfl) (by kernel_rfl) (by kernel_rfl) (fun _ _ _ h => h) (Or.inl ⟨by kernel_rfl, ?_⟩) (by assumption) ?_
  rotate_left 1
  · (intro w hSw; (try dsimp only at hSw); go_simp) <;> (with_reducible rfl)
  (try simp only [Act.put, List.setIfInBounds_toArray, List.set_cons_succ, List.set_cons_zero])
  refine wpAnyH_take (i := 3) (oi := ⟨some 15, _, _, _, _, _⟩) (v := ?_) rfl (by kernel_rfl) (by kernel_rfl) (by kernel_rfl) (fun _ _ _ h => h) (Or.inl ⟨by kernel_rfl, ?_⟩) (by assumption) ?_
  rotate_left 1
  · (intro w hSw; (try dsimp only at hSw); go_simp) <;> (with_reducible rfl)
  (try simp only [Act.put, List.setIfInBounds_toArray, List.set_cons_succ, List.set_cons_zero])
  refine wpAnyH_take (i := 4) (oi := ⟨some 16, _, _, _, _, _⟩) (v := ?_) rfl (by kernel_rfl) (by kernel_rfl) (by kernel_rfl) (fun _ _ _ h => h) (Or.inl ⟨by kernel_rfl, ?_⟩) (by assumption) ?_
  rotate_left 1
  · (intro w hSw; (try dsimp only at hSw); go_simp) <;> (with_reducible rfl)
  (try simp only [Act.put, List.setIfInBounds_toArray, List.set_cons_succ, List.set_cons_zero])
  refine wpAnyH_take (i := 5) (oi := ⟨some 17, _, _, _, _, _⟩) (v := ?_) rfl (by kernel_rfl) (by kernel_rfl) (by kernel_rfl) (fun _ _ _ h => h) (Or.inl ⟨by kernel_rfl, ?_⟩) (by assumption) ?_
  rotate_left 1
  · (intro w hSw; (try dsimp only at hSw); go_simp) <;> (with_reducible rfl)
  (try simp only [Act.put, List.setIfInBounds_toArray, List.set_cons_succ, List.set_cons_zero])
  refine wpAnyH_take (i := 6) (oi := ⟨some 18, _, _, _, _, _⟩) (v := ?_) rfl (by kernel_rfl) (by kernel_rfl) (by kernel_rfl) (fun _ _ _ h => h) (Or.inl ⟨by kernel_rfl, ?_⟩) (by assumption) ?_
  rotate_left 1
  · (intro w hSw; (try dsimp only at hSw); go_simp) <;> (with_reducible rfl)
  (try simp only [Act.put, List.setIfInBounds_toArray, List.set_cons_succ, List.set_cons_zero])
  refine wpAnyH_take (i := 7) (oi := ⟨some 19, _, _, _, _, _⟩) (v := ?_) rfl (by kernel_rfl) (by kernel_rfl) (by kernel_rfl) (fun _ _ _ h => h) (Or.inl ⟨by kernel_rfl, ?_⟩) (by assumption) ?_
  rotate_left 1
  · (intro w hSw; (try dsimp only at hSw); go_simp) <;> (with_reducible rfl)
  (try simp only [Act.put, List.setIfInBounds_toArray, List.set_cons_succ, List.set_cons_zero])
  refine wpAnyH_ready (rs := [8]) (by kernel_rfl) (by simp) ?_
  refine AllReadyH.cons (o := _) rfl (fun K' hK => ?_) AllReadyH.nil
  go_simp
  refine (CC.out _ (below_drew (brefl w))).mono ?_
  rintro e w1 ⟨v1, rfl, hu1, hb⟩
  have K1 := hide (btrans (below_drew (brefl w)) hb)
  have U1 := hide hu1
  obtain ⟨A1, d1, rfl⟩ := hu1.form
  clear hu1 hb
  refine hK.out _ _ ?_ (fun hHeld => ?_)
  · exact CE.out _ K1.out
  clear hK K'
  (try simp only [Act.put, List.setIfInBounds_toArray, List.set_cons_succ, List.set_cons_zero])
  refine wpAnyH_ready (rs := [9]) (by kernel_rfl) (by simp) ?_
  refine AllReadyH.cons (o := _) rfl (fun K' hK => ?_) AllReadyH.nil
  go_simp
  refine (clone_any _ _ w1 U1.out HL.out).mono ?_
  rintro e w2 ⟨v2, rfl, ho2, hb⟩
  have K2 := hide (btrans K1.out hb)
  have U2 := hide ho2
  obtain ⟨A2, d2, rfl⟩ := ho2.form
  have Y2 := hide (Y.out.below K2.out)
  have y3 := Y2.out.cell 3
  have fy3 := Y2.out.frozen 3
  simp at y3
  clear ho2 hb
  refine hK.out _ _ ?_ (fun hHeld => ?_)
  · exact CE.out _ K2.out
  clear hK K'
  (try simp only [Act.put, List.setIfInBounds_toArray, List.set_cons_succ, List.set_cons_zero])
  refine wpAnyH_take (i := 10) (oi := ⟨some 22, _, _, _, _, _⟩) (v := ?_) rfl (by kernel_rfl) (by kernel_rfl) (by kernel_rfl) (fun _ _ _ h => h) (Or.inl ⟨by kernel_rfl, ?_⟩) (by assumption) ?_
  rotate_left 1
  · (intro w hSw; (try dsimp only at hSw); go_simp) <;> (with_reducible rfl)
  (try simp only [Act.put, List.setIfInBounds_toArray, List.set_cons_succ, List.set_cons_zero])
  refine wpAnyH_take (i := 11) (oi := ⟨some 23, _, _, _, _, _⟩) (v := ?_) rfl (by kernel_rfl) (by kernel_rfl) (by kernel_rfl) (fun _ _ _ h => h) (Or.inl ⟨by kernel_rfl, ?_⟩) (by assumption) ?_
  rotate_left 1
  · (intro w hSw; (try dsimp only at hSw); go_simp) <;> (with_reducible rfl)
  (try simp only [Act.put, List.setIfInBounds_toArray, List.set_cons_succ, List.set_cons_zero])
  refine wpAnyH_ready (rs := [12]) (by kernel_rfl) (by simp) ?_
  refine AllReadyH.cons (o := _) rfl (fun K' hK => ?_) AllReadyH.nil
  go_simp
  refine hK.out _ _ ?_ (fun hHeld => ?_)
  · exact CS.out _ K2.out _
  clear hK K'
  (try simp only [Act.put, List.setIfInBounds_toArray, List.set_cons_succ, List.set_cons_zero])
  refine wpAnyH_done (by kernel_rfl) ?_ _
  refine NoPanic.normal ?_
  go_wp2
  go_end0
  have KB := hide (KpB.set w2 h 3 (.slice A2 l.length d2))
  refine ⟨rfl, ⟨_, _, _, (X.out.below K2.out).far hgh _, (OB.out.below K2.out).kb KB.out Y2.out (by decide) (by decide), (OC.out.below K2.out).kb KB.out Y2.out (by decide) (by decide), (OQ.out.below K2.out).kb KB.out Y2.out (by decide) hhq⟩, ⟨_, Y2.out.put 3 _, U2.out.kb KB.out Y2.out (by decide)⟩, ⟨(K2.out.mono hB).setCell hBh _, fun k hk h1 h2 _ _ => ?_⟩⟩
  exact (heap_setCell_other w2 ⟨h, 3, none⟩ k _ h2).trans (K2.out.block k hk)
/-- the state of a flush -/
structure Fl (B g : Nat) (D : Dev) (w : World) (vb vc vq : Value) (bl : List By) (W : World) : Prop where
  box : Box W g 57 #[.int .i64 D.dep, .int .i64 D.nxt, vb, vc, vq]
  ob : OwnB B W vb bl
  oc : OwnC B W vc D.ca
  oq : OwnQ B W vq D.qu
  kp : KpG B g w W
theorem Fl.on {B g : Nat} {D : Dev} {w W W' : World} {vb vc vq : Value} {bl : List By} (h : Fl B g D w vb vc vq bl W) (hBg : B ≤ g) (hb : Below W.heap.size W W') : Fl B g D w vb vc vq bl W' :=
  ⟨h.box.below hb, h.ob.below hb, h.oc.below hb, h.oq.below hb, h.kp.trans (KpG.of_below hb (by have := h.box.lt; omega))⟩
theorem Fl.setB {B g : Nat} {D : Dev} {w W : World} {vb vc vq u : Value} {bl : List By} {x : By} {i : Nat} (h : Fl B g D w vb vc vq bl W) (hi : i < bl.length) (hu : OwnBy W u x) :
    ∃ gb c, vb = .slice (some ⟨gb, 0, none⟩) bl.length c ∧ bl.length ≤ c ∧ (∃ y, W.cell? ⟨gb, i, none⟩ = some y) ∧ W.frozen? ⟨gb, i, none⟩ = false ∧ Kp B 23 W (W.setCell ⟨gb, i, none⟩ u) ∧ Fl B g D w vb vc vq (bl.set i x) (W.setCell ⟨gb, i, none⟩ u) := by
  obtain ⟨gb, c, e, hc, hB, hy, hf, hk, ho⟩ := h.ob.put hi hu
  exact ⟨gb, c, e, hc, hy, hf, hk, ⟨h.box.kp hk (by decide), ho, h.oc.kp hk (by decide) (by decide), h.oq.kp hk (by decide) (by decide), h.kp.trans (KpG.of_kp35 hk)⟩⟩
set_option maxHeartbeats 2000000 in
theorem carry_flush (B g h : Nat) (D : Dev) (i b : Int) (x : By) (w : World) (hd : DevAt B w g D) (hr : ReqAt w h (i, 3, b, x)) (hBg : B ≤ g) (hB : B ≤ w.heap.size) {qu0 : List Rq} (hk : chk { D with qu := qu0 } = 0) :
    Calls Try.prog 48 #[.pointer (some ⟨g, 0, none⟩), .pointer (some ⟨h, 0, none⟩)] w (CarR B g h { D with bl := flK D.ca D.bl D.ca.length, ca := [] } (i, 3, b, x) w) := by
  have RQ := hide hr
  obtain ⟨u, hY, hu⟩ := hr
  obtain ⟨vb, vc, vq, hX, ob, oc, oq⟩ := hd
  have NE : D.bl.length ≠ 0 := by have := (nwE_ok (chk_zero hk).2.1).1; simp only at this; omega
  obtain ⟨E1, g1, rfl, _⟩ := ob.form
  obtain ⟨gb, rfl⟩ : ∃ gb, E1 = some ⟨gb, 0, none⟩ := by
    obtain ⟨R, hR, hr, _⟩ := ob
    obtain ⟨g, e, _⟩ := row_cell hr NE
    exact ⟨g, e⟩
  obtain ⟨E2, g2, rfl, _⟩ := oc.form
  obtain ⟨E3, g3, rfl, _⟩ := oq.form
  have hlc : D.ca.length ≤ 1000 := (sm_ok hk).ca
  have KO := hide (fun k (h : k < D.ca.length) => (keys_ok hk k h : 0 ≤ (cAt D.ca k).1 ∧ (cAt D.ca k).1 < D.bl.length ∧ (0 < k → (cAt D.ca (k - 1)).1 < (cAt D.ca k).1)))
  have X := hide hX
  have y1 := hY.cell 1
  have x3 := hX.cell 3
  simp at y1 x3
  have F0 := hide (show Fl B g D w (.slice (some ⟨gb, 0, none⟩) D.bl.length g1) (.slice E2 D.ca.length g2) (.slice E3 D.qu.length g3) (flK D.ca D.bl 0) w from ⟨hX, ob, oc, oq, KpG.of_below (brefl w) hB⟩)
  clear hX hY hu ob oc oq hk
  go_enter Try.func48, Try.ntmps48
  go_upto_region 7 with fail
  go_loopw [5, 44] (fun _ i wr => ∃ k : Nat, k ≤ D.ca.length ∧ i = .int .i64 k ∧ Hid (Fl B g D w (.slice (some ⟨gb, 0, none⟩) D.bl.length g1) (.slice E2 D.ca.length g2) (.slice E3 D.qu.length g3) (flK D.ca D.bl k) wr)) (fun _ i _ => D.ca.length - (intOf i).toNat)
  case atStart => exact ⟨0, Nat.zero_le _, rfl, F0⟩
  case round =>
    clear F0 x3
    obtain ⟨k, hk, rfl, FL⟩ := hrel
    by_cases hlt : k < D.ca.length
    · have hlt1 : (k : Int) < (D.ca.length : Int) := by omega
      have hlt2 : ¬ (D.ca.length : Int) ≤ (k : Int) := by omega
      have hk0 : (0 : Int) ≤ (k : Int) := by omega
      obtain ⟨R, hR, hrow, hro⟩ := FL.out.oc
      have hRl : R.length = D.ca.length := by rw [← hR, List.length_map]
      have hkR : k < R.length := by omega
      obtain ⟨gc, rfl, hgc, hgB, hcell, _⟩ := row_cell hrow (by omega)
      obtain ⟨t0, t1⟩ := cC_at hkR
      have c0 := hcell _ _ t0
      have c1 := hcell _ _ t1
      obtain ⟨⟨z, l, u1⟩, hr⟩ : ∃ r, r = R[k] := ⟨_, rfl⟩
      have hm : (z, l, u1) ∈ R := by rw [hr]; exact List.getElem_mem hkR
      have hck : cAt D.ca k = (z, l) := by rw [cAt_get hlt]; simp only [← hR]; rw [List.getElem_map, ← hr]; rfl
      rw [← hr] at c0 c1
      simp only at c0 c1
      have hu := hro _ hm
      simp only at hu
      obtain ⟨A1, d1, rfl⟩ := hu.form
      have hz := KO.out k hlt
      rw [hck] at hz
      obtain ⟨n, rfl⟩ := Int.eq_ofNat_of_zero_le hz.1
      have hn : n < D.bl.length := by have := hz.2.1; simp only at this; omega
      have BX := hide ((Box.new wr 89 #[.int .i64 n, .slice A1 l.length d1]).below (below_drew (brefl _)))
      have FA := hide ((FL.out.on hBg (bal (brefl wr) (.cells #[.int .i64 n, .slice A1 l.length d1] 89))).on hBg (below_drew (brefl _)))
      have HUA := hide ((hu.below (bal (brefl wr) (.cells #[.int .i64 n, .slice A1 l.length d1] 89))).below (below_drew (brefl _)))
      have CK := hide (show flK D.ca D.bl (k + 1) = (flK D.ca D.bl k).set n l by
        show (flK D.ca D.bl k).set (cAt D.ca k).1.toNat (cAt D.ca k).2 = _
        rw [hck]; rfl)
      have LEN := hide (flK_len D.ca D.bl k)
      have hn0 : (0 : Int) ≤ (n : Int) := by omega
      have hn1 : (n : Int) < (D.bl.length : Int) := by omega
      clear hr hm hck hu hz t0 t1 hcell hR hrow hro hRl hkR hgc hgB FL
      go_upto_region 9 with fail
      obtain ⟨nb, hnb⟩ : ∃ nb, nb = wr.heap.size := ⟨_, rfl⟩
      rw [← hnb] at BX ⊢
      generalize wr.alloc (.cells #[.int .i64 n, .slice A1 l.length d1] 89) = wa at *
      clear hnb c0 c1
      have SA := hide (show (fun W => W.cell? ⟨g, 2, none⟩ = some (.slice (some ⟨gb, 0, none⟩) D.bl.length g1) ∧ W.cell? ⟨nb, 0, none⟩ = some (.int .i64 n) ∧ W.cell? ⟨nb, 1, none⟩ = some (.slice A1 l.length d1)) wa.drew from ⟨FA.out.box.cell 2, BX.out.cell 0, BX.out.cell 1⟩)
      obtain ⟨gb', cb', hvb, hcap, ⟨y, hy⟩, hfr, hkp35, hset⟩ := FA.out.setB (by rw [LEN.out]; exact hn) HUA.out
      injection hvb with hv1 hv2 hv3
      injection hv1 with hv1
      injection hv1 with hv1
      subst hv1
      have SET := hide hset
      have BX2 := hide (BX.out.kp hkp35 (by decide))
      have SB := hide (show (fun W => W.cell? ⟨g, 2, none⟩ = some (.slice (some ⟨gb, 0, none⟩) D.bl.length g1) ∧ W.cell? ⟨nb, 0, none⟩ = some (.int .i64 n) ∧ W.cell? ⟨nb, 1, none⟩ = some (.slice A1 l.length d1)) (wa.drew.setCell ⟨gb, n, none⟩ (.slice A1 l.length d1)) from ⟨SET.out.box.cell 2, BX2.out.cell 0, BX2.out.cell 1⟩)
      clear hset hkp35 hcap hv2 hv3
      refine wp_region_noPanic ?_
      refine wp_region_held_drew (S := (fun W => W.cell? ⟨g, 2, none⟩ = some (.slice (some ⟨gb, 0, none⟩) D.bl.length g1) ∧ W.cell? ⟨nb, 0, none⟩ = some (.int .i64 n) ∧ W.cell? ⟨nb, 1, none⟩ = some (.slice A1 l.length d1))) (by kernel_rfl) ?_ (fun hHeld => ?_)
      · exact SA.out
      refine wpAnyH_take (i := 0) (oi := ⟨some 48, _, _, _, _, _⟩) (v := ?_) rfl (by kernel_rfl) (by kernel_rfl) (by kernel_rfl) (fun _ _ _ h => h) (Or.inl ⟨by kernel_rfl, ?_⟩) (by assumption) ?_
      rotate_left 1
      · (intro w hSw; (try dsimp only at hSw); go_simp) <;> (with_reducible rfl)
      (try simp only [Act.put, List.setIfInBounds_toArray, List.set_cons_succ, List.set_cons_zero])
      refine wpAnyH_take (i := 1) (oi := ⟨some 49, _, _, _, _, _⟩) (v := ?_) rfl (by kernel_rfl) (by kernel_rfl) (by kernel_rfl) (fun _ _ _ h => h) (Or.inl ⟨by kernel_rfl, ?_⟩) (by assumption) ?_
      rotate_left 1
      · (intro w hSw; (try dsimp only at hSw); go_simp) <;> (with_reducible rfl)
      (try simp only [Act.put, List.setIfInBounds_toArray, List.set_cons_succ, List.set_cons_zero])
      refine wpAnyH_take (i := 2) (oi := ⟨some 50, _, _, _, _, _⟩) (v := ?_) rfl (by kernel_rfl) (by kernel_rfl) (by kernel_rfl) (fun _ _ _ h => h) (Or.inl ⟨by kernel_rfl, ?_⟩) (by assumption) ?_
      rotate_left 1
      · (intro w hSw; (try dsimp only at hSw); go_simp) <;> (with_reducible rfl)
      (try simp only [Act.put, List.setIfInBounds_toArray, List.set_cons_succ, List.set_cons_zero])
      refine wpAnyH_take (i := 3) (oi := ⟨some 51, _, _, _, _, _⟩) (v := ?_) rfl (by kernel_rfl) (by kernel_rfl) (by kernel_rfl) (fun _ _ _ h => h) (Or.inl ⟨by kernel_rfl, ?_⟩) (by assumption) ?_
      rotate_left 1
      · (intro w hSw; (try dsimp only at hSw); go_simp) <;> (with_reducible rfl)
      (try simp only [Act.put, List.setIfInBounds_toArray, List.set_cons_succ, List.set_cons_zero])
      refine wpAnyH_take (i := 4) (oi := ⟨some 52, _, _, _, _, _⟩) (v := ?_) rfl (by kernel_rfl) (by kernel_rfl) (by kernel_rfl) (fun _ _ _ h => h) (Or.inl ⟨by kernel_rfl, ?_⟩) (by assumption) ?_
      rotate_left 1
      · (intro w hSw; (try dsimp only at hSw); go_simp) <;> (with_reducible rfl)
      (try simp only [Act.put, List.setIfInBounds_toArray, List.set_cons_succ, List.set_cons_zero])
      refine wpAnyH_take (i := 5) (oi := ⟨some 53, _, _, _, _, _⟩) (v := ?_) rfl (by kernel_rfl) (by kernel_rfl) (by kernel_rfl) (fun _ _ _ h => h) (Or.inl ⟨by kernel_rfl, ?_⟩) (by assumption) ?_
      rotate_left 1
      · (intro w hSw; (try dsimp only at hSw); go_simp) <;> (with_reducible rfl)
      (try simp only [Act.put, List.setIfInBounds_toArray, List.set_cons_succ, List.set_cons_zero])
      refine wpAnyH_take (i := 6) (oi := ⟨some 54, _, _, _, _, _⟩) (v := ?_) rfl (by kernel_rfl) (by kernel_rfl) (by kernel_rfl) (fun _ _ _ h => h) (Or.inl ⟨by kernel_rfl, ?_⟩) (by assumption) ?_
      rotate_left 1
      · (intro w hSw; (try dsimp only at hSw); go_simp) <;> (with_reducible rfl)
      (try simp only [Act.put, List.setIfInBounds_toArray, List.set_cons_succ, List.set_cons_zero])
      refine wpAnyH_take (i := 7) (oi := ⟨some 55, _, _, _, _, _⟩) (v := ?_) rfl (by kernel_rfl) (by kernel_rfl) (by kernel_rfl) (fun _ _ _ h => h) (Or.inl ⟨by kernel_rfl, ?_⟩) (by assumption) ?_
      rotate_left 1
      · (intro w hSw; (try dsimp only at hSw); go_simp) <;> (with_reducible rfl)
      (try simp only [Act.put, List.setIfInBounds_toArray, List.set_cons_succ, List.set_cons_zero])
      refine wpAnyH_take (i := 8) (oi := ⟨some 56, _, _, _, _, _⟩) (v := ?_) rfl (by kernel_rfl) (by kernel_rfl) (by kernel_rfl) (fun _ _ _ h => h) (Or.inl ⟨by kernel_rfl, ?_⟩) (by assumption) ?_
      rotate_left 1
      · (intro w hSw; (try dsimp only at hSw); go_simp) <;> (with_reducible rfl)
      (try simp only [Act.put, List.setIfInBounds_toArray, List.set_cons_succ, List.set_cons_zero])
      refine wpAnyH_ready (rs := [9]) (by kernel_rfl) (by simp) ?_
      refine AllReadyH.cons (o := _) rfl (fun K' hK => ?_) AllReadyH.nil
      go_simp
      refine hK.out _ _ ?_ (fun hHeld => ?_)
      · exact SB.out
      clear hK K'
      (try simp only [Act.put, List.setIfInBounds_toArray, List.set_cons_succ, List.set_cons_zero])
      refine wpAnyH_done (by kernel_rfl) ?_ _
      refine NoPanic.normal ?_
      go_wp2
      go_roundw
      case rel => exact ⟨k + 1, by omega, by go_num, hide (by rw [CK.out]; exact SET.out)⟩
      case measure => simp [intOf]; omega
    · obtain rfl : k = D.ca.length := by omega
      have x3 := FL.out.box.cell 3
      have f3 := FL.out.box.frozen 3
      simp at x3
      go_wp2
      go_end0
      have KS := hide (Kp.boxset (B := B) FL.out.box hBg 3 (.slice none 0 0))
      have KG := hide (FL.out.kp.trans (KpG.set wr hBg 3 (.slice none 0 0)))
      exact ⟨rfl, ⟨_, _, _, FL.out.box.put 3 _, FL.out.ob.kp KS.out (by decide) (by decide), OwnC.nil _ _, FL.out.oq.kp KS.out (by decide) (by decide)⟩, RQ.out.kpg KG.out X.out, KG.out.toH⟩
end Go.Proofs.Ytncdilkcblakhaa.Dv
