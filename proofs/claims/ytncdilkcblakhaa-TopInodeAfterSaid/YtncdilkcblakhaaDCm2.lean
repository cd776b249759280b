import Derived.Test.YtncdilkcblakhaaDCa1
import Derived.Test.YtncdilkcblakhaaDCm1
import Derived.Test.YtncdilkcblakhaaDRc3
namespace Go.Proofs.Ytncdilkcblakhaa.Dv
open Go Go.RowKit
set_option linter.unusedVariables false
/-- a request carried out: the device, the request that comes back -/
def carD (D : Dev) (q : Rq) : Dev := if q.2.1 = 2 then { D with ca := putD D.ca q.2.2.1 q.2.2.2 } else if q.2.1 = 3 then { D with bl := flK D.ca D.bl D.ca.length, ca := [] } else D
def carQ (D : Dev) (q : Rq) : Rq := if q.2.1 = 1 then (q.1, q.2.1, q.2.2.1, contD D q.2.2.1) else q
def delD (D : Dev) (p : Nat) : Dev := ⟨D.dep, D.nxt, D.bl, D.ca, D.qu.take p ++ D.qu.drop (p + 1)⟩
def cmD (D : Dev) (p : Nat) (ok : Bool) : Dev := if ok then carD (delD D p) (qAt D.qu p) else delD D p
def cmQ (D : Dev) (p : Nat) (ok : Bool) : Rq := if ok then carQ (delD D p) (qAt D.qu p) else qAt D.qu p
theorem req_kind {n : Nat} {k b : Int} {len : Nat} (h : reqE n k b len = 0) : k = 1 ∨ k = 2 ∨ k = 3 := by
  unfold reqE at h
  by_cases c : k ≠ 1 ∧ k ≠ 2 ∧ k ≠ 3
  · rw [if_pos c] at h; exact absurd h (by decide)
  · omega
theorem carry_any (B g h : Nat) (D : Dev) (q : Rq) (w : World) (hd : DevAtH B w g h D) (hr : ReqAt w h q) (hBg : B ≤ g) (hBh : B ≤ h) (hB : B ≤ w.heap.size) {qu0 : List Rq} (hk : chk { D with qu := qu0 } = 0) (hq : reqE D.bl.length q.2.1 q.2.2.1 q.2.2.2.length = 0) :
    Calls Try.prog 48 #[.pointer (some ⟨g, 0, none⟩), .pointer (some ⟨h, 0, none⟩)] w (CarR B g h (carD D q) (carQ D q) w) := by
  obtain ⟨i, k, b, x⟩ := q
  simp only at hq
  have hl := (req_len hq).1
  have hb := (req_len hq).2
  rcases req_kind hq with rfl | rfl | rfl
  · exact carry_read B g h D i b x w hd hr hBg hBh hB hk hb
  · exact carry_write B g h D i b x w hd.at hr hBg hB (by omega) (asc_ok (D := { D with qu := qu0 }) hk) (sm_ok hk).ca
  · exact carry_flush B g h D i b x w hd.at hr hBg hB hk
set_option maxHeartbeats 4000000 in
set_option maxRecDepth 100000 in
theorem complete_ok (v : Value) (D : Dev) (p : Nat) (ok : Bool) (w : World) (h : DevIn w v D) (hB : Big D) (hk : chk D = 0) (hp : p < D.qu.length) :
    Calls Try.prog 31 #[v, .int .i64 p, .bool ok] w (DqR (cmD D p ok) (cmQ D p ok) 0 w) := by
  obtain ⟨z0, z1, z2, l, hq⟩ : ∃ z0 z1 z2 l, qAt D.qu p = (z0, z1, z2, l) := ⟨_, _, _, _, rfl⟩
  have hqe := q_ok hk hp
  rw [hq] at hqe
  simp only at hqe
  obtain ⟨Ab, cb, Ac, cc, Aq, cq, rfl, h1, h2, h3, rb, rc, rq⟩ := h
  obtain ⟨W0, hW0⟩ : ∃ W0, W0 = ((w.alloc (.cells #[.int .i64 D.dep, .int .i64 D.nxt, .slice Ab D.bl.length cb, .slice Ac D.ca.length cc, .slice Aq D.qu.length cq] 57)).alloc (.cells #[.int .i64 0, .int .i64 0, .slice none 0 0, .slice none 0 0, .slice none 0 0] 57)).alloc (.cells #[.int .i64 0, .int .i64 0, .int .i64 0, .slice none 0 0] 67) := ⟨_, rfl⟩
  have K0 := hide (show Below w.heap.size w W0 by rw [hW0]; exact bal (bal (bal (brefl w) _) _) _)
  have X := hide (show Box W0 w.heap.size 57 #[.int .i64 D.dep, .int .i64 D.nxt, .slice Ab D.bl.length cb, .slice Ac D.ca.length cc, .slice Aq D.qu.length cq] by rw [hW0]; exact ((Box.new w 57 _).more _).more _)
  have Y := hide (show Box W0 (w.heap.size + 1) 57 #[.int .i64 0, .int .i64 0, .slice none 0 0, .slice none 0 0, .slice none 0 0] by rw [hW0]; exact (Box.new2 _ _ _ _).more _)
  have Z := hide (show Box W0 (w.heap.size + 2) 67 #[.int .i64 0, .int .i64 0, .int .i64 0, .slice none 0 0] by rw [hW0]; exact Box.new3 _ _ _ _ _)
  have IN := hide (show DevIn w (.agg #[.int .i64 D.dep, .int .i64 D.nxt, .slice Ab D.bl.length cb, .slice Ac D.ca.length cc, .slice Aq D.qu.length cq]) D from ⟨Ab, cb, Ac, cc, Aq, cq, rfl, h1, h2, h3, rb, rc, rq⟩)
  have C1 := hide (check_any _ D W0 (IN.out.below K0.out) hB)
  rw [hk] at C1
  have SM := hide (sm_ok hk)
  have HK := hide hk
  have hlqu := SM.out.qu
  have RQ := hide rq
  have HW := hide hW0
  have HQE := hide hqe
  have HQA := hide hq
  obtain ⟨E, hE⟩ : ∃ E, E = cmD D p ok := ⟨_, rfl⟩
  obtain ⟨y0, y1, y2, l2, hQ⟩ : ∃ y0 y1 y2 l2, cmQ D p ok = (y0, y1, y2, l2) := ⟨_, _, _, _, rfl⟩
  rw [← hE, hQ]
  have HE := hide hE
  have HQ2 := hide hQ
  clear rb rc rq hW0 hq hk hqe hE hQ
  have hp0 : ¬ (p : Int) < 0 := by omega
  have hp1 : ¬ (D.qu.length : Int) ≤ (p : Int) := by omega
  have hpp : (0 : Int) ≤ (p : Int) := by omega
  go_enter Try.func31, Try.ntmps31
  go_wp2_with fail
  rw [← HW.out]
  refine C1.out.mono ?_
  rintro e w1 ⟨rfl, hb⟩
  have K := hide hb
  clear hb
  obtain ⟨x0, x1, x2, x3, x4⟩ := box5_cells (W' := w1) (X.out.below K.out)
  go_upto_region 6 with fail
  go_cut [10, 11] (fun s10 s11 wx => ∃ g h : Nat, s10 = .pointer (some ⟨g, 0, none⟩) ∧ s11 = .pointer (some ⟨h, 0, none⟩) ∧ Hid (Cq w1 D (z0, z1, z2, l) g h wx))
  case first =>
    have K01 := hide (btrans K0.out K.out)
    obtain ⟨bq, oq, u, rfl, hbq, c0, c1, c2, c3, hu⟩ := RQ.out.cells K01.out hp
    rw [HQA.out] at c0 c1 c2 hu
    simp only at c0 c1 c2 hu
    obtain ⟨Aw, cw, rfl⟩ := hu.form
    have hbw : bq < w1.heap.size := Nat.lt_of_lt_of_le hbq K01.out.size
    have hsx : w.heap.size < w1.heap.size := Nat.lt_of_lt_of_le X.out.lt K.out.size
    have CE := hide (fun (W : World) (h : Below w1.heap.size w1 W) => (⟨(h.cell (p := ⟨w.heap.size, 0, none⟩) hsx).trans x0, (h.cell (p := ⟨w.heap.size, 1, none⟩) hsx).trans x1, (h.cell (p := ⟨w.heap.size, 2, none⟩) hsx).trans x2, (h.cell (p := ⟨w.heap.size, 3, none⟩) hsx).trans x3, (h.cell (p := ⟨w.heap.size, 4, none⟩) hsx).trans x4, (h.cell (p := ⟨bq, oq + p * 4, none⟩) hbw).trans c0, (h.cell (p := ⟨bq, oq + p * 4 + 1, none⟩) hbw).trans c1, (h.cell (p := ⟨bq, oq + p * 4 + 2, none⟩) hbw).trans c2, (h.cell (p := ⟨bq, oq + p * 4 + 3, none⟩) hbw).trans c3⟩ : W.cell? ⟨w.heap.size, 0, none⟩ = some (.int .i64 D.dep) ∧ W.cell? ⟨w.heap.size, 1, none⟩ = some (.int .i64 D.nxt) ∧ W.cell? ⟨w.heap.size, 2, none⟩ = some (.slice Ab D.bl.length cb) ∧ W.cell? ⟨w.heap.size, 3, none⟩ = some (.slice Ac D.ca.length cc) ∧ W.cell? ⟨w.heap.size, 4, none⟩ = some (.slice (some ⟨bq, oq, none⟩) D.qu.length cq) ∧ W.cell? ⟨bq, oq + p * 4, none⟩ = some (.int .i64 z0) ∧ W.cell? ⟨bq, oq + p * 4 + 1, none⟩ = some (.int .i64 z1) ∧ W.cell? ⟨bq, oq + p * 4 + 2, none⟩ = some (.int .i64 z2) ∧ W.cell? ⟨bq, oq + p * 4 + 3, none⟩ = some (.slice Aw l.length cw)))
    have CC := hide (fun W (hb : Below w1.heap.size w1 W) => clone_dev _ D W (IN.out.below (btrans K01.out hb)) SM.out)
    unfold DvR at CC
    have HLL := hide (show l.length ≤ 1000 by have := SM.out.qb _ (qAt_mem hp); rw [HQA.out] at this; exact this)
    have CR := hide (fun W (hb : Below w1.heap.size w1 W) => copyrq_any z0 z1 z2 _ l W (hu.below hb) HLL.out)
    unfold RqR at CR
    clear hu c0 c1 c2 c3 x0 x1 x2 x3 x4
    refine wp_region_noPanic ?_
    refine wp_region_held_drew (S := (fun W => W.cell? ⟨w.heap.size, 0, none⟩ = some (.int .i64 D.dep) ∧ W.cell? ⟨w.heap.size, 1, none⟩ = some (.int .i64 D.nxt) ∧ W.cell? ⟨w.heap.size, 2, none⟩ = some (.slice Ab D.bl.length cb) ∧ W.cell? ⟨w.heap.size, 3, none⟩ = some (.slice Ac D.ca.length cc) ∧ W.cell? ⟨w.heap.size, 4, none⟩ = some (.slice (some ⟨bq, oq, none⟩) D.qu.length cq) ∧ W.cell? ⟨bq, oq + p * 4, none⟩ = some (.int .i64 z0) ∧ W.cell? ⟨bq, oq + p * 4 + 1, none⟩ = some (.int .i64 z1) ∧ W.cell? ⟨bq, oq + p * 4 + 2, none⟩ = some (.int .i64 z2) ∧ W.cell? ⟨bq, oq + p * 4 + 3, none⟩ = some (.slice Aw l.length cw))) (by kernel_rfl) ?_ (fun hHeld => ?_)
    · exact CE.out _ (below_drew (brefl w1))
    have KK := hide (below_drew (brefl w1))
    generalize w1.drew = w0 at *
    refine wpAnyH_take (i := 0) (oi := ⟨some 30, _, _, _, _, _⟩) (v := ?_) rfl (by kernel_rfl) (by kernel_rfl) (by kernel_rfl) (fun _ _ _ h => h) (Or.inl ⟨by kernel_rfl, ?_⟩) (by assumption) ?_
    rotate_left 1
    · (intro w hSw; (try dsimp only at hSw); go_simp) <;> (with_reducible rfl)
    (try simp only [Act.put, List.setIfInBounds_toArray, List.set_cons_succ, List.set_cons_zero])
    refine wpAnyH_take (i := 2) (oi := ⟨some 32, _, _, _, _, _⟩) (v := ?_) rfl (by kernel_rfl) (by kernel_rfl) (by kernel_rfl) (fun _ _ _ h => h) (Or.inl ⟨by kernel_rfl, ?_⟩) (by assumption) ?_
    rotate_left 1
    · (intro w hSw; (try dsimp only at hSw); go_simp) <;> (with_reducible rfl)
    (try simp only [Act.put, List.setIfInBounds_toArray, List.set_cons_succ, List.set_cons_zero])
    refine wpAnyH_take (i := 3) (oi := ⟨some 33, _, _, _, _, _⟩) (v := ?_) rfl (by kernel_rfl) (by kernel_rfl) (by kernel_rfl) (fun _ _ _ h => h) (Or.inl ⟨by kernel_rfl, ?_⟩) (by assumption) ?_
    rotate_left 1
    · (intro w hSw; (try dsimp only at hSw); go_simp) <;> (with_reducible rfl)
    (try simp only [Act.put, List.setIfInBounds_toArray, List.set_cons_succ, List.set_cons_zero])
    refine wpAnyH_take (i := 4) (oi := ⟨some 34, _, _, _, _, _⟩) (v := ?_) rfl (by kernel_rfl) (by kernel_rfl) (by kernel_rfl) (fun _ _ _ h => h) (Or.inl ⟨by kernel_rfl, ?_⟩) (by assumption) ?_
    rotate_left 1
    · (intro w hSw; (try dsimp only at hSw); go_simp) <;> (with_reducible rfl)
    (try simp only [Act.put, List.setIfInBounds_toArray, List.set_cons_succ, List.set_cons_zero])
    refine wpAnyH_take (i := 5) (oi := ⟨some 35, _, _, _, _, _⟩) (v := ?_) rfl (by kernel_rfl) (by kernel_rfl) (by kernel_rfl) (fun _ _ _ h => h) (Or.inl ⟨by kernel_rfl, ?_⟩) (by assumption) ?_
    rotate_left 1
    · (intro w hSw; (try dsimp only at hSw); go_simp) <;> (with_reducible rfl)
    (try simp only [Act.put, List.setIfInBounds_toArray, List.set_cons_succ, List.set_cons_zero])
    refine wpAnyH_take (i := 6) (oi := ⟨some 36, _, _, _, _, _⟩) (v := ?_) rfl (by kernel_rfl) (by kernel_rfl) (by kernel_rfl) (fun _ _ _ h => h) (Or.inl ⟨by kernel_rfl, ?_⟩) (by assumption) ?_
    rotate_left 1
    · (intro w hSw; (try dsimp only at hSw); go_simp) <;> (with_reducible rfl)
    (try simp only [Act.put, List.setIfInBounds_toArray, List.set_cons_succ, List.set_cons_zero])
    refine wpAnyH_ready (rs := [1, 8, 9]) (by kernel_rfl) (by simp) ?_
    refine AllReadyH.cons (o := ⟨some 31, _, _, _, _, _⟩) rfl (fun K' hK => ?_) ?_
    · go_simp
      refine (CC.out _ KK.out).mono ?_
      rintro e wc ⟨v2, rfl, ho, hb⟩
      obtain ⟨vb, vc, vq, rfl, ob, oc, oq2⟩ := ho
      obtain ⟨E1, g1, rfl, _⟩ := ob.form
      obtain ⟨E2, g2, rfl, _⟩ := oc.form
      obtain ⟨E3, g3, rfl, _⟩ := oq2.form
      have OB := hide (ob.mono KK.out.size)
      have OC := hide (oc.mono KK.out.size)
      have OQ := hide (oq2.mono KK.out.size)
      replace KK := hide (btrans KK.out hb)
      clear hb ob oc oq2
      refine hK.out _ _ ?_ (fun hHeld => ?_)
      · exact CE.out _ KK.out
      clear hK K'
      (try simp only [Act.put, List.setIfInBounds_toArray, List.set_cons_succ, List.set_cons_zero])
      refine wpAnyH_ready (rs := [7, 8, 9]) (by kernel_rfl) (by simp) ?_
      refine AllReadyH.cons (o := ⟨some 37, _, _, _, _, _⟩) rfl (fun K' hK => ?_) ?_
      · go_simp
        refine (CR.out _ KK.out).mono ?_
        rintro e wd ⟨v3, rfl, ho, hb⟩
        obtain ⟨A3, d3, rfl⟩ := ho.form
        have HQ := hide ho
        replace OB := hide (OB.out.below hb)
        replace OC := hide (OC.out.below hb)
        replace OQ := hide (OQ.out.below hb)
        replace KK := hide (btrans KK.out hb)
        clear hb ho
        refine hK.out _ _ ?_ (fun hHeld => ?_)
        · exact CE.out _ KK.out
        clear hK K'
        (try simp only [Act.put, List.setIfInBounds_toArray, List.set_cons_succ, List.set_cons_zero])
        refine wpAnyH_ready (rs := [8, 9]) (by kernel_rfl) (by simp) ?_
        refine AllReadyH.cons (o := ⟨some 10, _, _, _, _, _⟩) rfl (fun K' hK => ?_) ?_
        · go_simp
          have BG := hide (Box.new wd 57 #[.int .i64 0, .int .i64 0, .slice none 0 0, .slice none 0 0, .slice none 0 0])
          have HGG := hide (show w1.heap.size ≤ wd.heap.size from KK.out.size)
          replace OB := hide (OB.out.below (bal (brefl _) (.cells #[.int .i64 0, .int .i64 0, .slice none 0 0, .slice none 0 0, .slice none 0 0] 57)))
          replace OC := hide (OC.out.below (bal (brefl _) (.cells #[.int .i64 0, .int .i64 0, .slice none 0 0, .slice none 0 0, .slice none 0 0] 57)))
          replace OQ := hide (OQ.out.below (bal (brefl _) (.cells #[.int .i64 0, .int .i64 0, .slice none 0 0, .slice none 0 0, .slice none 0 0] 57)))
          replace HQ := hide (HQ.out.below (bal (brefl _) (.cells #[.int .i64 0, .int .i64 0, .slice none 0 0, .slice none 0 0, .slice none 0 0] 57)))
          replace KK := hide (bal KK.out (.cells #[.int .i64 0, .int .i64 0, .slice none 0 0, .slice none 0 0, .slice none 0 0] 57))
          obtain ⟨gg, hgg⟩ : ∃ gg, gg = wd.heap.size := ⟨_, rfl⟩
          rw [← hgg] at BG HGG ⊢
          clear hgg
          generalize wd.alloc (.cells #[.int .i64 0, .int .i64 0, .slice none 0 0, .slice none 0 0, .slice none 0 0] 57) = we at *
          refine hK.out _ _ ?_ (fun hHeld => ?_)
          · exact CE.out _ KK.out
          clear hK K'
          (try simp only [Act.put, List.setIfInBounds_toArray, List.set_cons_succ, List.set_cons_zero])
          refine wpAnyH_ready (rs := [9]) (by kernel_rfl) (by simp) ?_
          refine AllReadyH.cons (o := ⟨some 11, _, _, _, _, _⟩) rfl (fun K' hK => ?_) AllReadyH.nil
          go_simp
          have BH := hide (Box.new we 67 #[.int .i64 0, .int .i64 0, .int .i64 0, .slice none 0 0])
          have HHH := hide (show w1.heap.size ≤ we.heap.size from KK.out.size)
          have NE := hide (row_own_lt OQ.out.choose_spec.2.1 (Nat.le_refl _))
          replace OB := hide (OB.out.below (bal (brefl _) (.cells #[.int .i64 0, .int .i64 0, .int .i64 0, .slice none 0 0] 67)))
          replace OC := hide (OC.out.below (bal (brefl _) (.cells #[.int .i64 0, .int .i64 0, .int .i64 0, .slice none 0 0] 67)))
          replace OQ := hide (OQ.out.below (bal (brefl _) (.cells #[.int .i64 0, .int .i64 0, .int .i64 0, .slice none 0 0] 67)))
          replace HQ := hide (HQ.out.below (bal (brefl _) (.cells #[.int .i64 0, .int .i64 0, .int .i64 0, .slice none 0 0] 67)))
          replace BG := hide (BG.out.below (bal (brefl _) (.cells #[.int .i64 0, .int .i64 0, .int .i64 0, .slice none 0 0] 67)))
          replace KK := hide (bal KK.out (.cells #[.int .i64 0, .int .i64 0, .int .i64 0, .slice none 0 0] 67))
          obtain ⟨hh, hhh⟩ : ∃ hh, hh = we.heap.size := ⟨_, rfl⟩
          rw [← hhh] at BH HHH NE ⊢
          clear hhh
          generalize we.alloc (.cells #[.int .i64 0, .int .i64 0, .int .i64 0, .slice none 0 0] 67) = wf at *
          refine hK.out _ _ ?_ (fun hHeld => ?_)
          · exact CE.out _ KK.out
          clear hK K'
          (try simp only [Act.put, List.setIfInBounds_toArray, List.set_cons_succ, List.set_cons_zero])
          refine wpAnyH_ready (rs := [10]) (by kernel_rfl) (by simp) ?_
          refine AllReadyH.cons (o := ⟨none, _, _, _, _, _⟩) rfl (fun K' hK => ?_) AllReadyH.nil
          obtain ⟨b0, b1, b2, b3, b4⟩ := box5_cells (W' := wf) BG.out
          have fb0 := BG.out.frozen 0
          have fb1 := BG.out.frozen 1
          have fb2 := BG.out.frozen 2
          have fb3 := BG.out.frozen 3
          have fb4 := BG.out.frozen 4
          go_simp
          have KS := hide (kp_set5 (B := w1.heap.size) BG.out HGG.out (.int .i64 D.dep) (.int .i64 D.nxt) (.slice E1 D.bl.length g1) (.slice E2 D.ca.length g2) (.slice E3 D.qu.length g3))
          replace OB := hide (OB.out.kp KS.out (by decide) (by decide))
          replace OC := hide (OC.out.kp KS.out (by decide) (by decide))
          replace OQ := hide (OQ.out.kp KS.out (by decide) (by decide))
          replace HQ := hide (HQ.out.kp KS.out (by decide))
          replace BH := hide (BH.out.kp KS.out (by decide))
          replace BG := hide (BG.out.set5 (.int .i64 D.dep) (.int .i64 D.nxt) (.slice E1 D.bl.length g1) (.slice E2 D.ca.length g2) (.slice E3 D.qu.length g3))
          replace KK := hide (KK.out.trans KS.out.below)
          clear b0 b1 b2 b3 b4 fb0 fb1 fb2 fb3 fb4 KS
          generalize ((((((wf.setCell ⟨gg, 0, none⟩ (.int .i64 D.dep)).setCell ⟨gg, 1, none⟩ (.int .i64 D.nxt)).setCell ⟨gg, 2, none⟩ (.slice E1 D.bl.length g1)).setCell ⟨gg, 3, none⟩ (.slice E2 D.ca.length g2)).setCell ⟨gg, 4, none⟩ (.slice E3 D.qu.length g3))) = wg at *
          refine hK.out _ _ ?_ (fun hHeld => ?_)
          · exact CE.out _ KK.out
          clear hK K'
          (try simp only [Act.put, List.setIfInBounds_toArray, List.set_cons_succ, List.set_cons_zero])
          refine wpAnyH_ready (rs := [11]) (by kernel_rfl) (by simp) ?_
          refine AllReadyH.cons (o := ⟨none, _, _, _, _, _⟩) rfl (fun K' hK => ?_) AllReadyH.nil
          obtain ⟨b0, b1, b2, b3⟩ := box4_cells BH.out
          have fb0 := BH.out.frozen 0
          have fb1 := BH.out.frozen 1
          have fb2 := BH.out.frozen 2
          have fb3 := BH.out.frozen 3
          go_simp
          have KS := hide (KpB.set4 wg hh (.int .i64 z0) (.int .i64 z1) (.int .i64 z2) (.slice A3 l.length d3))
          have GNH := hide (BG.out.ne BH.out (by decide))
          replace OB := hide (OB.out.kb KS.out BH.out (by decide) (by decide))
          replace OC := hide (OC.out.kb KS.out BH.out (by decide) (by decide))
          replace OQ := hide (OQ.out.kb KS.out BH.out (by decide) NE.out)
          replace HQ := hide (HQ.out.kb KS.out BH.out (by decide))
          replace BG := hide (BG.out.kb KS.out GNH.out)
          replace BH := hide (BH.out.set4 (.int .i64 z0) (.int .i64 z1) (.int .i64 z2) (.slice A3 l.length d3))
          replace KK := hide (show Below w1.heap.size w1 ((((wg.setCell ⟨hh, 0, none⟩ (.int .i64 z0)).setCell ⟨hh, 1, none⟩ (.int .i64 z1)).setCell ⟨hh, 2, none⟩ (.int .i64 z2)).setCell ⟨hh, 3, none⟩ (.slice A3 l.length d3)) from below_set4 KK.out HHH.out)
          clear b0 b1 b2 b3 fb0 fb1 fb2 fb3 KS
          generalize ((((wg.setCell ⟨hh, 0, none⟩ (.int .i64 z0)).setCell ⟨hh, 1, none⟩ (.int .i64 z1)).setCell ⟨hh, 2, none⟩ (.int .i64 z2)).setCell ⟨hh, 3, none⟩ (.slice A3 l.length d3)) = wh at *
          refine hK.out _ _ ?_ (fun hHeld => ?_)
          · exact CE.out _ KK.out
          clear hK K'
          (try simp only [Act.put, List.setIfInBounds_toArray, List.set_cons_succ, List.set_cons_zero])
          refine wpAnyH_done (by kernel_rfl) ?_ _
          refine NoPanic.normal ?_
          go_wp2_with fail
          go_meet
          exact ⟨gg, hh, rfl, rfl, hide ⟨KK.out, HGG.out, HHH.out, ⟨_, _, _, BG.out, OB.out, OC.out, OQ.out, NE.out⟩, ⟨_, BH.out, HQ.out⟩⟩⟩
        refine AllReadyH.cons (o := ⟨some 11, _, _, _, _, _⟩) rfl (fun K' hK => ?_) AllReadyH.nil
        go_simp
        have BH := hide (Box.new wd 67 #[.int .i64 0, .int .i64 0, .int .i64 0, .slice none 0 0])
        have HHH := hide (show w1.heap.size ≤ wd.heap.size from KK.out.size)
        have NE := hide (row_own_lt OQ.out.choose_spec.2.1 (Nat.le_refl _))
        replace OB := hide (OB.out.below (bal (brefl _) (.cells #[.int .i64 0, .int .i64 0, .int .i64 0, .slice none 0 0] 67)))
        replace OC := hide (OC.out.below (bal (brefl _) (.cells #[.int .i64 0, .int .i64 0, .int .i64 0, .slice none 0 0] 67)))
        replace OQ := hide (OQ.out.below (bal (brefl _) (.cells #[.int .i64 0, .int .i64 0, .int .i64 0, .slice none 0 0] 67)))
        replace HQ := hide (HQ.out.below (bal (brefl _) (.cells #[.int .i64 0, .int .i64 0, .int .i64 0, .slice none 0 0] 67)))
        replace KK := hide (bal KK.out (.cells #[.int .i64 0, .int .i64 0, .int .i64 0, .slice none 0 0] 67))
        obtain ⟨hh, hhh⟩ : ∃ hh, hh = wd.heap.size := ⟨_, rfl⟩
        rw [← hhh] at BH HHH NE ⊢
        clear hhh
        generalize wd.alloc (.cells #[.int .i64 0, .int .i64 0, .int .i64 0, .slice none 0 0] 67) = wf at *
        refine hK.out _ _ ?_ (fun hHeld => ?_)
        · exact CE.out _ KK.out
        clear hK K'
        (try simp only [Act.put, List.setIfInBounds_toArray, List.set_cons_succ, List.set_cons_zero])
        refine wpAnyH_ready (rs := [8]) (by kernel_rfl) (by simp) ?_
        refine AllReadyH.cons (o := ⟨some 10, _, _, _, _, _⟩) rfl (fun K' hK => ?_) AllReadyH.nil
        go_simp
        have BG := hide (Box.new wf 57 #[.int .i64 0, .int .i64 0, .slice none 0 0, .slice none 0 0, .slice none 0 0])
        have HGG := hide (show w1.heap.size ≤ wf.heap.size from KK.out.size)
        replace OB := hide (OB.out.below (bal (brefl _) (.cells #[.int .i64 0, .int .i64 0, .slice none 0 0, .slice none 0 0, .slice none 0 0] 57)))
        replace OC := hide (OC.out.below (bal (brefl _) (.cells #[.int .i64 0, .int .i64 0, .slice none 0 0, .slice none 0 0, .slice none 0 0] 57)))
        replace OQ := hide (OQ.out.below (bal (brefl _) (.cells #[.int .i64 0, .int .i64 0, .slice none 0 0, .slice none 0 0, .slice none 0 0] 57)))
        replace HQ := hide (HQ.out.below (bal (brefl _) (.cells #[.int .i64 0, .int .i64 0, .slice none 0 0, .slice none 0 0, .slice none 0 0] 57)))
        replace BH := hide (BH.out.below (bal (brefl _) (.cells #[.int .i64 0, .int .i64 0, .slice none 0 0, .slice none 0 0, .slice none 0 0] 57)))
        replace KK := hide (bal KK.out (.cells #[.int .i64 0, .int .i64 0, .slice none 0 0, .slice none 0 0, .slice none 0 0] 57))
        obtain ⟨gg, hgg⟩ : ∃ gg, gg = wf.heap.size := ⟨_, rfl⟩
        rw [← hgg] at BG HGG ⊢
        clear hgg
        generalize wf.alloc (.cells #[.int .i64 0, .int .i64 0, .slice none 0 0, .slice none 0 0, .slice none 0 0] 57) = we at *
        refine hK.out _ _ ?_ (fun hHeld => ?_)
        · exact CE.out _ KK.out
        clear hK K'
        (try simp only [Act.put, List.setIfInBounds_toArray, List.set_cons_succ, List.set_cons_zero])
        refine wpAnyH_ready (rs := [10]) (by kernel_rfl) (by simp) ?_
        refine AllReadyH.cons (o := ⟨none, _, _, _, _, _⟩) rfl (fun K' hK => ?_) AllReadyH.nil
        obtain ⟨b0, b1, b2, b3, b4⟩ := box5_cells (W' := we) BG.out
        have fb0 := BG.out.frozen 0
        have fb1 := BG.out.frozen 1
        have fb2 := BG.out.frozen 2
        have fb3 := BG.out.frozen 3
        have fb4 := BG.out.frozen 4
        go_simp
        have KS := hide (kp_set5 (B := w1.heap.size) BG.out HGG.out (.int .i64 D.dep) (.int .i64 D.nxt) (.slice E1 D.bl.length g1) (.slice E2 D.ca.length g2) (.slice E3 D.qu.length g3))
        replace OB := hide (OB.out.kp KS.out (by decide) (by decide))
        replace OC := hide (OC.out.kp KS.out (by decide) (by decide))
        replace OQ := hide (OQ.out.kp KS.out (by decide) (by decide))
        replace HQ := hide (HQ.out.kp KS.out (by decide))
        replace BH := hide (BH.out.kp KS.out (by decide))
        replace BG := hide (BG.out.set5 (.int .i64 D.dep) (.int .i64 D.nxt) (.slice E1 D.bl.length g1) (.slice E2 D.ca.length g2) (.slice E3 D.qu.length g3))
        replace KK := hide (KK.out.trans KS.out.below)
        clear b0 b1 b2 b3 b4 fb0 fb1 fb2 fb3 fb4 KS
        generalize ((((((we.setCell ⟨gg, 0, none⟩ (.int .i64 D.dep)).setCell ⟨gg, 1, none⟩ (.int .i64 D.nxt)).setCell ⟨gg, 2, none⟩ (.slice E1 D.bl.length g1)).setCell ⟨gg, 3, none⟩ (.slice E2 D.ca.length g2)).setCell ⟨gg, 4, none⟩ (.slice E3 D.qu.length g3))) = wg at *
        refine hK.out _ _ ?_ (fun hHeld => ?_)
        · exact CE.out _ KK.out
        clear hK K'
        (try simp only [Act.put, List.setIfInBounds_toArray, List.set_cons_succ, List.set_cons_zero])
        refine wpAnyH_ready (rs := [11]) (by kernel_rfl) (by simp) ?_
        refine AllReadyH.cons (o := ⟨none, _, _, _, _, _⟩) rfl (fun K' hK => ?_) AllReadyH.nil
        obtain ⟨b0, b1, b2, b3⟩ := box4_cells BH.out
        have fb0 := BH.out.frozen 0
        have fb1 := BH.out.frozen 1
        have fb2 := BH.out.frozen 2
        have fb3 := BH.out.frozen 3
        go_simp
        have KS := hide (KpB.set4 wg hh (.int .i64 z0) (.int .i64 z1) (.int .i64 z2) (.slice A3 l.length d3))
        have GNH := hide (BG.out.ne BH.out (by decide))
        replace OB := hide (OB.out.kb KS.out BH.out (by decide) (by decide))
        replace OC := hide (OC.out.kb KS.out BH.out (by decide) (by decide))
        replace OQ := hide (OQ.out.kb KS.out BH.out (by decide) NE.out)
        replace HQ := hide (HQ.out.kb KS.out BH.out (by decide))
        replace BG := hide (BG.out.kb KS.out GNH.out)
        replace BH := hide (BH.out.set4 (.int .i64 z0) (.int .i64 z1) (.int .i64 z2) (.slice A3 l.length d3))
        replace KK := hide (show Below w1.heap.size w1 ((((wg.setCell ⟨hh, 0, none⟩ (.int .i64 z0)).setCell ⟨hh, 1, none⟩ (.int .i64 z1)).setCell ⟨hh, 2, none⟩ (.int .i64 z2)).setCell ⟨hh, 3, none⟩ (.slice A3 l.length d3)) from below_set4 KK.out HHH.out)
        clear b0 b1 b2 b3 fb0 fb1 fb2 fb3 KS
        generalize ((((wg.setCell ⟨hh, 0, none⟩ (.int .i64 z0)).setCell ⟨hh, 1, none⟩ (.int .i64 z1)).setCell ⟨hh, 2, none⟩ (.int .i64 z2)).setCell ⟨hh, 3, none⟩ (.slice A3 l.length d3)) = wh at *
        refine hK.out _ _ ?_ (fun hHeld => ?_)
        · exact CE.out _ KK.out
        clear hK K'
        (try simp only [Act.put, List.setIfInBounds_toArray, List.set_cons_succ, List.set_cons_zero])
        refine wpAnyH_done (by kernel_rfl) ?_ _
        refine NoPanic.normal ?_
        go_wp2_with fail
        go_meet
        exact ⟨gg, hh, rfl, rfl, hide ⟨KK.out, HGG.out, HHH.out, ⟨_, _, _, BG.out, OB.out, OC.out, OQ.out, NE.out⟩, ⟨_, BH.out, HQ.out⟩⟩⟩
      refine AllReadyH.cons (o := ⟨some 10, _, _, _, _, _⟩) rfl (fun K' hK => ?_) ?_
      · go_simp
        have BG := hide (Box.new wc 57 #[.int .i64 0, .int .i64 0, .slice none 0 0, .slice none 0 0, .slice none 0 0])
        have HGG := hide (show w1.heap.size ≤ wc.heap.size from KK.out.size)
        replace OB := hide (OB.out.below (bal (brefl _) (.cells #[.int .i64 0, .int .i64 0, .slice none 0 0, .slice none 0 0, .slice none 0 0] 57)))
        replace OC := hide (OC.out.below (bal (brefl _) (.cells #[.int .i64 0, .int .i64 0, .slice none 0 0, .slice none 0 0, .slice none 0 0] 57)))
        replace OQ := hide (OQ.out.below (bal (brefl _) (.cells #[.int .i64 0, .int .i64 0, .slice none 0 0, .slice none 0 0, .slice none 0 0] 57)))
        replace KK := hide (bal KK.out (.cells #[.int .i64 0, .int .i64 0, .slice none 0 0, .slice none 0 0, .slice none 0 0] 57))
        obtain ⟨gg, hgg⟩ : ∃ gg, gg = wc.heap.size := ⟨_, rfl⟩
        rw [← hgg] at BG HGG ⊢
        clear hgg
        generalize wc.alloc (.cells #[.int .i64 0, .int .i64 0, .slice none 0 0, .slice none 0 0, .slice none 0 0] 57) = we at *
        refine hK.out _ _ ?_ (fun hHeld => ?_)
        · exact CE.out _ KK.out
        clear hK K'
        (try simp only [Act.put, List.setIfInBounds_toArray, List.set_cons_succ, List.set_cons_zero])
        refine wpAnyH_ready (rs := [7, 9]) (by kernel_rfl) (by simp) ?_
        refine AllReadyH.cons (o := ⟨some 37, _, _, _, _, _⟩) rfl (fun K' hK => ?_) ?_
        · go_simp
          refine (CR.out _ KK.out).mono ?_
          rintro e wd ⟨v3, rfl, ho, hb⟩
          obtain ⟨A3, d3, rfl⟩ := ho.form
          have HQ := hide ho
          replace OB := hide (OB.out.below hb)
          replace OC := hide (OC.out.below hb)
          replace OQ := hide (OQ.out.below hb)
          replace BG := hide (BG.out.below hb)
          replace KK := hide (btrans KK.out hb)
          clear hb ho
          refine hK.out _ _ ?_ (fun hHeld => ?_)
          · exact CE.out _ KK.out
          clear hK K'
          (try simp only [Act.put, List.setIfInBounds_toArray, List.set_cons_succ, List.set_cons_zero])
          refine wpAnyH_ready (rs := [9]) (by kernel_rfl) (by simp) ?_
          refine AllReadyH.cons (o := ⟨some 11, _, _, _, _, _⟩) rfl (fun K' hK => ?_) AllReadyH.nil
          go_simp
          have BH := hide (Box.new wd 67 #[.int .i64 0, .int .i64 0, .int .i64 0, .slice none 0 0])
          have HHH := hide (show w1.heap.size ≤ wd.heap.size from KK.out.size)
          have NE := hide (row_own_lt OQ.out.choose_spec.2.1 (Nat.le_refl _))
          replace OB := hide (OB.out.below (bal (brefl _) (.cells #[.int .i64 0, .int .i64 0, .int .i64 0, .slice none 0 0] 67)))
          replace OC := hide (OC.out.below (bal (brefl _) (.cells #[.int .i64 0, .int .i64 0, .int .i64 0, .slice none 0 0] 67)))
          replace OQ := hide (OQ.out.below (bal (brefl _) (.cells #[.int .i64 0, .int .i64 0, .int .i64 0, .slice none 0 0] 67)))
          replace HQ := hide (HQ.out.below (bal (brefl _) (.cells #[.int .i64 0, .int .i64 0, .int .i64 0, .slice none 0 0] 67)))
          replace BG := hide (BG.out.below (bal (brefl _) (.cells #[.int .i64 0, .int .i64 0, .int .i64 0, .slice none 0 0] 67)))
          replace KK := hide (bal KK.out (.cells #[.int .i64 0, .int .i64 0, .int .i64 0, .slice none 0 0] 67))
          obtain ⟨hh, hhh⟩ : ∃ hh, hh = wd.heap.size := ⟨_, rfl⟩
          rw [← hhh] at BH HHH NE ⊢
          clear hhh
          generalize wd.alloc (.cells #[.int .i64 0, .int .i64 0, .int .i64 0, .slice none 0 0] 67) = wf at *
          refine hK.out _ _ ?_ (fun hHeld => ?_)
          · exact CE.out _ KK.out
          clear hK K'
          (try simp only [Act.put, List.setIfInBounds_toArray, List.set_cons_succ, List.set_cons_zero])
          refine wpAnyH_ready (rs := [10]) (by kernel_rfl) (by simp) ?_
          refine AllReadyH.cons (o := ⟨none, _, _, _, _, _⟩) rfl (fun K' hK => ?_) AllReadyH.nil
          obtain ⟨b0, b1, b2, b3, b4⟩ := box5_cells (W' := wf) BG.out
          have fb0 := BG.out.frozen 0
          have fb1 := BG.out.frozen 1
          have fb2 := BG.out.frozen 2
          have fb3 := BG.out.frozen 3
          have fb4 := BG.out.frozen 4
          go_simp
          have KS := hide (kp_set5 (B := w1.heap.size) BG.out HGG.out (.int .i64 D.dep) (.int .i64 D.nxt) (.slice E1 D.bl.length g1) (.slice E2 D.ca.length g2) (.slice E3 D.qu.length g3))
          replace OB := hide (OB.out.kp KS.out (by decide) (by decide))
          replace OC := hide (OC.out.kp KS.out (by decide) (by decide))
          replace OQ := hide (OQ.out.kp KS.out (by decide) (by decide))
          replace HQ := hide (HQ.out.kp KS.out (by decide))
          replace BH := hide (BH.out.kp KS.out (by decide))
          replace BG := hide (BG.out.set5 (.int .i64 D.dep) (.int .i64 D.nxt) (.slice E1 D.bl.length g1) (.slice E2 D.ca.length g2) (.slice E3 D.qu.length g3))
          replace KK := hide (KK.out.trans KS.out.below)
          clear b0 b1 b2 b3 b4 fb0 fb1 fb2 fb3 fb4 KS
          generalize ((((((wf.setCell ⟨gg, 0, none⟩ (.int .i64 D.dep)).setCell ⟨gg, 1, none⟩ (.int .i64 D.nxt)).setCell ⟨gg, 2, none⟩ (.slice E1 D.bl.length g1)).setCell ⟨gg, 3, none⟩ (.slice E2 D.ca.length g2)).setCell ⟨gg, 4, none⟩ (.slice E3 D.qu.length g3))) = wg at *
          refine hK.out _ _ ?_ (fun hHeld => ?_)
          · exact CE.out _ KK.out
          clear hK K'
          (try simp only [Act.put, List.setIfInBounds_toArray, List.set_cons_succ, List.set_cons_zero])
          refine wpAnyH_ready (rs := [11]) (by kernel_rfl) (by simp) ?_
          refine AllReadyH.cons (o := ⟨none, _, _, _, _, _⟩) rfl (fun K' hK => ?_) AllReadyH.nil
          obtain ⟨b0, b1, b2, b3⟩ := box4_cells BH.out
          have fb0 := BH.out.frozen 0
          have fb1 := BH.out.frozen 1
          have fb2 := BH.out.frozen 2
          have fb3 := BH.out.frozen 3
          go_simp
          have KS := hide (KpB.set4 wg hh (.int .i64 z0) (.int .i64 z1) (.int .i64 z2) (.slice A3 l.length d3))
          have GNH := hide (BG.out.ne BH.out (by decide))
          replace OB := hide (OB.out.kb KS.out BH.out (by decide) (by decide))
          replace OC := hide (OC.out.kb KS.out BH.out (by decide) (by decide))
          replace OQ := hide (OQ.out.kb KS.out BH.out (by decide) NE.out)
          replace HQ := hide (HQ.out.kb KS.out BH.out (by decide))
          replace BG := hide (BG.out.kb KS.out GNH.out)
          replace BH := hide (BH.out.set4 (.int .i64 z0) (.int .i64 z1) (.int .i64 z2) (.slice A3 l.length d3))
          replace KK := hide (show Below w1.heap.size w1 ((((wg.setCell ⟨hh, 0, none⟩ (.int .i64 z0)).setCell ⟨hh, 1, none⟩ (.int .i64 z1)).setCell ⟨hh, 2, none⟩ (.int .i64 z2)).setCell ⟨hh, 3, none⟩ (.slice A3 l.length d3)) from below_set4 KK.out HHH.out)
          clear b0 b1 b2 b3 fb0 fb1 fb2 fb3 KS
          generalize ((((wg.setCell ⟨hh, 0, none⟩ (.int .i64 z0)).setCell ⟨hh, 1, none⟩ (.int .i64 z1)).setCell ⟨hh, 2, none⟩ (.int .i64 z2)).setCell ⟨hh, 3, none⟩ (.slice A3 l.length d3)) = wh at *
          refine hK.out _ _ ?_ (fun hHeld => ?_)
          · exact CE.out _ KK.out
          clear hK K'
          (try simp only [Act.put, List.setIfInBounds_toArray, List.set_cons_succ, List.set_cons_zero])
          refine wpAnyH_done (by kernel_rfl) ?_ _
          refine NoPanic.normal ?_
          go_wp2_with fail
          go_meet
          exact ⟨gg, hh, rfl, rfl, hide ⟨KK.out, HGG.out, HHH.out, ⟨_, _, _, BG.out, OB.out, OC.out, OQ.out, NE.out⟩, ⟨_, BH.out, HQ.out⟩⟩⟩
        refine AllReadyH.cons (o := ⟨some 11, _, _, _, _, _⟩) rfl (fun K' hK => ?_) AllReadyH.nil
        go_simp
        have BH := hide (Box.new we 67 #[.int .i64 0, .int .i64 0, .int .i64 0, .slice none 0 0])
        have HHH := hide (show w1.heap.size ≤ we.heap.size from KK.out.size)
        have NE := hide (row_own_lt OQ.out.choose_spec.2.1 (Nat.le_refl _))
        replace OB := hide (OB.out.below (bal (brefl _) (.cells #[.int .i64 0, .int .i64 0, .int .i64 0, .slice none 0 0] 67)))
        replace OC := hide (OC.out.below (bal (brefl _) (.cells #[.int .i64 0, .int .i64 0, .int .i64 0, .slice none 0 0] 67)))
        replace OQ := hide (OQ.out.below (bal (brefl _) (.cells #[.int .i64 0, .int .i64 0, .int .i64 0, .slice none 0 0] 67)))
        replace BG := hide (BG.out.below (bal (brefl _) (.cells #[.int .i64 0, .int .i64 0, .int .i64 0, .slice none 0 0] 67)))
        replace KK := hide (bal KK.out (.cells #[.int .i64 0, .int .i64 0, .int .i64 0, .slice none 0 0] 67))
        obtain ⟨hh, hhh⟩ : ∃ hh, hh = we.heap.size := ⟨_, rfl⟩
        rw [← hhh] at BH HHH NE ⊢
        clear hhh
        generalize we.alloc (.cells #[.int .i64 0, .int .i64 0, .int .i64 0, .slice none 0 0] 67) = wf at *
        refine hK.out _ _ ?_ (fun hHeld => ?_)
        · exact CE.out _ KK.out
        clear hK K'
        (try simp only [Act.put, List.setIfInBounds_toArray, List.set_cons_succ, List.set_cons_zero])
        refine wpAnyH_ready (rs := [7]) (by kernel_rfl) (by simp) ?_
        refine AllReadyH.cons (o := ⟨some 37, _, _, _, _, _⟩) rfl (fun K' hK => ?_) AllReadyH.nil
        go_simp
        refine (CR.out _ KK.out).mono ?_
        rintro e wd ⟨v3, rfl, ho, hb⟩
        obtain ⟨A3, d3, rfl⟩ := ho.form
        have HQ := hide ho
        replace OB := hide (OB.out.below hb)
        replace OC := hide (OC.out.below hb)
        replace OQ := hide (OQ.out.below hb)
        replace BG := hide (BG.out.below hb)
        replace BH := hide (BH.out.below hb)
        replace KK := hide (btrans KK.out hb)
        clear hb ho
        refine hK.out _ _ ?_ (fun hHeld => ?_)
        · exact CE.out _ KK.out
        clear hK K'
        (try simp only [Act.put, List.setIfInBounds_toArray, List.set_cons_succ, List.set_cons_zero])
        refine wpAnyH_ready (rs := [10]) (by kernel_rfl) (by simp) ?_
        refine AllReadyH.cons (o := ⟨none, _, _, _, _, _⟩) rfl (fun K' hK => ?_) AllReadyH.nil
        obtain ⟨b0, b1, b2, b3, b4⟩ := box5_cells (W' := wd) BG.out
        have fb0 := BG.out.frozen 0
        have fb1 := BG.out.frozen 1
        have fb2 := BG.out.frozen 2
        have fb3 := BG.out.frozen 3
        have fb4 := BG.out.frozen 4
        go_simp
        have KS := hide (kp_set5 (B := w1.heap.size) BG.out HGG.out (.int .i64 D.dep) (.int .i64 D.nxt) (.slice E1 D.bl.length g1) (.slice E2 D.ca.length g2) (.slice E3 D.qu.length g3))
        replace OB := hide (OB.out.kp KS.out (by decide) (by decide))
        replace OC := hide (OC.out.kp KS.out (by decide) (by decide))
        replace OQ := hide (OQ.out.kp KS.out (by decide) (by decide))
        replace HQ := hide (HQ.out.kp KS.out (by decide))
        replace BH := hide (BH.out.kp KS.out (by decide))
        replace BG := hide (BG.out.set5 (.int .i64 D.dep) (.int .i64 D.nxt) (.slice E1 D.bl.length g1) (.slice E2 D.ca.length g2) (.slice E3 D.qu.length g3))
        replace KK := hide (KK.out.trans KS.out.below)
        clear b0 b1 b2 b3 b4 fb0 fb1 fb2 fb3 fb4 KS
        generalize ((((((wd.setCell ⟨gg, 0, none⟩ (.int .i64 D.dep)).setCell ⟨gg, 1, none⟩ (.int .i64 D.nxt)).setCell ⟨gg, 2, none⟩ (.slice E1 D.bl.length g1)).setCell ⟨gg, 3, none⟩ (.slice E2 D.ca.length g2)).setCell ⟨gg, 4, none⟩ (.slice E3 D.qu.length g3))) = wg at *
        refine hK.out _ _ ?_ (fun hHeld => ?_)
        · exact CE.out _ KK.out
        clear hK K'
        (try simp only [Act.put, List.setIfInBounds_toArray, List.set_cons_succ, List.set_cons_zero])
        refine wpAnyH_ready (rs := [11]) (by kernel_rfl) (by simp) ?_
        refine AllReadyH.cons (o := ⟨none, _, _, _, _, _⟩) rfl (fun K' hK => ?_) AllReadyH.nil
        obtain ⟨b0, b1, b2, b3⟩ := box4_cells BH.out
        have fb0 := BH.out.frozen 0
        have fb1 := BH.out.frozen 1
        have fb2 := BH.out.frozen 2
        have fb3 := BH.out.frozen 3
        go_simp
        have KS := hide (KpB.set4 wg hh (.int .i64 z0) (.int .i64 z1) (.int .i64 z2) (.slice A3 l.length d3))
        have GNH := hide (BG.out.ne BH.out (by decide))
        replace OB := hide (OB.out.kb KS.out BH.out (by decide) (by decide))
        replace OC := hide (OC.out.kb KS.out BH.out (by decide) (by decide))
        replace OQ := hide (OQ.out.kb KS.out BH.out (by decide) NE.out)
        replace HQ := hide (HQ.out.kb KS.out BH.out (by decide))
        replace BG := hide (BG.out.kb KS.out GNH.out)
        replace BH := hide (BH.out.set4 (.int .i64 z0) (.int .i64 z1) (.int .i64 z2) (.slice A3 l.length d3))
        replace KK := hide (show Below w1.heap.size w1 ((((wg.setCell ⟨hh, 0, none⟩ (.int .i64 z0)).setCell ⟨hh, 1, none⟩ (.int .i64 z1)).setCell ⟨hh, 2, none⟩ (.int .i64 z2)).setCell ⟨hh, 3, none⟩ (.slice A3 l.length d3)) from below_set4 KK.out HHH.out)
        clear b0 b1 b2 b3 fb0 fb1 fb2 fb3 KS
        generalize ((((wg.setCell ⟨hh, 0, none⟩ (.int .i64 z0)).setCell ⟨hh, 1, none⟩ (.int .i64 z1)).setCell ⟨hh, 2, none⟩ (.int .i64 z2)).setCell ⟨hh, 3, none⟩ (.slice A3 l.length d3)) = wh at *
        refine hK.out _ _ ?_ (fun hHeld => ?_)
        · exact CE.out _ KK.out
        clear hK K'
        (try simp only [Act.put, List.setIfInBounds_toArray, List.set_cons_succ, List.set_cons_zero])
        refine wpAnyH_done (by kernel_rfl) ?_ _
        refine NoPanic.normal ?_
        go_wp2_with fail
        go_meet
        exact ⟨gg, hh, rfl, rfl, hide ⟨KK.out, HGG.out, HHH.out, ⟨_, _, _, BG.out, OB.out, OC.out, OQ.out, NE.out⟩, ⟨_, BH.out, HQ.out⟩⟩⟩
      refine AllReadyH.cons (o := ⟨some 11, _, _, _, _, _⟩) rfl (fun K' hK => ?_) AllReadyH.nil
      go_simp
      have BH := hide (Box.new wc 67 #[.int .i64 0, .int .i64 0, .int .i64 0, .slice none 0 0])
      have HHH := hide (show w1.heap.size ≤ wc.heap.size from KK.out.size)
      have NE := hide (row_own_lt OQ.out.choose_spec.2.1 (Nat.le_refl _))
      replace OB := hide (OB.out.below (bal (brefl _) (.cells #[.int .i64 0, .int .i64 0, .int .i64 0, .slice none 0 0] 67)))
      replace OC := hide (OC.out.below (bal (brefl _) (.cells #[.int .i64 0, .int .i64 0, .int .i64 0, .slice none 0 0] 67)))
      replace OQ := hide (OQ.out.below (bal (brefl _) (.cells #[.int .i64 0, .int .i64 0, .int .i64 0, .slice none 0 0] 67)))
      replace KK := hide (bal KK.out (.cells #[.int .i64 0, .int .i64 0, .int .i64 0, .slice none 0 0] 67))
      obtain ⟨hh, hhh⟩ : ∃ hh, hh = wc.heap.size := ⟨_, rfl⟩
      rw [← hhh] at BH HHH NE ⊢
      clear hhh
      generalize wc.alloc (.cells #[.int .i64 0, .int .i64 0, .int .i64 0, .slice none 0 0] 67) = wf at *
      refine hK.out _ _ ?_ (fun hHeld => ?_)
      · exact CE.out _ KK.out
      clear hK K'
      (try simp only [Act.put, List.setIfInBounds_toArray, List.set_cons_succ, List.set_cons_zero])
      refine wpAnyH_ready (rs := [7, 8]) (by kernel_rfl) (by simp) ?_
      refine AllReadyH.cons (o := ⟨some 37, _, _, _, _, _⟩) rfl (fun K' hK => ?_) ?_
      · go_simp
        refine (CR.out _ KK.out).mono ?_
        rintro e wd ⟨v3, rfl, ho, hb⟩
        obtain ⟨A3, d3, rfl⟩ := ho.form
        have HQ := hide ho
        replace OB := hide (OB.out.below hb)
        replace OC := hide (OC.out.below hb)
        replace OQ := hide (OQ.out.below hb)
        replace BH := hide (BH.out.below hb)
        replace KK := hide (btrans KK.out hb)
        clear hb ho
        refine hK.out _ _ ?_ (fun hHeld => ?_)
        · exact CE.out _ KK.out
        clear hK K'
        (try simp only [Act.put, List.setIfInBounds_toArray, List.set_cons_succ, List.set_cons_zero])
        refine wpAnyH_ready (rs := [8]) (by kernel_rfl) (by simp) ?_
        refine AllReadyH.cons (o := ⟨some 10, _, _, _, _, _⟩) rfl (fun K' hK => ?_) AllReadyH.nil
        go_simp
        have BG := hide (Box.new wd 57 #[.int .i64 0, .int .i64 0, .slice none 0 0, .slice none 0 0, .slice none 0 0])
        have HGG := hide (show w1.heap.size ≤ wd.heap.size from KK.out.size)
        replace OB := hide (OB.out.below (bal (brefl _) (.cells #[.int .i64 0, .int .i64 0, .slice none 0 0, .slice none 0 0, .slice none 0 0] 57)))
        replace OC := hide (OC.out.below (bal (brefl _) (.cells #[.int .i64 0, .int .i64 0, .slice none 0 0, .slice none 0 0, .slice none 0 0] 57)))
        replace OQ := hide (OQ.out.below (bal (brefl _) (.cells #[.int .i64 0, .int .i64 0, .slice none 0 0, .slice none 0 0, .slice none 0 0] 57)))
        replace HQ := hide (HQ.out.below (bal (brefl _) (.cells #[.int .i64 0, .int .i64 0, .slice none 0 0, .slice none 0 0, .slice none 0 0] 57)))
        replace BH := hide (BH.out.below (bal (brefl _) (.cells #[.int .i64 0, .int .i64 0, .slice none 0 0, .slice none 0 0, .slice none 0 0] 57)))
        replace KK := hide (bal KK.out (.cells #[.int .i64 0, .int .i64 0, .slice none 0 0, .slice none 0 0, .slice none 0 0] 57))
        obtain ⟨gg, hgg⟩ : ∃ gg, gg = wd.heap.size := ⟨_, rfl⟩
        rw [← hgg] at BG HGG ⊢
        clear hgg
        generalize wd.alloc (.cells #[.int .i64 0, .int .i64 0, .slice none 0 0, .slice none 0 0, .slice none 0 0] 57) = we at *
        refine hK.out _ _ ?_ (fun hHeld => ?_)
        · exact CE.out _ KK.out
        clear hK K'
        (try simp only [Act.put, List.setIfInBounds_toArray, List.set_cons_succ, List.set_cons_zero])
        refine wpAnyH_ready (rs := [10]) (by kernel_rfl) (by simp) ?_
        refine AllReadyH.cons (o := ⟨none, _, _, _, _, _⟩) rfl (fun K' hK => ?_) AllReadyH.nil
        obtain ⟨b0, b1, b2, b3, b4⟩ := box5_cells (W' := we) BG.out
        have fb0 := BG.out.frozen 0
        have fb1 := BG.out.frozen 1
        have fb2 := BG.out.frozen 2
        have fb3 := BG.out.frozen 3
        have fb4 := BG.out.frozen 4
        go_simp
        have KS := hide (kp_set5 (B := w1.heap.size) BG.out HGG.out (.int .i64 D.dep) (.int .i64 D.nxt) (.slice E1 D.bl.length g1) (.slice E2 D.ca.length g2) (.slice E3 D.qu.length g3))
        replace OB := hide (OB.out.kp KS.out (by decide) (by decide))
        replace OC := hide (OC.out.kp KS.out (by decide) (by decide))
        replace OQ := hide (OQ.out.kp KS.out (by decide) (by decide))
        replace HQ := hide (HQ.out.kp KS.out (by decide))
        replace BH := hide (BH.out.kp KS.out (by decide))
        replace BG := hide (BG.out.set5 (.int .i64 D.dep) (.int .i64 D.nxt) (.slice E1 D.bl.length g1) (.slice E2 D.ca.length g2) (.slice E3 D.qu.length g3))
        replace KK := hide (KK.out.trans KS.out.below)
        clear b0 b1 b2 b3 b4 fb0 fb1 fb2 fb3 fb4 KS
        generalize ((((((we.setCell ⟨gg, 0, none⟩ (.int .i64 D.dep)).setCell ⟨gg, 1, none⟩ (.int .i64 D.nxt)).setCell ⟨gg, 2, none⟩ (.slice E1 D.bl.length g1)).setCell ⟨gg, 3, none⟩ (.slice E2 D.ca.length g2)).setCell ⟨gg, 4, none⟩ (.slice E3 D.qu.length g3))) = wg at *
        refine hK.out _ _ ?_ (fun hHeld => ?_)
        · exact CE.out _ KK.out
        clear hK K'
        (try simp only [Act.put, List.setIfInBounds_toArray, List.set_cons_succ, List.set_cons_zero])
        refine wpAnyH_ready (rs := [11]) (by kernel_rfl) (by simp) ?_
        refine AllReadyH.cons (o := ⟨none, _, _, _, _, _⟩) rfl (fun K' hK => ?_) AllReadyH.nil
        obtain ⟨b0, b1, b2, b3⟩ := box4_cells BH.out
        have fb0 := BH.out.frozen 0
        have fb1 := BH.out.frozen 1
        have fb2 := BH.out.frozen 2
        have fb3 := BH.out.frozen 3
        go_simp
        have KS := hide (KpB.set4 wg hh (.int .i64 z0) (.int .i64 z1) (.int .i64 z2) (.slice A3 l.length d3))
        have GNH := hide (BG.out.ne BH.out (by decide))
        replace OB := hide (OB.out.kb KS.out BH.out (by decide) (by decide))
        replace OC := hide (OC.out.kb KS.out BH.out (by decide) (by decide))
        replace OQ := hide (OQ.out.kb KS.out BH.out (by decide) NE.out)
        replace HQ := hide (HQ.out.kb KS.out BH.out (by decide))
        replace BG := hide (BG.out.kb KS.out GNH.out)
        replace BH := hide (BH.out.set4 (.int .i64 z0) (.int .i64 z1) (.int .i64 z2) (.slice A3 l.length d3))
        replace KK := hide (show Below w1.heap.size w1 ((((wg.setCell ⟨hh, 0, none⟩ (.int .i64 z0)).setCell ⟨hh, 1, none⟩ (.int .i64 z1)).setCell ⟨hh, 2, none⟩ (.int .i64 z2)).setCell ⟨hh, 3, none⟩ (.slice A3 l.length d3)) from below_set4 KK.out HHH.out)
        clear b0 b1 b2 b3 fb0 fb1 fb2 fb3 KS
        generalize ((((wg.setCell ⟨hh, 0, none⟩ (.int .i64 z0)).setCell ⟨hh, 1, none⟩ (.int .i64 z1)).setCell ⟨hh, 2, none⟩ (.int .i64 z2)).setCell ⟨hh, 3, none⟩ (.slice A3 l.length d3)) = wh at *
        refine hK.out _ _ ?_ (fun hHeld => ?_)
        · exact CE.out _ KK.out
        clear hK K'
        (try simp only [Act.put, List.setIfInBounds_toArray, List.set_cons_succ, List.set_cons_zero])
        refine wpAnyH_done (by kernel_rfl) ?_ _
        refine NoPanic.normal ?_
        go_wp2_with fail
        go_meet
        exact ⟨gg, hh, rfl, rfl, hide ⟨KK.out, HGG.out, HHH.out, ⟨_, _, _, BG.out, OB.out, OC.out, OQ.out, NE.out⟩, ⟨_, BH.out, HQ.out⟩⟩⟩
      refine AllReadyH.cons (o := ⟨some 10, _, _, _, _, _⟩) rfl (fun K' hK => ?_) AllReadyH.nil
      go_simp
      have BG := hide (Box.new wf 57 #[.int .i64 0, .int .i64 0, .slice none 0 0, .slice none 0 0, .slice none 0 0])
      have HGG := hide (show w1.heap.size ≤ wf.heap.size from KK.out.size)
      replace OB := hide (OB.out.below (bal (brefl _) (.cells #[.int .i64 0, .int .i64 0, .slice none 0 0, .slice none 0 0, .slice none 0 0] 57)))
      replace OC := hide (OC.out.below (bal (brefl _) (.cells #[.int .i64 0, .int .i64 0, .slice none 0 0, .slice none 0 0, .slice none 0 0] 57)))
      replace OQ := hide (OQ.out.below (bal (brefl _) (.cells #[.int .i64 0, .int .i64 0, .slice none 0 0, .slice none 0 0, .slice none 0 0] 57)))
      replace BH := hide (BH.out.below (bal (brefl _) (.cells #[.int .i64 0, .int .i64 0, .slice none 0 0, .slice none 0 0, .slice none 0 0] 57)))
      replace KK := hide (bal KK.out (.cells #[.int .i64 0, .int .i64 0, .slice none 0 0, .slice none 0 0, .slice none 0 0] 57))
      obtain ⟨gg, hgg⟩ : ∃ gg, gg = wf.heap.size := ⟨_, rfl⟩
      rw [← hgg] at BG HGG ⊢
      clear hgg
      generalize wf.alloc (.cells #[.int .i64 0, .int .i64 0, .slice none 0 0, .slice none 0 0, .slice none 0 0] 57) = we at *
      refine hK.out _ _ ?_ (fun hHeld => ?_)
      · exact CE.out _ KK.out
      clear hK K'
      (try simp only [Act.put, List.setIfInBounds_toArray, List.set_cons_succ, List.set_cons_zero])
      refine wpAnyH_ready (rs := [7]) (by kernel_rfl) (by simp) ?_
      refine AllReadyH.cons (o := ⟨some 37, _, _, _, _, _⟩) rfl (fun K' hK => ?_) AllReadyH.nil
      go_simp
      refine (CR.out _ KK.out).mono ?_
      rintro e wd ⟨v3, rfl, ho, hb⟩
      obtain ⟨A3, d3, rfl⟩ := ho.form
      have HQ := hide ho
      replace OB := hide (OB.out.below hb)
      replace OC := hide (OC.out.below hb)
      replace OQ := hide (OQ.out.below hb)
      replace BG := hide (BG.out.below hb)
      replace BH := hide (BH.out.below hb)
      replace KK := hide (btrans KK.out hb)
      clear hb ho
      refine hK.out _ _ ?_ (fun hHeld => ?_)
      · exact CE.out _ KK.out
      clear hK K'
      (try simp only [Act.put, List.setIfInBounds_toArray, List.set_cons_succ, List.set_cons_zero])
      refine wpAnyH_ready (rs := [10]) (by kernel_rfl) (by simp) ?_
      refine AllReadyH.cons (o := ⟨none, _, _, _, _, _⟩) rfl (fun K' hK => ?_) AllReadyH.nil
      obtain ⟨b0, b1, b2, b3, b4⟩ := box5_cells (W' := wd) BG.out
      have fb0 := BG.out.frozen 0
      have fb1 := BG.out.frozen 1
      have fb2 := BG.out.frozen 2
      have fb3 := BG.out.frozen 3
      have fb4 := BG.out.frozen 4
      go_simp
      have KS := hide (kp_set5 (B := w1.heap.size) BG.out HGG.out (.int .i64 D.dep) (.int .i64 D.nxt) (.slice E1 D.bl.length g1) (.slice E2 D.ca.length g2) (.slice E3 D.qu.length g3))
      replace OB := hide (OB.out.kp KS.out (by decide) (by decide))
      replace OC := hide (OC.out.kp KS.out (by decide) (by decide))
      replace OQ := hide (OQ.out.kp KS.out (by decide) (by decide))
      replace HQ := hide (HQ.out.kp KS.out (by decide))
      replace BH := hide (BH.out.kp KS.out (by decide))
      replace BG := hide (BG.out.set5 (.int .i64 D.dep) (.int .i64 D.nxt) (.slice E1 D.bl.length g1) (.slice E2 D.ca.length g2) (.slice E3 D.qu.length g3))
      replace KK := hide (KK.out.trans KS.out.below)
      clear b0 b1 b2 b3 b4 fb0 fb1 fb2 fb3 fb4 KS
      generalize ((((((wd.setCell ⟨gg, 0, none⟩ (.int .i64 D.dep)).setCell ⟨gg, 1, none⟩ (.int .i64 D.nxt)).setCell ⟨gg, 2, none⟩ (.slice E1 D.bl.length g1)).setCell ⟨gg, 3, none⟩ (.slice E2 D.ca.length g2)).setCell ⟨gg, 4, none⟩ (.slice E3 D.qu.length g3))) = wg at *
      refine hK.out _ _ ?_ (fun hHeld => ?_)
      · exact CE.out _ KK.out
      clear hK K'
      (try simp only [Act.put, List.setIfInBounds_toArray, List.set_cons_succ, List.set_cons_zero])
      refine wpAnyH_ready (rs := [11]) (by kernel_rfl) (by simp) ?_
      refine AllReadyH.cons (o := ⟨none, _, _, _, _, _⟩) rfl (fun K' hK => ?_) AllReadyH.nil
      obtain ⟨b0, b1, b2, b3⟩ := box4_cells BH.out
      have fb0 := BH.out.frozen 0
      have fb1 := BH.out.frozen 1
      have fb2 := BH.out.frozen 2
      have fb3 := BH.out.frozen 3
      go_simp
      have KS := hide (KpB.set4 wg hh (.int .i64 z0) (.int .i64 z1) (.int .i64 z2) (.slice A3 l.length d3))
      have GNH := hide (BG.out.ne BH.out (by decide))
      replace OB := hide (OB.out.kb KS.out BH.out (by decide) (by decide))
      replace OC := hide (OC.out.kb KS.out BH.out (by decide) (by decide))
      replace OQ := hide (OQ.out.kb KS.out BH.out (by decide) NE.out)
      replace HQ := hide (HQ.out.kb KS.out BH.out (by decide))
      replace BG := hide (BG.out.kb KS.out GNH.out)
      replace BH := hide (BH.out.set4 (.int .i64 z0) (.int .i64 z1) (.int .i64 z2) (.slice A3 l.length d3))
      replace KK := hide (show Below w1.heap.size w1 ((((wg.setCell ⟨hh, 0, none⟩ (.int .i64 z0)).setCell ⟨hh, 1, none⟩ (.int .i64 z1)).setCell ⟨hh, 2, none⟩ (.int .i64 z2)).setCell ⟨hh, 3, none⟩ (.slice A3 l.length d3)) from below_set4 KK.out HHH.out)
      clear b0 b1 b2 b3 fb0 fb1 fb2 fb3 KS
      generalize ((((wg.setCell ⟨hh, 0, none⟩ (.int .i64 z0)).setCell ⟨hh, 1, none⟩ (.int .i64 z1)).setCell ⟨hh, 2, none⟩ (.int .i64 z2)).setCell ⟨hh, 3, none⟩ (.slice A3 l.length d3)) = wh at *
      refine hK.out _ _ ?_ (fun hHeld => ?_)
      · exact CE.out _ KK.out
      clear hK K'
      (try simp only [Act.put, List.setIfInBounds_toArray, List.set_cons_succ, List.set_cons_zero])
      refine wpAnyH_done (by kernel_rfl) ?_ _
      refine NoPanic.normal ?_
      go_wp2_with fail
      go_meet
      exact ⟨gg, hh, rfl, rfl, hide ⟨KK.out, HGG.out, HHH.out, ⟨_, _, _, BG.out, OB.out, OC.out, OQ.out, NE.out⟩, ⟨_, BH.out, HQ.out⟩⟩⟩
    refine AllReadyH.cons (o := ⟨some 10, _, _, _, _, _⟩) rfl (fun K' hK => ?_) ?_
    · go_simp
      have BG := hide (Box.new w0 57 #[.int .i64 0, .int .i64 0, .slice none 0 0, .slice none 0 0, .slice none 0 0])
      have HGG := hide (show w1.heap.size ≤ w0.heap.size from KK.out.size)
      replace KK := hide (bal KK.out (.cells #[.int .i64 0, .int .i64 0, .slice none 0 0, .slice none 0 0, .slice none 0 0] 57))
      obtain ⟨gg, hgg⟩ : ∃ gg, gg = w0.heap.size := ⟨_, rfl⟩
      rw [← hgg] at BG HGG ⊢
      clear hgg
      generalize w0.alloc (.cells #[.int .i64 0, .int .i64 0, .slice none 0 0, .slice none 0 0, .slice none 0 0] 57) = we at *
      refine hK.out _ _ ?_ (fun hHeld => ?_)
      · exact CE.out _ KK.out
      clear hK K'
      (try simp only [Act.put, List.setIfInBounds_toArray, List.set_cons_succ, List.set_cons_zero])
      refine wpAnyH_ready (rs := [1, 9]) (by kernel_rfl) (by simp) ?_
      refine AllReadyH.cons (o := ⟨some 31, _, _, _, _, _⟩) rfl (fun K' hK => ?_) ?_
      · go_simp
        refine (CC.out _ KK.out).mono ?_
        rintro e wc ⟨v2, rfl, ho, hb⟩
        obtain ⟨vb, vc, vq, rfl, ob, oc, oq2⟩ := ho
        obtain ⟨E1, g1, rfl, _⟩ := ob.form
        obtain ⟨E2, g2, rfl, _⟩ := oc.form
        obtain ⟨E3, g3, rfl, _⟩ := oq2.form
        have OB := hide (ob.mono KK.out.size)
        have OC := hide (oc.mono KK.out.size)
        have OQ := hide (oq2.mono KK.out.size)
        replace BG := hide (BG.out.below hb)
        replace KK := hide (btrans KK.out hb)
        clear hb ob oc oq2
        refine hK.out _ _ ?_ (fun hHeld => ?_)
        · exact CE.out _ KK.out
        clear hK K'
        (try simp only [Act.put, List.setIfInBounds_toArray, List.set_cons_succ, List.set_cons_zero])
        refine wpAnyH_ready (rs := [7, 9]) (by kernel_rfl) (by simp) ?_
        refine AllReadyH.cons (o := ⟨some 37, _, _, _, _, _⟩) rfl (fun K' hK => ?_) ?_
        · go_simp
          refine (CR.out _ KK.out).mono ?_
          rintro e wd ⟨v3, rfl, ho, hb⟩
          obtain ⟨A3, d3, rfl⟩ := ho.form
          have HQ := hide ho
          replace OB := hide (OB.out.below hb)
          replace OC := hide (OC.out.below hb)
          replace OQ := hide (OQ.out.below hb)
          replace BG := hide (BG.out.below hb)
          replace KK := hide (btrans KK.out hb)
          clear hb ho
          refine hK.out _ _ ?_ (fun hHeld => ?_)
          · exact CE.out _ KK.out
          clear hK K'
          (try simp only [Act.put, List.setIfInBounds_toArray, List.set_cons_succ, List.set_cons_zero])
          refine wpAnyH_ready (rs := [9]) (by kernel_rfl) (by simp) ?_
          refine AllReadyH.cons (o := ⟨some 11, _, _, _, _, _⟩) rfl (fun K' hK => ?_) AllReadyH.nil
          go_simp
          have BH := hide (Box.new wd 67 #[.int .i64 0, .int .i64 0, .int .i64 0, .slice none 0 0])
          have HHH := hide (show w1.heap.size ≤ wd.heap.size from KK.out.size)
          have NE := hide (row_own_lt OQ.out.choose_spec.2.1 (Nat.le_refl _))
          replace OB := hide (OB.out.below (bal (brefl _) (.cells #[.int .i64 0, .int .i64 0, .int .i64 0, .slice none 0 0] 67)))
          replace OC := hide (OC.out.below (bal (brefl _) (.cells #[.int .i64 0, .int .i64 0, .int .i64 0, .slice none 0 0] 67)))
          replace OQ := hide (OQ.out.below (bal (brefl _) (.cells #[.int .i64 0, .int .i64 0, .int .i64 0, .slice none 0 0] 67)))
          replace HQ := hide (HQ.out.below (bal (brefl _) (.cells #[.int .i64 0, .int .i64 0, .int .i64 0, .slice none 0 0] 67)))
          replace BG := hide (BG.out.below (bal (brefl _) (.cells #[.int .i64 0, .int .i64 0, .int .i64 0, .slice none 0 0] 67)))
          replace KK := hide (bal KK.out (.cells #[.int .i64 0, .int .i64 0, .int .i64 0, .slice none 0 0] 67))
          obtain ⟨hh, hhh⟩ : ∃ hh, hh = wd.heap.size := ⟨_, rfl⟩
          rw [← hhh] at BH HHH NE ⊢
          clear hhh
          generalize wd.alloc (.cells #[.int .i64 0, .int .i64 0, .int .i64 0, .slice none 0 0] 67) = wf at *
          refine hK.out _ _ ?_ (fun hHeld => ?_)
          · exact CE.out _ KK.out
          clear hK K'
          (try simp only [Act.put, List.setIfInBounds_toArray, List.set_cons_succ, List.set_cons_zero])
          refine wpAnyH_ready (rs := [10]) (by kernel_rfl) (by simp) ?_
          refine AllReadyH.cons (o := ⟨none, _, _, _, _, _⟩) rfl (fun K' hK => ?_) AllReadyH.nil
          obtain ⟨b0, b1, b2, b3, b4⟩ := box5_cells (W' := wf) BG.out
          have fb0 := BG.out.frozen 0
          have fb1 := BG.out.frozen 1
          have fb2 := BG.out.frozen 2
          have fb3 := BG.out.frozen 3
          have fb4 := BG.out.frozen 4
          go_simp
          have KS := hide (kp_set5 (B := w1.heap.size) BG.out HGG.out (.int .i64 D.dep) (.int .i64 D.nxt) (.slice E1 D.bl.length g1) (.slice E2 D.ca.length g2) (.slice E3 D.qu.length g3))
          replace OB := hide (OB.out.kp KS.out (by decide) (by decide))
          replace OC := hide (OC.out.kp KS.out (by decide) (by decide))
          replace OQ := hide (OQ.out.kp KS.out (by decide) (by decide))
          replace HQ := hide (HQ.out.kp KS.out (by decide))
          replace BH := hide (BH.out.kp KS.out (by decide))
          replace BG := hide (BG.out.set5 (.int .i64 D.dep) (.int .i64 D.nxt) (.slice E1 D.bl.length g1) (.slice E2 D.ca.length g2) (.slice E3 D.qu.length g3))
          replace KK := hide (KK.out.trans KS.out.below)
          clear b0 b1 b2 b3 b4 fb0 fb1 fb2 fb3 fb4 KS
          generalize ((((((wf.setCell ⟨gg, 0, none⟩ (.int .i64 D.dep)).setCell ⟨gg, 1, none⟩ (.int .i64 D.nxt)).setCell ⟨gg, 2, none⟩ (.slice E1 D.bl.length g1)).setCell ⟨gg, 3, none⟩ (.slice E2 D.ca.length g2)).setCell ⟨gg, 4, none⟩ (.slice E3 D.qu.length g3))) = wg at *
          refine hK.out _ _ ?_ (fun hHeld => ?_)
          · exact CE.out _ KK.out
          clear hK K'
          (try simp only [Act.put, List.setIfInBounds_toArray, List.set_cons_succ, List.set_cons_zero])
          refine wpAnyH_ready (rs := [11]) (by kernel_rfl) (by simp) ?_
          refine AllReadyH.cons (o := ⟨none, _, _, _, _, _⟩) rfl (fun K' hK => ?_) AllReadyH.nil
          obtain ⟨b0, b1, b2, b3⟩ := box4_cells BH.out
          have fb0 := BH.out.frozen 0
          have fb1 := BH.out.frozen 1
          have fb2 := BH.out.frozen 2
          have fb3 := BH.out.frozen 3
          go_simp
          have KS := hide (KpB.set4 wg hh (.int .i64 z0) (.int .i64 z1) (.int .i64 z2) (.slice A3 l.length d3))
          have GNH := hide (BG.out.ne BH.out (by decide))
          replace OB := hide (OB.out.kb KS.out BH.out (by decide) (by decide))
          replace OC := hide (OC.out.kb KS.out BH.out (by decide) (by decide))
          replace OQ := hide (OQ.out.kb KS.out BH.out (by decide) NE.out)
          replace HQ := hide (HQ.out.kb KS.out BH.out (by decide))
          replace BG := hide (BG.out.kb KS.out GNH.out)
          replace BH := hide (BH.out.set4 (.int .i64 z0) (.int .i64 z1) (.int .i64 z2) (.slice A3 l.length d3))
          replace KK := hide (show Below w1.heap.size w1 ((((wg.setCell ⟨hh, 0, none⟩ (.int .i64 z0)).setCell ⟨hh, 1, none⟩ (.int .i64 z1)).setCell ⟨hh, 2, none⟩ (.int .i64 z2)).setCell ⟨hh, 3, none⟩ (.slice A3 l.length d3)) from below_set4 KK.out HHH.out)
          clear b0 b1 b2 b3 fb0 fb1 fb2 fb3 KS
          generalize ((((wg.setCell ⟨hh, 0, none⟩ (.int .i64 z0)).setCell ⟨hh, 1, none⟩ (.int .i64 z1)).setCell ⟨hh, 2, none⟩ (.int .i64 z2)).setCell ⟨hh, 3, none⟩ (.slice A3 l.length d3)) = wh at *
          refine hK.out _ _ ?_ (fun hHeld => ?_)
          · exact CE.out _ KK.out
          clear hK K'
          (try simp only [Act.put, List.setIfInBounds_toArray, List.set_cons_succ, List.set_cons_zero])
          refine wpAnyH_done (by kernel_rfl) ?_ _
          refine NoPanic.normal ?_
          go_wp2_with fail
          go_meet
          exact ⟨gg, hh, rfl, rfl, hide ⟨KK.out, HGG.out, HHH.out, ⟨_, _, _, BG.out, OB.out, OC.out, OQ.out, NE.out⟩, ⟨_, BH.out, HQ.out⟩⟩⟩
        refine AllReadyH.cons (o := ⟨some 11, _, _, _, _, _⟩) rfl (fun K' hK => ?_) AllReadyH.nil
        go_simp
        have BH := hide (Box.new wc 67 #[.int .i64 0, .int .i64 0, .int .i64 0, .slice none 0 0])
        have HHH := hide (show w1.heap.size ≤ wc.heap.size from KK.out.size)
        have NE := hide (row_own_lt OQ.out.choose_spec.2.1 (Nat.le_refl _))
        replace OB := hide (OB.out.below (bal (brefl _) (.cells #[.int .i64 0, .int .i64 0, .int .i64 0, .slice none 0 0] 67)))
        replace OC := hide (OC.out.below (bal (brefl _) (.cells #[.int .i64 0, .int .i64 0, .int .i64 0, .slice none 0 0] 67)))
        replace OQ := hide (OQ.out.below (bal (brefl _) (.cells #[.int .i64 0, .int .i64 0, .int .i64 0, .slice none 0 0] 67)))
        replace BG := hide (BG.out.below (bal (brefl _) (.cells #[.int .i64 0, .int .i64 0, .int .i64 0, .slice none 0 0] 67)))
        replace KK := hide (bal KK.out (.cells #[.int .i64 0, .int .i64 0, .int .i64 0, .slice none 0 0] 67))
        obtain ⟨hh, hhh⟩ : ∃ hh, hh = wc.heap.size := ⟨_, rfl⟩
        rw [← hhh] at BH HHH NE ⊢
        clear hhh
        generalize wc.alloc (.cells #[.int .i64 0, .int .i64 0, .int .i64 0, .slice none 0 0] 67) = wf at *
        refine hK.out _ _ ?_ (fun hHeld => ?_)
        · exact CE.out _ KK.out
        clear hK K'
        (try simp only [Act.put, List.setIfInBounds_toArray, List.set_cons_succ, List.set_cons_zero])
        refine wpAnyH_ready (rs := [7]) (by kernel_rfl) (by simp) ?_
        refine AllReadyH.cons (o := ⟨some 37, _, _, _, _, _⟩) rfl (fun K' hK => ?_) AllReadyH.nil
        go_simp
        refine (CR.out _ KK.out).mono ?_
        rintro e wd ⟨v3, rfl, ho, hb⟩
        obtain ⟨A3, d3, rfl⟩ := ho.form
        have HQ := hide ho
        replace OB := hide (OB.out.below hb)
        replace OC := hide (OC.out.below hb)
        replace OQ := hide (OQ.out.below hb)
        replace BG := hide (BG.out.below hb)
        replace BH := hide (BH.out.below hb)
        replace KK := hide (btrans KK.out hb)
        clear hb ho
        refine hK.out _ _ ?_ (fun hHeld => ?_)
        · exact CE.out _ KK.out
        clear hK K'
        (try simp only [Act.put, List.setIfInBounds_toArray, List.set_cons_succ, List.set_cons_zero])
        refine wpAnyH_ready (rs := [10]) (by kernel_rfl) (by simp) ?_
        refine AllReadyH.cons (o := ⟨none, _, _, _, _, _⟩) rfl (fun K' hK => ?_) AllReadyH.nil
        obtain ⟨b0, b1, b2, b3, b4⟩ := box5_cells (W' := wd) BG.out
        have fb0 := BG.out.frozen 0
        have fb1 := BG.out.frozen 1
        have fb2 := BG.out.frozen 2
        have fb3 := BG.out.frozen 3
        have fb4 := BG.out.frozen 4
        go_simp
        have KS := hide (kp_set5 (B := w1.heap.size) BG.out HGG.out (.int .i64 D.dep) (.int .i64 D.nxt) (.slice E1 D.bl.length g1) (.slice E2 D.ca.length g2) (.slice E3 D.qu.length g3))
        replace OB := hide (OB.out.kp KS.out (by decide) (by decide))
        replace OC := hide (OC.out.kp KS.out (by decide) (by decide))
        replace OQ := hide (OQ.out.kp KS.out (by decide) (by decide))
        replace HQ := hide (HQ.out.kp KS.out (by decide))
        replace BH := hide (BH.out.kp KS.out (by decide))
        replace BG := hide (BG.out.set5 (.int .i64 D.dep) (.int .i64 D.nxt) (.slice E1 D.bl.length g1) (.slice E2 D.ca.length g2) (.slice E3 D.qu.length g3))
        replace KK := hide (KK.out.trans KS.out.below)
        clear b0 b1 b2 b3 b4 fb0 fb1 fb2 fb3 fb4 KS
        generalize ((((((wd.setCell ⟨gg, 0, none⟩ (.int .i64 D.dep)).setCell ⟨gg, 1, none⟩ (.int .i64 D.nxt)).setCell ⟨gg, 2, none⟩ (.slice E1 D.bl.length g1)).setCell ⟨gg, 3, none⟩ (.slice E2 D.ca.length g2)).setCell ⟨gg, 4, none⟩ (.slice E3 D.qu.length g3))) = wg at *
        refine hK.out _ _ ?_ (fun hHeld => ?_)
        · exact CE.out _ KK.out
        clear hK K'
        (try simp only [Act.put, List.setIfInBounds_toArray, List.set_cons_succ, List.set_cons_zero])
        refine wpAnyH_ready (rs := [11]) (by kernel_rfl) (by simp) ?_
        refine AllReadyH.cons (o := ⟨none, _, _, _, _, _⟩) rfl (fun K' hK => ?_) AllReadyH.nil
        obtain ⟨b0, b1, b2, b3⟩ := box4_cells BH.out
        have fb0 := BH.out.frozen 0
        have fb1 := BH.out.frozen 1
        have fb2 := BH.out.frozen 2
        have fb3 := BH.out.frozen 3
        go_simp
        have KS := hide (KpB.set4 wg hh (.int .i64 z0) (.int .i64 z1) (.int .i64 z2) (.slice A3 l.length d3))
        have GNH := hide (BG.out.ne BH.out (by decide))
        replace OB := hide (OB.out.kb KS.out BH.out (by decide) (by decide))
        replace OC := hide (OC.out.kb KS.out BH.out (by decide) (by decide))
        replace OQ := hide (OQ.out.kb KS.out BH.out (by decide) NE.out)
        replace HQ := hide (HQ.out.kb KS.out BH.out (by decide))
        replace BG := hide (BG.out.kb KS.out GNH.out)
        replace BH := hide (BH.out.set4 (.int .i64 z0) (.int .i64 z1) (.int .i64 z2) (.slice A3 l.length d3))
        replace KK := hide (show Below w1.heap.size w1 ((((wg.setCell ⟨hh, 0, none⟩ (.int .i64 z0)).setCell ⟨hh, 1, none⟩ (.int .i64 z1)).setCell ⟨hh, 2, none⟩ (.int .i64 z2)).setCell ⟨hh, 3, none⟩ (.slice A3 l.length d3)) from below_set4 KK.out HHH.out)
        clear b0 b1 b2 b3 fb0 fb1 fb2 fb3 KS
        generalize ((((wg.setCell ⟨hh, 0, none⟩ (.int .i64 z0)).setCell ⟨hh, 1, none⟩ (.int .i64 z1)).setCell ⟨hh, 2, none⟩ (.int .i64 z2)).setCell ⟨hh, 3, none⟩ (.slice A3 l.length d3)) = wh at *
        refine hK.out _ _ ?_ (fun hHeld => ?_)
        · exact CE.out _ KK.out
        clear hK K'
        (try simp only [Act.put, List.setIfInBounds_toArray, List.set_cons_succ, List.set_cons_zero])
        refine wpAnyH_done (by kernel_rfl) ?_ _
        refine NoPanic.normal ?_
        go_wp2_with fail
        go_meet
        exact ⟨gg, hh, rfl, rfl, hide ⟨KK.out, HGG.out, HHH.out, ⟨_, _, _, BG.out, OB.out, OC.out, OQ.out, NE.out⟩, ⟨_, BH.out, HQ.out⟩⟩⟩
      refine AllReadyH.cons (o := ⟨some 11, _, _, _, _, _⟩) rfl (fun K' hK => ?_) AllReadyH.nil
      go_simp
      have BH := hide (Box.new we 67 #[.int .i64 0, .int .i64 0, .int .i64 0, .slice none 0 0])
      have HHH := hide (show w1.heap.size ≤ we.heap.size from KK.out.size)
      replace BG := hide (BG.out.below (bal (brefl _) (.cells #[.int .i64 0, .int .i64 0, .int .i64 0, .slice none 0 0] 67)))
      replace KK := hide (bal KK.out (.cells #[.int .i64 0, .int .i64 0, .int .i64 0, .slice none 0 0] 67))
      obtain ⟨hh, hhh⟩ : ∃ hh, hh = we.heap.size := ⟨_, rfl⟩
      rw [← hhh] at BH HHH ⊢
      clear hhh
      generalize we.alloc (.cells #[.int .i64 0, .int .i64 0, .int .i64 0, .slice none 0 0] 67) = wf at *
      refine hK.out _ _ ?_ (fun hHeld => ?_)
      · exact CE.out _ KK.out
      clear hK K'
      (try simp only [Act.put, List.setIfInBounds_toArray, List.set_cons_succ, List.set_cons_zero])
      refine wpAnyH_ready (rs := [1]) (by kernel_rfl) (by simp) ?_
      refine AllReadyH.cons (o := ⟨some 31, _, _, _, _, _⟩) rfl (fun K' hK => ?_) AllReadyH.nil
      go_simp
      refine (CC.out _ KK.out).mono ?_
      rintro e wc ⟨v2, rfl, ho, hb⟩
      obtain ⟨vb, vc, vq, rfl, ob, oc, oq2⟩ := ho
      obtain ⟨E1, g1, rfl, _⟩ := ob.form
      obtain ⟨E2, g2, rfl, _⟩ := oc.form
      obtain ⟨E3, g3, rfl, _⟩ := oq2.form
      have NE := hide (row_own_ge oq2.choose_spec.2.1 BH.out.lt)
      have OB := hide (ob.mono KK.out.size)
      have OC := hide (oc.mono KK.out.size)
      have OQ := hide (oq2.mono KK.out.size)
      replace BG := hide (BG.out.below hb)
      replace BH := hide (BH.out.below hb)
      replace KK := hide (btrans KK.out hb)
      clear hb ob oc oq2
      refine hK.out _ _ ?_ (fun hHeld => ?_)
      · exact CE.out _ KK.out
      clear hK K'
      (try simp only [Act.put, List.setIfInBounds_toArray, List.set_cons_succ, List.set_cons_zero])
      refine wpAnyH_ready (rs := [7]) (by kernel_rfl) (by simp) ?_
      refine AllReadyH.cons (o := ⟨some 37, _, _, _, _, _⟩) rfl (fun K' hK => ?_) AllReadyH.nil
      go_simp
      refine (CR.out _ KK.out).mono ?_
      rintro e wd ⟨v3, rfl, ho, hb⟩
      obtain ⟨A3, d3, rfl⟩ := ho.form
      have HQ := hide ho
      replace OB := hide (OB.out.below hb)
      replace OC := hide (OC.out.below hb)
      replace OQ := hide (OQ.out.below hb)
      replace BG := hide (BG.out.below hb)
      replace BH := hide (BH.out.below hb)
      replace KK := hide (btrans KK.out hb)
      clear hb ho
      refine hK.out _ _ ?_ (fun hHeld => ?_)
      · exact CE.out _ KK.out
      clear hK K'
      (try simp only [Act.put, List.setIfInBounds_toArray, List.set_cons_succ, List.set_cons_zero])
      refine wpAnyH_ready (rs := [10]) (by kernel_rfl) (by simp) ?_
      refine AllReadyH.cons (o := ⟨none, _, _, _, _, _⟩) rfl (fun K' hK => ?_) AllReadyH.nil
      obtain ⟨b0, b1, b2, b3, b4⟩ := box5_cells (W' := wd) BG.out
      have fb0 := BG.out.frozen 0
      have fb1 := BG.out.frozen 1
      have fb2 := BG.out.frozen 2
      have fb3 := BG.out.frozen 3
      have fb4 := BG.out.frozen 4
      go_simp
      have KS := hide (kp_set5 (B := w1.heap.size) BG.out HGG.out (.int .i64 D.dep) (.int .i64 D.nxt) (.slice E1 D.bl.length g1) (.slice E2 D.ca.length g2) (.slice E3 D.qu.length g3))
      replace OB := hide (OB.out.kp KS.out (by decide) (by decide))
      replace OC := hide (OC.out.kp KS.out (by decide) (by decide))
      replace OQ := hide (OQ.out.kp KS.out (by decide) (by decide))
      replace HQ := hide (HQ.out.kp KS.out (by decide))
      replace BH := hide (BH.out.kp KS.out (by decide))
      replace BG := hide (BG.out.set5 (.int .i64 D.dep) (.int .i64 D.nxt) (.slice E1 D.bl.length g1) (.slice E2 D.ca.length g2) (.slice E3 D.qu.length g3))
      replace KK := hide (KK.out.trans KS.out.below)
      clear b0 b1 b2 b3 b4 fb0 fb1 fb2 fb3 fb4 KS
      generalize ((((((wd.setCell ⟨gg, 0, none⟩ (.int .i64 D.dep)).setCell ⟨gg, 1, none⟩ (.int .i64 D.nxt)).setCell ⟨gg, 2, none⟩ (.slice E1 D.bl.length g1)).setCell ⟨gg, 3, none⟩ (.slice E2 D.ca.length g2)).setCell ⟨gg, 4, none⟩ (.slice E3 D.qu.length g3))) = wg at *
      refine hK.out _ _ ?_ (fun hHeld => ?_)
      · exact CE.out _ KK.out
      clear hK K'
      (try simp only [Act.put, List.setIfInBounds_toArray, List.set_cons_succ, List.set_cons_zero])
      refine wpAnyH_ready (rs := [11]) (by kernel_rfl) (by simp) ?_
      refine AllReadyH.cons (o := ⟨none, _, _, _, _, _⟩) rfl (fun K' hK => ?_) AllReadyH.nil
      obtain ⟨b0, b1, b2, b3⟩ := box4_cells BH.out
      have fb0 := BH.out.frozen 0
      have fb1 := BH.out.frozen 1
      have fb2 := BH.out.frozen 2
      have fb3 := BH.out.frozen 3
      go_simp
      have KS := hide (KpB.set4 wg hh (.int .i64 z0) (.int .i64 z1) (.int .i64 z2) (.slice A3 l.length d3))
      have GNH := hide (BG.out.ne BH.out (by decide))
      replace OB := hide (OB.out.kb KS.out BH.out (by decide) (by decide))
      replace OC := hide (OC.out.kb KS.out BH.out (by decide) (by decide))
      replace OQ := hide (OQ.out.kb KS.out BH.out (by decide) NE.out)
      replace HQ := hide (HQ.out.kb KS.out BH.out (by decide))
      replace BG := hide (BG.out.kb KS.out GNH.out)
      replace BH := hide (BH.out.set4 (.int .i64 z0) (.int .i64 z1) (.int .i64 z2) (.slice A3 l.length d3))
      replace KK := hide (show Below w1.heap.size w1 ((((wg.setCell ⟨hh, 0, none⟩ (.int .i64 z0)).setCell ⟨hh, 1, none⟩ (.int .i64 z1)).setCell ⟨hh, 2, none⟩ (.int .i64 z2)).setCell ⟨hh, 3, none⟩ (.slice A3 l.length d3)) from below_set4 KK.out HHH.out)
      clear b0 b1 b2 b3 fb0 fb1 fb2 fb3 KS
      generalize ((((wg.setCell ⟨hh, 0, none⟩ (.int .i64 z0)).setCell ⟨hh, 1, none⟩ (.int .i64 z1)).setCell ⟨hh, 2, none⟩ (.int .i64 z2)).setCell ⟨hh, 3, none⟩ (.slice A3 l.length d3)) = wh at *
      refine hK.out _ _ ?_ (fun hHeld => ?_)
      · exact CE.out _ KK.out
      clear hK K'
      (try simp only [Act.put, List.setIfInBounds_toArray, List.set_cons_succ, List.set_cons_zero])
      refine wpAnyH_done (by kernel_rfl) ?_ _
      refine NoPanic.normal ?_
      go_wp2_with fail
      go_meet
      exact ⟨gg, hh, rfl, rfl, hide ⟨KK.out, HGG.out, HHH.out, ⟨_, _, _, BG.out, OB.out, OC.out, OQ.out, NE.out⟩, ⟨_, BH.out, HQ.out⟩⟩⟩
    refine AllReadyH.cons (o := ⟨some 11, _, _, _, _, _⟩) rfl (fun K' hK => ?_) AllReadyH.nil
    go_simp
    have BH := hide (Box.new w0 67 #[.int .i64 0, .int .i64 0, .int .i64 0, .slice none 0 0])
    have HHH := hide (show w1.heap.size ≤ w0.heap.size from KK.out.size)
    replace KK := hide (bal KK.out (.cells #[.int .i64 0, .int .i64 0, .int .i64 0, .slice none 0 0] 67))
    obtain ⟨hh, hhh⟩ : ∃ hh, hh = w0.heap.size := ⟨_, rfl⟩
    rw [← hhh] at BH HHH ⊢
    clear hhh
    generalize w0.alloc (.cells #[.int .i64 0, .int .i64 0, .int .i64 0, .slice none 0 0] 67) = wf at *
    refine hK.out _ _ ?_ (fun hHeld => ?_)
    · exact CE.out _ KK.out
    clear hK K'
    (try simp only [Act.put, List.setIfInBounds_toArray, List.set_cons_succ, List.set_cons_zero])
    refine wpAnyH_ready (rs := [1, 8]) (by kernel_rfl) (by simp) ?_
    refine AllReadyH.cons (o := ⟨some 31, _, _, _, _, _⟩) rfl (fun K' hK => ?_) ?_
    · go_simp
      refine (CC.out _ KK.out).mono ?_
      rintro e wc ⟨v2, rfl, ho, hb⟩
      obtain ⟨vb, vc, vq, rfl, ob, oc, oq2⟩ := ho
      obtain ⟨E1, g1, rfl, _⟩ := ob.form
      obtain ⟨E2, g2, rfl, _⟩ := oc.form
      obtain ⟨E3, g3, rfl, _⟩ := oq2.form
      have NE := hide (row_own_ge oq2.choose_spec.2.1 BH.out.lt)
      have OB := hide (ob.mono KK.out.size)
      have OC := hide (oc.mono KK.out.size)
      have OQ := hide (oq2.mono KK.out.size)
      replace BH := hide (BH.out.below hb)
      replace KK := hide (btrans KK.out hb)
      clear hb ob oc oq2
      refine hK.out _ _ ?_ (fun hHeld => ?_)
      · exact CE.out _ KK.out
      clear hK K'
      (try simp only [Act.put, List.setIfInBounds_toArray, List.set_cons_succ, List.set_cons_zero])
      refine wpAnyH_ready (rs := [7, 8]) (by kernel_rfl) (by simp) ?_
      refine AllReadyH.cons (o := ⟨some 37, _, _, _, _, _⟩) rfl (fun K' hK => ?_) ?_
      · go_simp
        refine (CR.out _ KK.out).mono ?_
        rintro e wd ⟨v3, rfl, ho, hb⟩
        obtain ⟨A3, d3, rfl⟩ := ho.form
        have HQ := hide ho
        replace OB := hide (OB.out.below hb)
        replace OC := hide (OC.out.below hb)
        replace OQ := hide (OQ.out.below hb)
        replace BH := hide (BH.out.below hb)
        replace KK := hide (btrans KK.out hb)
        clear hb ho
        refine hK.out _ _ ?_ (fun hHeld => ?_)
        · exact CE.out _ KK.out
        clear hK K'
        (try simp only [Act.put, List.setIfInBounds_toArray, List.set_cons_succ, List.set_cons_zero])
        refine wpAnyH_ready (rs := [8]) (by kernel_rfl) (by simp) ?_
        refine AllReadyH.cons (o := ⟨some 10, _, _, _, _, _⟩) rfl (fun K' hK => ?_) AllReadyH.nil
        go_simp
        have BG := hide (Box.new wd 57 #[.int .i64 0, .int .i64 0, .slice none 0 0, .slice none 0 0, .slice none 0 0])
        have HGG := hide (show w1.heap.size ≤ wd.heap.size from KK.out.size)
        replace OB := hide (OB.out.below (bal (brefl _) (.cells #[.int .i64 0, .int .i64 0, .slice none 0 0, .slice none 0 0, .slice none 0 0] 57)))
        replace OC := hide (OC.out.below (bal (brefl _) (.cells #[.int .i64 0, .int .i64 0, .slice none 0 0, .slice none 0 0, .slice none 0 0] 57)))
        replace OQ := hide (OQ.out.below (bal (brefl _) (.cells #[.int .i64 0, .int .i64 0, .slice none 0 0, .slice none 0 0, .slice none 0 0] 57)))
        replace HQ := hide (HQ.out.below (bal (brefl _) (.cells #[.int .i64 0, .int .i64 0, .slice none 0 0, .slice none 0 0, .slice none 0 0] 57)))
        replace BH := hide (BH.out.below (bal (brefl _) (.cells #[.int .i64 0, .int .i64 0, .slice none 0 0, .slice none 0 0, .slice none 0 0] 57)))
        replace KK := hide (bal KK.out (.cells #[.int .i64 0, .int .i64 0, .slice none 0 0, .slice none 0 0, .slice none 0 0] 57))
        obtain ⟨gg, hgg⟩ : ∃ gg, gg = wd.heap.size := ⟨_, rfl⟩
        rw [← hgg] at BG HGG ⊢
        clear hgg
        generalize wd.alloc (.cells #[.int .i64 0, .int .i64 0, .slice none 0 0, .slice none 0 0, .slice none 0 0] 57) = we at *
        refine hK.out _ _ ?_ (fun hHeld => ?_)
        · exact CE.out _ KK.out
        clear hK K'
        (try simp only [Act.put, List.setIfInBounds_toArray, List.set_cons_succ, List.set_cons_zero])
        refine wpAnyH_ready (rs := [10]) (by kernel_rfl) (by simp) ?_
        refine AllReadyH.cons (o := ⟨none, _, _, _, _, _⟩) rfl (fun K' hK => ?_) AllReadyH.nil
        obtain ⟨b0, b1, b2, b3, b4⟩ := box5_cells (W' := we) BG.out
        have fb0 := BG.out.frozen 0
        have fb1 := BG.out.frozen 1
        have fb2 := BG.out.frozen 2
        have fb3 := BG.out.frozen 3
        have fb4 := BG.out.frozen 4
        go_simp
        have KS := hide (kp_set5 (B := w1.heap.size) BG.out HGG.out (.int .i64 D.dep) (.int .i64 D.nxt) (.slice E1 D.bl.length g1) (.slice E2 D.ca.length g2) (.slice E3 D.qu.length g3))
        replace OB := hide (OB.out.kp KS.out (by decide) (by decide))
        replace OC := hide (OC.out.kp KS.out (by decide) (by decide))
        replace OQ := hide (OQ.out.kp KS.out (by decide) (by decide))
        replace HQ := hide (HQ.out.kp KS.out (by decide))
        replace BH := hide (BH.out.kp KS.out (by decide))
        replace BG := hide (BG.out.set5 (.int .i64 D.dep) (.int .i64 D.nxt) (.slice E1 D.bl.length g1) (.slice E2 D.ca.length g2) (.slice E3 D.qu.length g3))
        replace KK := hide (KK.out.trans KS.out.below)
        clear b0 b1 b2 b3 b4 fb0 fb1 fb2 fb3 fb4 KS
        generalize ((((((we.setCell ⟨gg, 0, none⟩ (.int .i64 D.dep)).setCell ⟨gg, 1, none⟩ (.int .i64 D.nxt)).setCell ⟨gg, 2, none⟩ (.slice E1 D.bl.length g1)).setCell ⟨gg, 3, none⟩ (.slice E2 D.ca.length g2)).setCell ⟨gg, 4, none⟩ (.slice E3 D.qu.length g3))) = wg at *
        refine hK.out _ _ ?_ (fun hHeld => ?_)
        · exact CE.out _ KK.out
        clear hK K'
        (try simp only [Act.put, List.setIfInBounds_toArray, List.set_cons_succ, List.set_cons_zero])
        refine wpAnyH_ready (rs := [11]) (by kernel_rfl) (by simp) ?_
        refine AllReadyH.cons (o := ⟨none, _, _, _, _, _⟩) rfl (fun K' hK => ?_) AllReadyH.nil
        obtain ⟨b0, b1, b2, b3⟩ := box4_cells BH.out
        have fb0 := BH.out.frozen 0
        have fb1 := BH.out.frozen 1
        have fb2 := BH.out.frozen 2
        have fb3 := BH.out.frozen 3
        go_simp
        have KS := hide (KpB.set4 wg hh (.int .i64 z0) (.int .i64 z1) (.int .i64 z2) (.slice A3 l.length d3))
        have GNH := hide (BG.out.ne BH.out (by decide))
        replace OB := hide (OB.out.kb KS.out BH.out (by decide) (by decide))
        replace OC := hide (OC.out.kb KS.out BH.out (by decide) (by decide))
        replace OQ := hide (OQ.out.kb KS.out BH.out (by decide) NE.out)
        replace HQ := hide (HQ.out.kb KS.out BH.out (by decide))
        replace BG := hide (BG.out.kb KS.out GNH.out)
        replace BH := hide (BH.out.set4 (.int .i64 z0) (.int .i64 z1) (.int .i64 z2) (.slice A3 l.length d3))
        replace KK := hide (show Below w1.heap.size w1 ((((wg.setCell ⟨hh, 0, none⟩ (.int .i64 z0)).setCell ⟨hh, 1, none⟩ (.int .i64 z1)).setCell ⟨hh, 2, none⟩ (.int .i64 z2)).setCell ⟨hh, 3, none⟩ (.slice A3 l.length d3)) from below_set4 KK.out HHH.out)
        clear b0 b1 b2 b3 fb0 fb1 fb2 fb3 KS
        generalize ((((wg.setCell ⟨hh, 0, none⟩ (.int .i64 z0)).setCell ⟨hh, 1, none⟩ (.int .i64 z1)).setCell ⟨hh, 2, none⟩ (.int .i64 z2)).setCell ⟨hh, 3, none⟩ (.slice A3 l.length d3)) = wh at *
        refine hK.out _ _ ?_ (fun hHeld => ?_)
        · exact CE.out _ KK.out
        clear hK K'
        (try simp only [Act.put, List.setIfInBounds_toArray, List.set_cons_succ, List.set_cons_zero])
        refine wpAnyH_done (by kernel_rfl) ?_ _
        refine NoPanic.normal ?_
        go_wp2_with fail
        go_meet
        exact ⟨gg, hh, rfl, rfl, hide ⟨KK.out, HGG.out, HHH.out, ⟨_, _, _, BG.out, OB.out, OC.out, OQ.out, NE.out⟩, ⟨_, BH.out, HQ.out⟩⟩⟩
      refine AllReadyH.cons (o := ⟨some 10, _, _, _, _, _⟩) rfl (fun K' hK => ?_) AllReadyH.nil
      go_simp
      have BG := hide (Box.new wc 57 #[.int .i64 0, .int .i64 0, .slice none 0 0, .slice none 0 0, .slice none 0 0])
      have HGG := hide (show w1.heap.size ≤ wc.heap.size from KK.out.size)
      replace OB := hide (OB.out.below (bal (brefl _) (.cells #[.int .i64 0, .int .i64 0, .slice none 0 0, .slice none 0 0, .slice none 0 0] 57)))
      replace OC := hide (OC.out.below (bal (brefl _) (.cells #[.int .i64 0, .int .i64 0, .slice none 0 0, .slice none 0 0, .slice none 0 0] 57)))
      replace OQ := hide (OQ.out.below (bal (brefl _) (.cells #[.int .i64 0, .int .i64 0, .slice none 0 0, .slice none 0 0, .slice none 0 0] 57)))
      replace BH := hide (BH.out.below (bal (brefl _) (.cells #[.int .i64 0, .int .i64 0, .slice none 0 0, .slice none 0 0, .slice none 0 0] 57)))
      replace KK := hide (bal KK.out (.cells #[.int .i64 0, .int .i64 0, .slice none 0 0, .slice none 0 0, .slice none 0 0] 57))
      obtain ⟨gg, hgg⟩ : ∃ gg, gg = wc.heap.size := ⟨_, rfl⟩
      rw [← hgg] at BG HGG ⊢
      clear hgg
      generalize wc.alloc (.cells #[.int .i64 0, .int .i64 0, .slice none 0 0, .slice none 0 0, .slice none 0 0] 57) = we at *
      refine hK.out _ _ ?_ (fun hHeld => ?_)
      · exact CE.out _ KK.out
      clear hK K'
      (try simp only [Act.put, List.setIfInBounds_toArray, List.set_cons_succ, List.set_cons_zero])
      refine wpAnyH_ready (rs := [7]) (by kernel_rfl) (by simp) ?_
      refine AllReadyH.cons (o := ⟨some 37, _, _, _, _, _⟩) rfl (fun K' hK => ?_) AllReadyH.nil
      go_simp
      refine (CR.out _ KK.out).mono ?_
      rintro e wd ⟨v3, rfl, ho, hb⟩
      obtain ⟨A3, d3, rfl⟩ := ho.form
      have HQ := hide ho
      replace OB := hide (OB.out.below hb)
      replace OC := hide (OC.out.below hb)
      replace OQ := hide (OQ.out.below hb)
      replace BG := hide (BG.out.below hb)
      replace BH := hide (BH.out.below hb)
      replace KK := hide (btrans KK.out hb)
      clear hb ho
      refine hK.out _ _ ?_ (fun hHeld => ?_)
      · exact CE.out _ KK.out
      clear hK K'
      (try simp only [Act.put, List.setIfInBounds_toArray, List.set_cons_succ, List.set_cons_zero])
      refine wpAnyH_ready (rs := [10]) (by kernel_rfl) (by simp) ?_
      refine AllReadyH.cons (o := ⟨none, _, _, _, _, _⟩) rfl (fun K' hK => ?_) AllReadyH.nil
      obtain ⟨b0, b1, b2, b3, b4⟩ := box5_cells (W' := wd) BG.out
      have fb0 := BG.out.frozen 0
      have fb1 := BG.out.frozen 1
      have fb2 := BG.out.frozen 2
      have fb3 := BG.out.frozen 3
      have fb4 := BG.out.frozen 4
      go_simp
      have KS := hide (kp_set5 (B := w1.heap.size) BG.out HGG.out (.int .i64 D.dep) (.int .i64 D.nxt) (.slice E1 D.bl.length g1) (.slice E2 D.ca.length g2) (.slice E3 D.qu.length g3))
      replace OB := hide (OB.out.kp KS.out (by decide) (by decide))
      replace OC := hide (OC.out.kp KS.out (by decide) (by decide))
      replace OQ := hide (OQ.out.kp KS.out (by decide) (by decide))
      replace HQ := hide (HQ.out.kp KS.out (by decide))
      replace BH := hide (BH.out.kp KS.out (by decide))
      replace BG := hide (BG.out.set5 (.int .i64 D.dep) (.int .i64 D.nxt) (.slice E1 D.bl.length g1) (.slice E2 D.ca.length g2) (.slice E3 D.qu.length g3))
      replace KK := hide (KK.out.trans KS.out.below)
      clear b0 b1 b2 b3 b4 fb0 fb1 fb2 fb3 fb4 KS
      generalize ((((((wd.setCell ⟨gg, 0, none⟩ (.int .i64 D.dep)).setCell ⟨gg, 1, none⟩ (.int .i64 D.nxt)).setCell ⟨gg, 2, none⟩ (.slice E1 D.bl.length g1)).setCell ⟨gg, 3, none⟩ (.slice E2 D.ca.length g2)).setCell ⟨gg, 4, none⟩ (.slice E3 D.qu.length g3))) = wg at *
      refine hK.out _ _ ?_ (fun hHeld => ?_)
      · exact CE.out _ KK.out
      clear hK K'
      (try simp only [Act.put, List.setIfInBounds_toArray, List.set_cons_succ, List.set_cons_zero])
      refine wpAnyH_ready (rs := [11]) (by kernel_rfl) (by simp) ?_
      refine AllReadyH.cons (o := ⟨none, _, _, _, _, _⟩) rfl (fun K' hK => ?_) AllReadyH.nil
      obtain ⟨b0, b1, b2, b3⟩ := box4_cells BH.out
      have fb0 := BH.out.frozen 0
      have fb1 := BH.out.frozen 1
      have fb2 := BH.out.frozen 2
      have fb3 := BH.out.frozen 3
      go_simp
      have KS := hide (KpB.set4 wg hh (.int .i64 z0) (.int .i64 z1) (.int .i64 z2) (.slice A3 l.length d3))
      have GNH := hide (BG.out.ne BH.out (by decide))
      replace OB := hide (OB.out.kb KS.out BH.out (by decide) (by decide))
      replace OC := hide (OC.out.kb KS.out BH.out (by decide) (by decide))
      replace OQ := hide (OQ.out.kb KS.out BH.out (by decide) NE.out)
      replace HQ := hide (HQ.out.kb KS.out BH.out (by decide))
      replace BG := hide (BG.out.kb KS.out GNH.out)
      replace BH := hide (BH.out.set4 (.int .i64 z0) (.int .i64 z1) (.int .i64 z2) (.slice A3 l.length d3))
      replace KK := hide (show Below w1.heap.size w1 ((((wg.setCell ⟨hh, 0, none⟩ (.int .i64 z0)).setCell ⟨hh, 1, none⟩ (.int .i64 z1)).setCell ⟨hh, 2, none⟩ (.int .i64 z2)).setCell ⟨hh, 3, none⟩ (.slice A3 l.length d3)) from below_set4 KK.out HHH.out)
      clear b0 b1 b2 b3 fb0 fb1 fb2 fb3 KS
      generalize ((((wg.setCell ⟨hh, 0, none⟩ (.int .i64 z0)).setCell ⟨hh, 1, none⟩ (.int .i64 z1)).setCell ⟨hh, 2, none⟩ (.int .i64 z2)).setCell ⟨hh, 3, none⟩ (.slice A3 l.length d3)) = wh at *
      refine hK.out _ _ ?_ (fun hHeld => ?_)
      · exact CE.out _ KK.out
      clear hK K'
      (try simp only [Act.put, List.setIfInBounds_toArray, List.set_cons_succ, List.set_cons_zero])
      refine wpAnyH_done (by kernel_rfl) ?_ _
      refine NoPanic.normal ?_
      go_wp2_with fail
      go_meet
      exact ⟨gg, hh, rfl, rfl, hide ⟨KK.out, HGG.out, HHH.out, ⟨_, _, _, BG.out, OB.out, OC.out, OQ.out, NE.out⟩, ⟨_, BH.out, HQ.out⟩⟩⟩
    refine AllReadyH.cons (o := ⟨some 10, _, _, _, _, _⟩) rfl (fun K' hK => ?_) AllReadyH.nil
    go_simp
    have BG := hide (Box.new wf 57 #[.int .i64 0, .int .i64 0, .slice none 0 0, .slice none 0 0, .slice none 0 0])
    have HGG := hide (show w1.heap.size ≤ wf.heap.size from KK.out.size)
    replace BH := hide (BH.out.below (bal (brefl _) (.cells #[.int .i64 0, .int .i64 0, .slice none 0 0, .slice none 0 0, .slice none 0 0] 57)))
    replace KK := hide (bal KK.out (.cells #[.int .i64 0, .int .i64 0, .slice none 0 0, .slice none 0 0, .slice none 0 0] 57))
    obtain ⟨gg, hgg⟩ : ∃ gg, gg = wf.heap.size := ⟨_, rfl⟩
    rw [← hgg] at BG HGG ⊢
    clear hgg
    generalize wf.alloc (.cells #[.int .i64 0, .int .i64 0, .slice none 0 0, .slice none 0 0, .slice none 0 0] 57) = we at *
    refine hK.out _ _ ?_ (fun hHeld => ?_)
    · exact CE.out _ KK.out
    clear hK K'
    (try simp only [Act.put, List.setIfInBounds_toArray, List.set_cons_succ, List.set_cons_zero])
    refine wpAnyH_ready (rs := [1]) (by kernel_rfl) (by simp) ?_
    refine AllReadyH.cons (o := ⟨some 31, _, _, _, _, _⟩) rfl (fun K' hK => ?_) AllReadyH.nil
    go_simp
    refine (CC.out _ KK.out).mono ?_
    rintro e wc ⟨v2, rfl, ho, hb⟩
    obtain ⟨vb, vc, vq, rfl, ob, oc, oq2⟩ := ho
    obtain ⟨E1, g1, rfl, _⟩ := ob.form
    obtain ⟨E2, g2, rfl, _⟩ := oc.form
    obtain ⟨E3, g3, rfl, _⟩ := oq2.form
    have NE := hide (row_own_ge oq2.choose_spec.2.1 BH.out.lt)
    have OB := hide (ob.mono KK.out.size)
    have OC := hide (oc.mono KK.out.size)
    have OQ := hide (oq2.mono KK.out.size)
    replace BG := hide (BG.out.below hb)
    replace BH := hide (BH.out.below hb)
    replace KK := hide (btrans KK.out hb)
    clear hb ob oc oq2
    refine hK.out _ _ ?_ (fun hHeld => ?_)
    · exact CE.out _ KK.out
    clear hK K'
    (try simp only [Act.put, List.setIfInBounds_toArray, List.set_cons_succ, List.set_cons_zero])
    refine wpAnyH_ready (rs := [7]) (by kernel_rfl) (by simp) ?_
    refine AllReadyH.cons (o := ⟨some 37, _, _, _, _, _⟩) rfl (fun K' hK => ?_) AllReadyH.nil
    go_simp
    refine (CR.out _ KK.out).mono ?_
    rintro e wd ⟨v3, rfl, ho, hb⟩
    obtain ⟨A3, d3, rfl⟩ := ho.form
    have HQ := hide ho
    replace OB := hide (OB.out.below hb)
    replace OC := hide (OC.out.below hb)
    replace OQ := hide (OQ.out.below hb)
    replace BG := hide (BG.out.below hb)
    replace BH := hide (BH.out.below hb)
    replace KK := hide (btrans KK.out hb)
    clear hb ho
    refine hK.out _ _ ?_ (fun hHeld => ?_)
    · exact CE.out _ KK.out
    clear hK K'
    (try simp only [Act.put, List.setIfInBounds_toArray, List.set_cons_succ, List.set_cons_zero])
    refine wpAnyH_ready (rs := [10]) (by kernel_rfl) (by simp) ?_
    refine AllReadyH.cons (o := ⟨none, _, _, _, _, _⟩) rfl (fun K' hK => ?_) AllReadyH.nil
    obtain ⟨b0, b1, b2, b3, b4⟩ := box5_cells (W' := wd) BG.out
    have fb0 := BG.out.frozen 0
    have fb1 := BG.out.frozen 1
    have fb2 := BG.out.frozen 2
    have fb3 := BG.out.frozen 3
    have fb4 := BG.out.frozen 4
    go_simp
    have KS := hide (kp_set5 (B := w1.heap.size) BG.out HGG.out (.int .i64 D.dep) (.int .i64 D.nxt) (.slice E1 D.bl.length g1) (.slice E2 D.ca.length g2) (.slice E3 D.qu.length g3))
    replace OB := hide (OB.out.kp KS.out (by decide) (by decide))
    replace OC := hide (OC.out.kp KS.out (by decide) (by decide))
    replace OQ := hide (OQ.out.kp KS.out (by decide) (by decide))
    replace HQ := hide (HQ.out.kp KS.out (by decide))
    replace BH := hide (BH.out.kp KS.out (by decide))
    replace BG := hide (BG.out.set5 (.int .i64 D.dep) (.int .i64 D.nxt) (.slice E1 D.bl.length g1) (.slice E2 D.ca.length g2) (.slice E3 D.qu.length g3))
    replace KK := hide (KK.out.trans KS.out.below)
    clear b0 b1 b2 b3 b4 fb0 fb1 fb2 fb3 fb4 KS
    generalize ((((((wd.setCell ⟨gg, 0, none⟩ (.int .i64 D.dep)).setCell ⟨gg, 1, none⟩ (.int .i64 D.nxt)).setCell ⟨gg, 2, none⟩ (.slice E1 D.bl.length g1)).setCell ⟨gg, 3, none⟩ (.slice E2 D.ca.length g2)).setCell ⟨gg, 4, none⟩ (.slice E3 D.qu.length g3))) = wg at *
    refine hK.out _ _ ?_ (fun hHeld => ?_)
    · exact CE.out _ KK.out
    clear hK K'
    (try simp only [Act.put, List.setIfInBounds_toArray, List.set_cons_succ, List.set_cons_zero])
    refine wpAnyH_ready (rs := [11]) (by kernel_rfl) (by simp) ?_
    refine AllReadyH.cons (o := ⟨none, _, _, _, _, _⟩) rfl (fun K' hK => ?_) AllReadyH.nil
    obtain ⟨b0, b1, b2, b3⟩ := box4_cells BH.out
    have fb0 := BH.out.frozen 0
    have fb1 := BH.out.frozen 1
    have fb2 := BH.out.frozen 2
    have fb3 := BH.out.frozen 3
    go_simp
    have KS := hide (KpB.set4 wg hh (.int .i64 z0) (.int .i64 z1) (.int .i64 z2) (.slice A3 l.length d3))
    have GNH := hide (BG.out.ne BH.out (by decide))
    replace OB := hide (OB.out.kb KS.out BH.out (by decide) (by decide))
    replace OC := hide (OC.out.kb KS.out BH.out (by decide) (by decide))
    replace OQ := hide (OQ.out.kb KS.out BH.out (by decide) NE.out)
    replace HQ := hide (HQ.out.kb KS.out BH.out (by decide))
    replace BG := hide (BG.out.kb KS.out GNH.out)
    replace BH := hide (BH.out.set4 (.int .i64 z0) (.int .i64 z1) (.int .i64 z2) (.slice A3 l.length d3))
    replace KK := hide (show Below w1.heap.size w1 ((((wg.setCell ⟨hh, 0, none⟩ (.int .i64 z0)).setCell ⟨hh, 1, none⟩ (.int .i64 z1)).setCell ⟨hh, 2, none⟩ (.int .i64 z2)).setCell ⟨hh, 3, none⟩ (.slice A3 l.length d3)) from below_set4 KK.out HHH.out)
    clear b0 b1 b2 b3 fb0 fb1 fb2 fb3 KS
    generalize ((((wg.setCell ⟨hh, 0, none⟩ (.int .i64 z0)).setCell ⟨hh, 1, none⟩ (.int .i64 z1)).setCell ⟨hh, 2, none⟩ (.int .i64 z2)).setCell ⟨hh, 3, none⟩ (.slice A3 l.length d3)) = wh at *
    refine hK.out _ _ ?_ (fun hHeld => ?_)
    · exact CE.out _ KK.out
    clear hK K'
    (try simp only [Act.put, List.setIfInBounds_toArray, List.set_cons_succ, List.set_cons_zero])
    refine wpAnyH_done (by kernel_rfl) ?_ _
    refine NoPanic.normal ?_
    go_wp2_with fail
    go_meet
    exact ⟨gg, hh, rfl, rfl, hide ⟨KK.out, HGG.out, HHH.out, ⟨_, _, _, BG.out, OB.out, OC.out, OQ.out, NE.out⟩, ⟨_, BH.out, HQ.out⟩⟩⟩
  case rest =>
    obtain ⟨g, h, rfl, rfl, CQ⟩ := hcut
    clear x0 x1 x2 x3 x4
    obtain ⟨vb, vc, vq, hbx, hob, hoc, hoq, hnh⟩ := CQ.out.dev
    obtain ⟨n, hn⟩ : ∃ n, D.qu.length = n + 1 := ⟨D.qu.length - 1, by omega⟩
    obtain ⟨R, hR, hrow, hro⟩ := hoq
    have hRl : R.length = n + 1 := by rw [← hn, ← hR, List.length_map]
    rw [hn] at hrow
    obtain ⟨hlen, h0 | ⟨gq, cap, cur, rfl, hgB, hh, h4, h5, h6, ht⟩⟩ := hrow
    · omega
    have RQ0 := hide (show RowQ wc gq cap R from ⟨cur, hh, h6, by rw [hRl]; exact ht⟩)
    have DL := hide (del_any gq cap n p R wc hRl (by omega) (by rw [hRl]; exact h4) h5 RQ0.out (fun r hr => ⟨r.2.2.2.1, (hro r hr).form⟩))
    have BX := hide hbx
    have OB := hide hob
    have OC := hide hoc
    have HRO := hide hro
    have HR := hide hR
    have RA := hide CQ.out.req
    have HGQ := hide (show h ≠ gq from fun e => hnh (by rw [e]; rfl))
    have HXQ := hide (show g ≠ gq from BX.out.ne (show Box wc gq 67 cur from hh) (by decide))
    have x4 := hbx.cell 4
    simp at x4
    have KP0 := hide (fun (w9 : World) (hg9 : wc.grownBy w9 (some gq)) => kp_grown (B := w1.heap.size) (v := .slice (some ⟨gq, 0, none⟩) (n + 1) cap) (n := n + 1) (xs := cQ R) ⟨hlen, .inr ⟨gq, cap, cur, rfl, hgB, hh, h4, h5, h6, ht⟩⟩ hg9 CQ.out.below.size)
    have HCAP := hide (show n ≤ cap ∧ cap ≤ maxLen ∧ w1.heap.size ≤ gq from ⟨by omega, h5, hgB⟩)
    clear hbx hob hoc hro hR hnh hlen hh h4 h5 h6 ht hgB
    go_wp2_with fail
    refine DL.out.mono ?_
    rintro e w9 ⟨rfl, hr9, hg9⟩
    have KP := hide (KP0.out w9 hg9)
    have KB9 := hide (KpB.of_grown hg9)
    have BX9 := hide (BX.out.kp KP.out (by decide))
    have OB9 := hide (OB.out.kp KP.out (by decide) (by decide))
    have OC9 := hide (OC.out.kp KP.out (by decide) (by decide))
    have RA9 := hide (show ReqAt w9 h (z0, z1, z2, l) by
      obtain ⟨u, hb, ho⟩ := RA.out
      exact ⟨u, hb.kb KB9.out HGQ.out, ho.kp KP.out (by decide)⟩)
    have hln : (R.take p ++ R.drop (p + 1)).length = n := by simp; omega
    have OQ9 := hide (show OwnQ w1.heap.size w9 (.slice (some ⟨gq, 0, none⟩) n cap) (D.qu.take p ++ D.qu.drop (p + 1)) by
      refine ⟨R.take p ++ R.drop (p + 1), by rw [List.map_append, List.map_take, List.map_drop, HR.out], ?_, fun r hr => ?_⟩
      · rw [show (D.qu.take p ++ D.qu.drop (p + 1)).length = n by simp; omega]
        have := hr9.own HCAP.out.2.2 (by rw [hln]; exact HCAP.out.1) HCAP.out.2.1
        rw [hln] at this
        exact this
      · refine (HRO.out r ?_).kp KP.out (by decide)
        rcases List.mem_append.1 hr with h | h
        · exact List.mem_of_mem_take h
        · exact List.mem_of_mem_drop h)
    have K9 := hide (CQ.out.below.trans KP.out.below)
    have f4 := BX9.out.frozen 4
    have y4 := BX9.out.cell 4
    simp at y4
    clear hr9 hg9 x4 hln
    go_upto_if 45 with fail
    have KS := hide (Kp.boxset (B := w1.heap.size) BX9.out CQ.out.hg 4 (.slice (some ⟨gq, 0, none⟩) n cap))
    have DA := hide (show DevAtH w1.heap.size (w9.setCell ⟨g, 4, none⟩ (.slice (some ⟨gq, 0, none⟩) n cap)) g h (delD D p) from
      ⟨_, _, _, BX9.out.put 4 _, OB9.out.kp KS.out (by decide) (by decide), OC9.out.kp KS.out (by decide) (by decide), OQ9.out.kp KS.out (by decide) (by decide), fun e => HGQ.out (by injection e)⟩)
    have RB := hide (show ReqAt (w9.setCell ⟨g, 4, none⟩ (.slice (some ⟨gq, 0, none⟩) n cap)) h (z0, z1, z2, l) by
      obtain ⟨u, hb, ho⟩ := RA9.out
      exact ⟨u, hb.kp KS.out (by decide), ho.kp KS.out (by decide)⟩)
    have K10 := hide (K9.out.trans KS.out.below)
    generalize w9.setCell ⟨g, 4, none⟩ (.slice (some ⟨gq, 0, none⟩) n cap) = w10 at *
    clear f4 y4
    have HG := hide CQ.out.hg
    have HH := hide CQ.out.hh
    clear RA9 BX9 OB9 OC9 OQ9 KP KB9 K9 DL RA BX HRO HR CQ C1 IN X RQ KP0 HCAP HXQ HGQ RQ0 KS
    go_cut [10, 11] (fun s10 s11 wx => s10 = .pointer (some ⟨g, 0, none⟩) ∧ s11 = .pointer (some ⟨h, 0, none⟩) ∧ Hid (DevAt w1.heap.size wx g E) ∧ Hid (ReqAt wx h (y0, y1, y2, l2)) ∧ Hid (Below w1.heap.size w1 wx))
    case first =>
      cases ok with
      | false =>
        have hE : E = delD D p := HE.out
        have hQ : (z0, z1, z2, l) = (y0, y1, y2, l2) := HQA.out.symm.trans HQ2.out
        go_wp2_with fail
        go_meet
        exact ⟨rfl, rfl, hide (hE ▸ DA.out.at), hide (hQ ▸ RB.out), K10⟩
      | true =>
        have CE := hide (carry_any w1.heap.size g h (delD D p) (z0, z1, z2, l) w10 DA.out RB.out HG.out HH.out K10.out.size (qu0 := D.qu) HK.out HQE.out)
        have hE : E = carD (delD D p) (z0, z1, z2, l) := by rw [← HQA.out]; exact HE.out
        have hQ : carQ (delD D p) (z0, z1, z2, l) = (y0, y1, y2, l2) := by rw [← HQA.out]; exact HQ2.out
        rw [← hE, hQ] at CE
        unfold CarR at CE
        clear hE hQ
        go_wp2_with fail
        refine CE.out.mono ?_
        rintro e w11 ⟨rfl, hda, hra, hkh⟩
        have A1 := hide hda
        have A2 := hide hra
        have A3 := hide (K10.out.trans hkh.below)
        clear hda hra hkh
        go_wp2_with fail
        go_meet
        exact ⟨rfl, rfl, A1, A2, A3⟩
    case rest =>
      obtain ⟨w11, rfl⟩ : ∃ x : World, x = wc := ⟨_, rfl⟩
      obtain ⟨rfl, rfl, DA2, RB2, K11⟩ := hcut
      obtain ⟨vb, vc, vq, bx, ob, oc, oq⟩ := DA2.out
      obtain ⟨E1, g1, rfl, _⟩ := ob.form
      obtain ⟨E2, g2, rfl, _⟩ := oc.form
      obtain ⟨E3, g3, rfl, _⟩ := oq.form
      obtain ⟨u, bq, ou⟩ := RB2.out
      simp only at bq ou
      obtain ⟨A3, d3, rfl⟩ := ou.form
      have OU := hide ou
      have G11 := hide bx
      have H11 := hide bq
      have OQ := hide oq
      have OB := hide ob
      have OC := hide oc
      have hs1 := Nat.lt_of_lt_of_le Z.out.lt K.out.size
      have DR := hide (below_drew (brefl w11))
      have K11D := hide (btrans K0.out (btrans K.out (K11.out.trans (show Below w1.heap.size w11 w11.drew from ⟨DR.out.os, DR.out.tape, DR.out.output, DR.out.size, fun k hk => DR.out.block k (Nat.lt_of_lt_of_le hk K11.out.size)⟩))))
      have Y0 := hide (show Box w11 (w.heap.size + 1) 57 #[.int .i64 0, .int .i64 0, .slice none 0 0, .slice none 0 0, .slice none 0 0] from (K11.out.block (w.heap.size + 1) (by omega)).trans (Y.out.below K.out))
      have Z0 := hide (show Box w11 (w.heap.size + 2) 67 #[.int .i64 0, .int .i64 0, .int .i64 0, .slice none 0 0] from (K11.out.block (w.heap.size + 2) (by omega)).trans (Z.out.below K.out))
      have hw1 : w.heap.size ≤ w1.heap.size := Nat.le_trans K0.out.size K.out.size
      have GY := hide (show g ≠ w.heap.size + 1 by have := HG.out; omega)
      have HY := hide (show h ≠ w.heap.size + 1 by have := HH.out; omega)
      have GZ := hide (show g ≠ w.heap.size + 2 by have := HG.out; omega)
      have HZ := hide (show h ≠ w.heap.size + 2 by have := HH.out; omega)
      have NE := hide (row_own_ge OQ.out.choose_spec.2.1 (k := w.heap.size + 2) (by omega))
      clear oq ob oc bx bq ou K11 DA DA2 RB RB2 HK HE HQ2 HQA HQE SM
      go_upto_region 10 with fail
      refine wp_region_noPanic ?_
      refine wp_region_held_drew (S := (fun W => W.cell? ⟨g, 0, none⟩ = some (.int .i64 E.dep) ∧ W.cell? ⟨g, 1, none⟩ = some (.int .i64 E.nxt) ∧ W.cell? ⟨g, 2, none⟩ = some (.slice E1 E.bl.length g1) ∧ W.cell? ⟨g, 3, none⟩ = some (.slice E2 E.ca.length g2) ∧ W.cell? ⟨g, 4, none⟩ = some (.slice E3 E.qu.length g3) ∧ W.cell? ⟨h, 0, none⟩ = some (.int .i64 y0) ∧ W.cell? ⟨h, 1, none⟩ = some (.int .i64 y1) ∧ W.cell? ⟨h, 2, none⟩ = some (.int .i64 y2) ∧ W.cell? ⟨h, 3, none⟩ = some (.slice A3 l2.length d3))) (by kernel_rfl) ?_ (fun hHeld => ?_)
      · exact cells9 (G11.out.below DR.out) (H11.out.below DR.out)
      have G := hide (G11.out.below DR.out)
      have H := hide (H11.out.below DR.out)
      have Y := hide (Y0.out.below DR.out)
      have Z := hide (Z0.out.below DR.out)
      replace OB := hide (OB.out.below DR.out)
      replace OC := hide (OC.out.below DR.out)
      replace OQ := hide (OQ.out.below DR.out)
      replace OU := hide (OU.out.below DR.out)
      have KK := K11D
      clear Y0 Z0 G11 H11 DR K11D
      generalize w11.drew = wa at *
      refine wpAnyH_take (i := 0) (oi := ⟨some 47, _, _, _, _, _⟩) (v := ?_) rfl (by kernel_rfl) (by kernel_rfl) (by kernel_rfl) (fun _ _ _ h => h) (Or.inl ⟨by kernel_rfl, ?_⟩) (by assumption) ?_
      rotate_left 1
      · (intro w hSw; (try dsimp only at hSw); go_simp) <;> (with_reducible rfl)
      (try simp only [Act.put, List.setIfInBounds_toArray, List.set_cons_succ, List.set_cons_zero])
      refine wpAnyH_take (i := 1) (oi := ⟨some 48, _, _, _, _, _⟩) (v := ?_) rfl (by kernel_rfl) (by kernel_rfl) (by kernel_rfl) (fun _ _ _ h => h) (Or.inl ⟨by kernel_rfl, ?_⟩) (by assumption) ?_
      rotate_left 1
      · (intro w hSw; (try dsimp only at hSw); go_simp) <;> (with_reducible rfl)
      (try simp only [Act.put, List.setIfInBounds_toArray, List.set_cons_succ, List.set_cons_zero])
      refine wpAnyH_ready (rs := [2]) (by kernel_rfl) (by simp) ?_
      refine AllReadyH.cons (o := ⟨none, _, _, _, _, _⟩) rfl (fun K' hK => ?_) AllReadyH.nil
      obtain ⟨b0, b1, b2, b3, b4⟩ := box5_cells (W' := wa) Y.out
      have fb0 := Y.out.frozen 0
      have fb1 := Y.out.frozen 1
      have fb2 := Y.out.frozen 2
      have fb3 := Y.out.frozen 3
      have fb4 := Y.out.frozen 4
      go_simp
      have KS := hide (kp_set5 (B := w.heap.size) Y.out (Nat.le_succ _) (.int .i64 E.dep) (.int .i64 E.nxt) (.slice E1 E.bl.length g1) (.slice E2 E.ca.length g2) (.slice E3 E.qu.length g3))
      have KT := hide (KpB.set5 wa (w.heap.size + 1) (.int .i64 E.dep) (.int .i64 E.nxt) (.slice E1 E.bl.length g1) (.slice E2 E.ca.length g2) (.slice E3 E.qu.length g3))
      replace OB := hide (OB.out.kp KS.out (by decide) (by decide))
      replace OC := hide (OC.out.kp KS.out (by decide) (by decide))
      replace OQ := hide (OQ.out.kp KS.out (by decide) (by decide))
      replace OU := hide (OU.out.kp KS.out (by decide))
      replace G := hide (G.out.kb KT.out GY.out)
      replace H := hide (H.out.kb KT.out HY.out)
      replace Z := hide (Z.out.kp KS.out (by decide))
      replace Y := hide (Y.out.set5 (.int .i64 E.dep) (.int .i64 E.nxt) (.slice E1 E.bl.length g1) (.slice E2 E.ca.length g2) (.slice E3 E.qu.length g3))
      replace KK := hide (KK.out.trans KS.out.below)
      clear b0 b1 b2 b3 b4 fb0 fb1 fb2 fb3 fb4 KS KT
      generalize ((((((wa.setCell ⟨w.heap.size + 1, 0, none⟩ (.int .i64 E.dep)).setCell ⟨w.heap.size + 1, 1, none⟩ (.int .i64 E.nxt)).setCell ⟨w.heap.size + 1, 2, none⟩ (.slice E1 E.bl.length g1)).setCell ⟨w.heap.size + 1, 3, none⟩ (.slice E2 E.ca.length g2)).setCell ⟨w.heap.size + 1, 4, none⟩ (.slice E3 E.qu.length g3))) = wb at *
      refine hK.out _ _ ?_ (fun hHeld => ?_)
      · exact cells9 G.out H.out
      clear hK K'
      (try simp only [Act.put, List.setIfInBounds_toArray, List.set_cons_succ, List.set_cons_zero])
      refine wpAnyH_ready (rs := [3]) (by kernel_rfl) (by simp) ?_
      refine AllReadyH.cons (o := ⟨none, _, _, _, _, _⟩) rfl (fun K' hK => ?_) AllReadyH.nil
      obtain ⟨b0, b1, b2, b3⟩ := box4_cells Z.out
      have fb0 := Z.out.frozen 0
      have fb1 := Z.out.frozen 1
      have fb2 := Z.out.frozen 2
      have fb3 := Z.out.frozen 3
      go_simp
      have KT := hide (KpB.set4 wb (w.heap.size + 2) (.int .i64 y0) (.int .i64 y1) (.int .i64 y2) (.slice A3 l2.length d3))
      replace OB := hide (OB.out.kb KT.out Z.out (by decide) (by decide))
      replace OC := hide (OC.out.kb KT.out Z.out (by decide) (by decide))
      replace OQ := hide (OQ.out.kb KT.out Z.out (by decide) NE.out)
      replace OU := hide (OU.out.kb KT.out Z.out (by decide))
      replace G := hide (G.out.kb KT.out GZ.out)
      replace H := hide (H.out.kb KT.out HZ.out)
      replace Y := hide (Y.out.kb KT.out (by omega))
      replace Z := hide (Z.out.set4 (.int .i64 y0) (.int .i64 y1) (.int .i64 y2) (.slice A3 l2.length d3))
      replace KK := hide (show Below w.heap.size w ((((wb.setCell ⟨w.heap.size + 2, 0, none⟩ (.int .i64 y0)).setCell ⟨w.heap.size + 2, 1, none⟩ (.int .i64 y1)).setCell ⟨w.heap.size + 2, 2, none⟩ (.int .i64 y2)).setCell ⟨w.heap.size + 2, 3, none⟩ (.slice A3 l2.length d3)) from below_set4 KK.out (by omega))
      clear b0 b1 b2 b3 fb0 fb1 fb2 fb3 KT
      generalize ((((wb.setCell ⟨w.heap.size + 2, 0, none⟩ (.int .i64 y0)).setCell ⟨w.heap.size + 2, 1, none⟩ (.int .i64 y1)).setCell ⟨w.heap.size + 2, 2, none⟩ (.int .i64 y2)).setCell ⟨w.heap.size + 2, 3, none⟩ (.slice A3 l2.length d3)) = wd2 at *
      refine hK.out _ _ ?_ (fun hHeld => ?_)
      · exact cells9 G.out H.out
      clear hK K'
      (try simp only [Act.put, List.setIfInBounds_toArray, List.set_cons_succ, List.set_cons_zero])
      refine wpAnyH_take (i := 4) (oi := ⟨some 8, _, _, _, _, _⟩) (v := ?_) rfl (by kernel_rfl) (by kernel_rfl) (by kernel_rfl) (fun _ _ _ h => h) (Or.inl ⟨by kernel_rfl, ?_⟩) (by assumption) ?_
      rotate_left 1
      · (intro w hSw; (try dsimp only at hSw); go_simp) <;> (with_reducible rfl)
      (try simp only [Act.put, List.setIfInBounds_toArray, List.set_cons_succ, List.set_cons_zero])
      refine wpAnyH_done (by kernel_rfl) ?_ _
      refine NoPanic.normal ?_
      go_wp2_with fail
      exact ret_dq Try.results31 rfl rfl rfl rfl Y.out Z.out ⟨_, _, rfl, ⟨_, _, _, rfl, OB.out.mono hw1, OC.out.mono hw1, OQ.out.mono hw1⟩, OU.out, KK.out⟩
end Go.Proofs.Ytncdilkcblakhaa.Dv
