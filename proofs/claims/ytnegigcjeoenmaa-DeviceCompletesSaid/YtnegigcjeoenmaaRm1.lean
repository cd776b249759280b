import Derived.Test.YtnegigcjeoenmaaRp1
namespace Go.Proofs.Ytnegigcjeoenmaa.Dv
open Go Go.RowKit
set_option linter.unusedVariables false

structure Rcp (w : World) (D : Dev) (src : Array Value) (g h : Nat) (vb vc vq : Value) (bl : List By) (ca : List Ca) (qu : List Rq) (q : Rq) (u : Value) (W : World) : Prop where
  below : Below w.heap.size w W
  src : Box W w.heap.size 28 src
  y : Box W (w.heap.size + 1) 28 #[.int .i64 0, .int .i64 0, .slice none 0 0, .slice none 0 0, .slice none 0 0]
  z : Box W (w.heap.size + 2) 39 #[.int .i64 0, .int .i64 0, .int .i64 0, .slice none 0 0]
  bg : Box W g 28 #[.int .i64 D.dep, .int .i64 D.nxt, vb, vc, vq]
  bh : Box W h 39 #[.int .i64 q.1, .int .i64 q.2.1, .int .i64 q.2.2.1, u]
  hu : OwnBy W u q.2.2.2
  ob : OwnB w.heap.size W vb bl
  oc : OwnC w.heap.size W vc ca
  oq : OwnQ (h + 1) W vq qu
section
variable {w W W' : World} {D : Dev} {src : Array Value} {g h : Nat} {vb vc vq u : Value} {bl : List By} {ca : List Ca} {qu : List Rq} {q : Rq}
theorem Rcp.on (x : Rcp w D src g h vb vc vq bl ca qu q u W) (hb : Below W.heap.size W W') : Rcp w D src g h vb vc vq bl ca qu q u W' :=
  ⟨btrans x.below hb, x.src.below hb, x.y.below hb, x.z.below hb, x.bg.below hb, x.bh.below hb, x.hu.below hb, x.ob.below hb, x.oc.below hb, x.oq.below hb⟩
theorem Rcp.setC (x : Rcp w D src g h vb vc vq bl ca qu q u W) (hgw : w.heap.size + 2 < g) (hgh : g < h) {v : Value} {ca' : List Ca} (ho : OwnC w.heap.size W v ca') : Rcp w D src g h vb v vq bl ca' qu q u (W.setCell ⟨g, 3, none⟩ v) := by
  have hk : Kp w.heap.size 28 W (W.setCell ⟨g, 3, none⟩ v) := Kp.boxset x.bg (by omega) 3 v
  exact ⟨x.below.trans hk.below, x.src.far (by omega) v, x.y.far (by omega) v, x.z.far (by omega) v, x.bg.put 3 v, x.bh.far (by omega) v, x.hu.kp hk (by decide), x.ob.kp hk (by decide) (by decide), ho.kp hk (by decide) (by decide), x.oq.kp hk (by decide) (by decide)⟩
theorem Rcp.setQ (x : Rcp w D src g h vb vc vq bl ca qu q u W) (hgw : w.heap.size + 2 < g) (hgh : g < h) {v : Value} {qu' : List Rq} (ho : OwnQ (h + 1) W v qu') : Rcp w D src g h vb vc v bl ca qu' q u (W.setCell ⟨g, 4, none⟩ v) := by
  have hk : Kp w.heap.size 28 W (W.setCell ⟨g, 4, none⟩ v) := Kp.boxset x.bg (by omega) 4 v
  exact ⟨x.below.trans hk.below, x.src.far (by omega) v, x.y.far (by omega) v, x.z.far (by omega) v, x.bg.put 4 v, x.bh.far (by omega) v, x.hu.kp hk (by decide), x.ob.kp hk (by decide) (by decide), x.oc.kp hk (by decide) (by decide), ho.kp hk (by decide) (by decide)⟩
theorem Rcp.setH (x : Rcp w D src g h vb vc vq bl ca qu q u W) (hgw : w.heap.size + 2 < g) (hgh : g < h) {v : Value} {l : By} (ho : OwnBy W v l) : Rcp w D src g h vb vc vq bl ca qu (q.1, q.2.1, q.2.2.1, l) v (W.setCell ⟨h, 3, none⟩ v) := by
  have hk := KpB.set W h 3 v
  exact ⟨x.below.setCell (by show w.heap.size ≤ h; omega) v, x.src.far (by omega) v, x.y.far (by omega) v, x.z.far (by omega) v, x.bg.far (by omega) v, x.bh.put 3 v, ho.kb hk x.bh (by decide), x.ob.kb hk x.bh (by decide) (by decide), x.oc.kb hk x.bh (by decide) (by decide), x.oq.kb hk x.bh (by decide) (row_own_ge x.oq.choose_spec.2.1 (Nat.lt_succ_self h))⟩
theorem Rcp.setB (x : Rcp w D src g h vb vc vq bl ca qu q u W) {i : Nat} {u2 : Value} {b : By} (hi : i < bl.length) (hu2 : OwnBy W u2 b) :
    ∃ gb c, vb = .slice (some ⟨gb, 0, none⟩) bl.length c ∧ (∃ y, W.cell? ⟨gb, i, none⟩ = some y) ∧ W.frozen? ⟨gb, i, none⟩ = false ∧ Kp w.heap.size 35 W (W.setCell ⟨gb, i, none⟩ u2) ∧ Rcp w D src g h vb vc vq (bl.set i b) ca qu q u (W.setCell ⟨gb, i, none⟩ u2) := by
  obtain ⟨gb, c, e, hc, hB, hy, hf, hk, ho⟩ := x.ob.put hi hu2
  exact ⟨gb, c, e, hy, hf, hk, ⟨x.below.trans hk.below, x.src.kp hk (by decide), x.y.kp hk (by decide), x.z.kp hk (by decide), x.bg.kp hk (by decide), x.bh.kp hk (by decide), x.hu.kp hk (by decide), ho, x.oc.kp hk (by decide) (by decide), x.oq.kp hk (by decide) (by decide)⟩⟩
theorem Rcp.push (x : Rcp w D src g h vb vc vq bl ca qu q u W) (hgw : w.heap.size + 2 < g) (hgh : g < h) {R : List PQ} {W4 : World} {v4 u1 : Value} {z0 z1 z2 : Int} {l : By} (hR : R.map pqQ = qu) (hro : ∀ r ∈ R, OwnBy W r.2.2.2.2 r.2.2.2.1) (hrow : W.ownsRow (h + 1) 39 4 vq qu.length (cQ R)) (hu1 : OwnBy W u1 l)
    (hown : W4.ownsRow (h + 1) 39 4 v4 (qu.length + 1) (cQ R ++ [.int .i64 z0, .int .i64 z1, .int .i64 z2, u1])) (hg : W.grownBy W4 vq.ownBlock) : Rcp w D src g h vb vc v4 bl ca (qu ++ [(z0, z1, z2, l)]) q u (W4.setCell ⟨g, 4, none⟩ v4) := by
  have hs : h + 1 ≤ W.heap.size := x.bh.lt
  have hk := kp_grown hrow hg hs
  have hl : R.length = qu.length := by rw [← hR, List.length_map]
  have hp := OwnQ.push hro hu1 hl hown hk
  rw [hR] at hp
  have far : ∀ {k : Nat} {t : TypeId} {cs : Array Value}, Box W k t cs → k ≤ h → Box W4 k t cs := fun hX hkh => (hg.block _ hX.lt (row_own_ge hrow (by omega))).trans hX
  have hk2 : Kp w.heap.size 28 W4 (W4.setCell ⟨g, 4, none⟩ v4) := Kp.boxset (far x.bg (by omega)) (by omega) 4 v4
  exact ⟨(x.below.trans (hk.mono (by omega)).below).trans hk2.below, (far x.src (by omega)).far (by omega) v4, (far x.y (by omega)).far (by omega) v4, (far x.z (by omega)).far (by omega) v4, (far x.bg (by omega)).put 4 v4, (far x.bh (Nat.le_refl _)).far (by omega) v4, (x.hu.kp hk (by decide)).kp hk2 (by decide), (x.ob.kp hk (by decide) (by decide)).kp hk2 (by decide) (by decide), (x.oc.kp hk (by decide) (by decide)).kp hk2 (by decide) (by decide), hp.kp hk2 (by decide) (by decide)⟩
end
theorem OwnQ.cells_at {B : Nat} {w : World} {A : Option Addr} {n c k : Nat} {L : List Rq} (h : OwnQ B w (.slice A n c) L) (hk : k < L.length) :
    ∃ g u, A = some ⟨g, 0, none⟩ ∧ g < w.heap.size ∧ w.cell? ⟨g, k * 4, none⟩ = some (.int .i64 (qAt L k).1) ∧ w.cell? ⟨g, k * 4 + 1, none⟩ = some (.int .i64 (qAt L k).2.1) ∧ w.cell? ⟨g, k * 4 + 2, none⟩ = some (.int .i64 (qAt L k).2.2.1) ∧ w.cell? ⟨g, k * 4 + 3, none⟩ = some u ∧ OwnBy w u (qAt L k).2.2.2 := by
  obtain ⟨R, e, hr, ho⟩ := h
  have hl : R.length = L.length := by rw [← e, List.length_map]
  obtain ⟨A', c', e1, _⟩ := row_form hr
  injection e1 with e1 e2 e3
  subst e1 e2 e3
  obtain ⟨g, rfl, hg, _, hc, _⟩ := row_cell hr (by omega)
  obtain ⟨t0, t1, t2, t3⟩ := cQ_at (R := R) (k := k) (by omega)
  have hq : qAt L k = pqQ (R[k]'(by omega)) := by rw [qAt_get hk]; simp [← e]
  rw [hq]
  exact ⟨g, _, rfl, hg, hc _ _ t0, hc _ _ t1, hc _ _ t2, hc _ _ t3, ho _ (List.getElem_mem _)⟩
theorem OwnC.cells_at {B : Nat} {w : World} {A : Option Addr} {n c k : Nat} {L : List Ca} (h : OwnC B w (.slice A n c) L) (hk : k < L.length) :
    ∃ g u cur, A = some ⟨g, 0, none⟩ ∧ Box w g 64 cur ∧ w.cell? ⟨g, k * 2, none⟩ = some (.int .i64 (cAt L k).1) ∧ w.cell? ⟨g, k * 2 + 1, none⟩ = some u ∧ OwnBy w u (cAt L k).2 := by
  obtain ⟨R, e, hr, ho⟩ := h
  have hl : R.length = L.length := by rw [← e, List.length_map]
  obtain ⟨hlen, h0 | ⟨g, cap, cur, e1, hgB, hh, h4, h5, h6, ht⟩⟩ := hr
  · omega
  injection e1 with e1 e2 e3
  have hX : Box w g 64 cur := hh
  obtain ⟨t0, t1⟩ := cC_at (R := R) (k := k) (by omega)
  have hq : cAt L k = pcC (R[k]'(by omega)) := by rw [cAt_get hk]; simp [← e]
  rw [hq]
  exact ⟨g, _, cur, e1, hX, (hX.cell _).trans (xs_at ht t0), (hX.cell _).trans (xs_at ht t1), ho _ (List.getElem_mem _)⟩
/-- the queue without the request at p, behind k rounds -/
def qdK (L : List Rq) (p k : Nat) : List Rq := if k ≤ p then L.take k else L.take p ++ (L.take k).drop (p + 1)
theorem qd_p (L : List Rq) (p : Nat) : qdK L p (p + 1) = qdK L p p := by
  unfold qdK
  rw [if_neg (by omega), if_pos (Nat.le_refl _), List.drop_eq_nil_of_le (by rw [List.length_take]; omega), List.append_nil]
theorem qd_ne {L : List Rq} {p k : Nat} (hk : k < L.length) (hne : k ≠ p) : qdK L p (k + 1) = qdK L p k ++ [qAt L k] := by
  unfold qdK
  by_cases h : k < p
  · rw [if_pos (by omega), if_pos (by omega)]; exact qAt_snoc hk
  · have h1 : ¬ k + 1 ≤ p := by omega
    have h2 : ¬ k ≤ p := by omega
    rw [if_neg h1, if_neg h2, qAt_snoc hk, List.drop_append_of_le_length (by rw [List.length_take]; omega), List.append_assoc]
theorem qd_end {L : List Rq} {p : Nat} (hp : p < L.length) : qdK L p L.length = L.take p ++ L.drop (p + 1) := by
  unfold qdK
  rw [if_neg (by omega), List.take_length]
theorem qd_len (L : List Rq) (p k : Nat) : (qdK L p k).length ≤ L.length + L.length := by
  unfold qdK
  split
  · rw [List.length_take]; omega
  · rw [List.length_append, List.length_drop, List.length_take, List.length_take]; omega

theorem fld28 (W : World) (d n : Int) (A1 A2 A3 : Option Addr) (n1 c1 n2 c2 n3 c3 : Nat) : (Instr.field 28 (.agg #[.int .i64 d, .int .i64 n, .slice A1 n1 c1, .slice A2 n2 c2, .slice A3 n3 c3]) 4).run Try.prog W = .ok (.slice A3 n3 c3) W := by kernel_rfl
set_option maxHeartbeats 4000000 in
set_option maxRecDepth 100000 in
theorem rcomplete_ok (v : Value) (D : Dev) (p : Nat) (ok : Bool) (w : World) (hv : DevIn w v D) (hB : Big D) (hk : chk D = 0) (hp : p < D.qu.length) :
    Calls Try.prog 26 #[v, .int .i64 p, .bool ok] w (DqR (cmD D p ok) (cmQ D p ok) 0 w) := by
  obtain ⟨z0, z1, z2, l, hq⟩ : ∃ z0 z1 z2 l, qAt D.qu p = (z0, z1, z2, l) := ⟨_, _, _, _, rfl⟩
  have hqe := q_ok hk hp
  rw [hq] at hqe
  simp only at hqe
  have IN := hide hv
  obtain ⟨Ab, cb, Ac, cc, Aq, cq, rfl, h1, h2, h3, rb, rc, rq⟩ := hv
  obtain ⟨W0, hW0⟩ : ∃ W0, W0 = ((w.alloc (.cells #[.int .i64 D.dep, .int .i64 D.nxt, .slice Ab D.bl.length cb, .slice Ac D.ca.length cc, .slice Aq D.qu.length cq] 28)).alloc (.cells #[.int .i64 0, .int .i64 0, .slice none 0 0, .slice none 0 0, .slice none 0 0] 28)).alloc (.cells #[.int .i64 0, .int .i64 0, .int .i64 0, .slice none 0 0] 39) := ⟨_, rfl⟩
  have K0 := hide (show Below w.heap.size w W0 by rw [hW0]; exact bal (bal (bal (brefl w) _) _) _)
  have X := hide (show Box W0 w.heap.size 28 #[.int .i64 D.dep, .int .i64 D.nxt, .slice Ab D.bl.length cb, .slice Ac D.ca.length cc, .slice Aq D.qu.length cq] by rw [hW0]; exact ((Box.new w 28 _).more _).more _)
  have Y := hide (show Box W0 (w.heap.size + 1) 28 #[.int .i64 0, .int .i64 0, .slice none 0 0, .slice none 0 0, .slice none 0 0] by rw [hW0]; exact (Box.new2 _ _ _ _).more _)
  have Z := hide (show Box W0 (w.heap.size + 2) 39 #[.int .i64 0, .int .i64 0, .int .i64 0, .slice none 0 0] by rw [hW0]; exact Box.new3 _ _ _ _ _)
  have C1 := hide (rcheck_any _ D W0 (IN.out.below K0.out) hB)
  rw [hk] at C1
  have SM := hide (sm_ok hk)
  have HK := hide hk
  have hlqu := SM.out.qu
  have CC := hide (fun W (hb : Below w.heap.size w W) => copy_dev _ D W (IN.out.below hb) SM.out)
  unfold DvR at CC
  have HBIG := hide hB
  have HW := hide hW0
  have HQE := hide hqe
  have HQA := hide hq
  obtain ⟨E, hE⟩ : ∃ E, E = cmD D p ok := ⟨_, rfl⟩
  obtain ⟨y0, y1, y2, l2, hQ⟩ : ∃ y0 y1 y2 l2, cmQ D p ok = (y0, y1, y2, l2) := ⟨_, _, _, _, rfl⟩
  rw [← hE, hQ]
  have HE := hide hE
  have HQ2 := hide hQ
  clear rb rc rq hW0 hq hk hqe hE hQ hB
  have hp0 : ¬ (p : Int) < 0 := by omega
  have hp1 : ¬ (D.qu.length : Int) ≤ (p : Int) := by omega
  have hpp : (0 : Int) ≤ (p : Int) := by omega
  have hp3 : (p : Int) < (D.qu.length : Int) := by omega
  have hfld := fld28
  go_enter Try.func26, Try.ntmps26
  go_wp2_with fail
  rw [← HW.out]
  refine C1.out.mono ?_
  rintro e w1 ⟨rfl, hb⟩
  have K := hide (btrans K0.out hb)
  have X1 := hide (X.out.below hb)
  have Y1 := hide (Y.out.below hb)
  have Z1 := hide (Z.out.below hb)
  clear hb X Y Z
  obtain ⟨x0, x1, x2, x3, x4⟩ := box5_cells (W' := w1) X1.out
  go_wp2_with fail
  refine (CC.out _ K.out).mono ?_
  rintro e w2 ⟨v2, rfl, ho, hb⟩
  obtain ⟨vb, vc, vq, rfl, ob, oc, oq⟩ := ho
  obtain ⟨E1, g1, rfl, _⟩ := ob.form
  obtain ⟨E2, g2, rfl, _⟩ := oc.form
  obtain ⟨E3, g3, rfl, _⟩ := oq.form
  have hw1 := K.out.size
  obtain ⟨OBJ, hOBJ⟩ : ∃ OBJ : Obj, OBJ = .cells #[.int .i64 D.dep, .int .i64 D.nxt, .slice E1 D.bl.length g1, .slice E2 D.ca.length g2, .slice E3 D.qu.length g3] 28 := ⟨_, rfl⟩
  have BG3 := hide (Box.new w2 28 #[.int .i64 D.dep, .int .i64 D.nxt, .slice E1 D.bl.length g1, .slice E2 D.ca.length g2, .slice E3 D.qu.length g3])
  rw [← hOBJ] at BG3
  have K3 := hide (bal (btrans K.out hb) OBJ)
  have X3 := hide ((X1.out.below hb).more OBJ)
  have Y3 := hide ((Y1.out.below hb).more OBJ)
  have Z3 := hide ((Z1.out.below hb).more OBJ)
  have OB3 := hide ((ob.mono hw1).below (bal (brefl w2) OBJ))
  have OC3 := hide ((oc.mono hw1).below (bal (brefl w2) OBJ))
  have OQ3 := hide ((oq.mono hw1).below (bal (brefl w2) OBJ))
  have hgw : w.heap.size + 2 < w2.heap.size := Nat.lt_of_lt_of_le Z1.out.lt hb.size
  clear hb ob oc oq x0 x1 x2 x3 x4 K X1 Y1 Z1 hw1
  go_upto_region 7 with fail
  rw [← hOBJ]
  obtain ⟨g, hg⟩ : ∃ g, g = w2.heap.size := ⟨_, rfl⟩
  rw [← hg] at BG3 hgw ⊢
  generalize w2.alloc OBJ = w3 at *
  clear hg hOBJ
  obtain ⟨gq, u, rfl, hgq, c0, c1, c2, c3, hu⟩ := OQ3.out.cells_at hp
  rw [HQA.out] at c0 c1 c2 hu
  simp only at c0 c1 c2 hu
  obtain ⟨A1, d1, rfl⟩ := hu.form
  have x4 := BG3.out.cell 4
  simp at x4
  have BH4 := hide (Box.new w3 39 #[.int .i64 z0, .int .i64 z1, .int .i64 z2, .slice A1 l.length d1])
  have HU4 := hide (hu.below (bal (brefl w3) (.cells #[.int .i64 z0, .int .i64 z1, .int .i64 z2, .slice A1 l.length d1] 39)))
  have BG4 := hide (BG3.out.more (.cells #[.int .i64 z0, .int .i64 z1, .int .i64 z2, .slice A1 l.length d1] 39))
  have K4 := hide (bal K3.out (.cells #[.int .i64 z0, .int .i64 z1, .int .i64 z2, .slice A1 l.length d1] 39))
  have X4 := hide (X3.out.more (.cells #[.int .i64 z0, .int .i64 z1, .int .i64 z2, .slice A1 l.length d1] 39))
  have Y4 := hide (Y3.out.more (.cells #[.int .i64 z0, .int .i64 z1, .int .i64 z2, .slice A1 l.length d1] 39))
  have Z4 := hide (Z3.out.more (.cells #[.int .i64 z0, .int .i64 z1, .int .i64 z2, .slice A1 l.length d1] 39))
  have OB4 := hide (OB3.out.below (bal (brefl w3) (.cells #[.int .i64 z0, .int .i64 z1, .int .i64 z2, .slice A1 l.length d1] 39)))
  have OC4 := hide (OC3.out.below (bal (brefl w3) (.cells #[.int .i64 z0, .int .i64 z1, .int .i64 z2, .slice A1 l.length d1] 39)))
  have hgh : g < w3.heap.size := BG3.out.lt
  go_upto_region 8 with fail
  obtain ⟨h, hh⟩ : ∃ h, h = w3.heap.size := ⟨_, rfl⟩
  rw [← hh] at BH4 hgh ⊢
  generalize w3.alloc (.cells #[.int .i64 z0, .int .i64 z1, .int .i64 z2, .slice A1 l.length d1] 39) = w4 at *
  clear hh c0 c1 c2 c3 x4 hu hgq K3 X3 Y3 Z3 OB3 OC3 OQ3 BG3
  have x4 := BG4.out.cell 4
  have fx4 := BG4.out.frozen 4
  simp at x4
  have KS := hide (Kp.boxset (B := w.heap.size) BG4.out (by omega) 4 (.slice none 0 0))
  have R0 := hide (show Rcp w D #[.int .i64 D.dep, .int .i64 D.nxt, .slice Ab D.bl.length cb, .slice Ac D.ca.length cc, .slice Aq D.qu.length cq] g h (.slice E1 D.bl.length g1) (.slice E2 D.ca.length g2) (.slice none 0 0) D.bl D.ca (qdK D.qu p 0) (z0, z1, z2, l) (.slice A1 l.length d1) (w4.setCell ⟨g, 4, none⟩ (.slice none 0 0)) from
    ⟨K4.out.trans KS.out.below, X4.out.far (by omega) _, Y4.out.far (by omega) _, Z4.out.far (by omega) _, BG4.out.put 4 _, BH4.out.far (by omega) _, HU4.out.kp KS.out (by decide), OB4.out.kp KS.out (by decide) (by decide), OC4.out.kp KS.out (by decide) (by decide), by unfold qdK; rw [if_pos (Nat.zero_le _), List.take_zero]; exact OwnQ.nil _ _⟩)
  go_upto_region 10 with fail
  generalize w4.setCell ⟨g, 4, none⟩ (.slice none 0 0) = w5 at *
  clear x4 fx4 KS K4 X4 Y4 Z4 BG4 BH4 HU4 OB4 OC4 C1
  have CS := hide (fun (W : World) (hX : Box W w.heap.size 28 #[.int .i64 D.dep, .int .i64 D.nxt, .slice Ab D.bl.length cb, .slice Ac D.ca.length cc, .slice Aq D.qu.length cq]) => (⟨hX.cell 0, hX.cell 1, hX.cell 2, hX.cell 3, hX.cell 4⟩ : (fun W => W.cell? ⟨w.heap.size, 0, none⟩ = some (.int .i64 D.dep) ∧ W.cell? ⟨w.heap.size, 1, none⟩ = some (.int .i64 D.nxt) ∧ W.cell? ⟨w.heap.size, 2, none⟩ = some (.slice Ab D.bl.length cb) ∧ W.cell? ⟨w.heap.size, 3, none⟩ = some (.slice Ac D.ca.length cc) ∧ W.cell? ⟨w.heap.size, 4, none⟩ = some (.slice Aq D.qu.length cq)) W))
  go_loopw [12] (fun i wr => ∃ (k : Nat) (vq : Value), k ≤ D.qu.length ∧ i = .int .i64 k ∧ Hid (Rcp w D #[.int .i64 D.dep, .int .i64 D.nxt, .slice Ab D.bl.length cb, .slice Ac D.ca.length cc, .slice Aq D.qu.length cq] g h (.slice E1 D.bl.length g1) (.slice E2 D.ca.length g2) vq D.bl D.ca (qdK D.qu p k) (z0, z1, z2, l) (.slice A1 l.length d1) wr)) (fun i _ => D.qu.length - (intOf i).toNat)
  case atStart => exact ⟨0, _, Nat.zero_le _, rfl, R0⟩
  case round =>
    clear R0
    obtain ⟨k, vq, hk, rfl, RC0⟩ := hrel
    have s4 := RC0.out.src.cell 4
    simp at s4
    by_cases hlt : k < D.qu.length
    · have hlt1 : (k : Int) < (D.qu.length : Int) := by omega
      have hlt2 : ¬ (D.qu.length : Int) ≤ (k : Int) := by omega
      have hk0 : (0 : Int) ≤ (k : Int) := by omega
      by_cases hkp : k = p
      · have QN := hide (show qdK D.qu p (k + 1) = qdK D.qu p k by rw [hkp]; exact qd_p D.qu p)
        have hd : ((k : Int) == (p : Int)) = true := by simp; omega
        have hd2 : ((k : Int) != (p : Int)) = false := by simp; omega
        go_wp2
        go_roundw
        case rel => exact ⟨k + 1, vq, by omega, by go_num, hide (by rw [QN.out]; exact RC0.out)⟩
        case measure => simp [intOf]; omega
      · have QN0 := hide (qd_ne hlt hkp)
        have hd : ((k : Int) == (p : Int)) = false := by simp; omega
        have hd2 : ((k : Int) != (p : Int)) = true := by simp; omega
        obtain ⟨y0', y1', y2', l6, hqk⟩ : ∃ y0' y1' y2' l6, qAt D.qu k = (y0', y1', y2', l6) := ⟨_, _, _, _, rfl⟩
        have QN := hide (show qdK D.qu p (k + 1) = qdK D.qu p k ++ [(y0', y1', y2', l6)] by rw [← hqk]; exact QN0.out)
        have HQK := hide hqk
        have hMl := qd_len D.qu p k
        obtain ⟨i0, hi0, hz0, hz1, hz2⟩ := info_parts info39
        obtain ⟨Ao, co, rfl, _⟩ := RC0.out.oq.form
        generalize qdK D.qu p k = M at *
        clear QN0 hqk
        go_upto_region 13 with fail
        clear s4 hd hd2
        refine wp_region_noPanic ?_
        refine wp_region_held_drew (S := (fun W => W.cell? ⟨w.heap.size, 0, none⟩ = some (.int .i64 D.dep) ∧ W.cell? ⟨w.heap.size, 1, none⟩ = some (.int .i64 D.nxt) ∧ W.cell? ⟨w.heap.size, 2, none⟩ = some (.slice Ab D.bl.length cb) ∧ W.cell? ⟨w.heap.size, 3, none⟩ = some (.slice Ac D.ca.length cc) ∧ W.cell? ⟨w.heap.size, 4, none⟩ = some (.slice Aq D.qu.length cq))) (by kernel_rfl) ?_ (fun hHeld => ?_)
        · exact CS.out _ (RC0.out.on (below_drew (brefl wr))).src
        have KD := hide (btrans RC0.out.below (below_drew (brefl wr)))
        have RC := hide (RC0.out.on (below_drew (brefl wr)))
        have SX := hide RC.out.src
        clear RC0
        generalize wr.drew = wd at *
        have y4 := RC.out.bg.cell 4
        simp at y4
        refine wpAnyH_take (i := 0) (oi := ⟨some 50, _, _, _, _, _⟩) (v := ?_) rfl (by kernel_rfl) (by kernel_rfl) (by kernel_rfl) (fun _ _ _ h => h) (Or.inl ⟨by kernel_rfl, ?_⟩) (by assumption) ?_
        rotate_left 1
        · (intro w hSw; (try dsimp only at hSw); go_simp) <;> (with_reducible rfl)
        (try simp only [Act.put, List.setIfInBounds_toArray, List.set_cons_succ, List.set_cons_zero])
        refine wpAnyH_take (i := 2) (oi := ⟨some 52, _, _, _, _, _⟩) (v := ?_) rfl (by kernel_rfl) (by kernel_rfl) (by kernel_rfl) (fun _ _ _ h => h) (Or.inl ⟨by kernel_rfl, ?_⟩) (by assumption) ?_
        rotate_left 1
        · (intro w hSw; (try dsimp only at hSw); go_simp) <;> (with_reducible rfl)
        (try simp only [Act.put, List.setIfInBounds_toArray, List.set_cons_succ, List.set_cons_zero])
        refine wpAnyH_take (i := 5) (oi := ⟨some 55, _, _, _, _, _⟩) (v := ?_) rfl (by kernel_rfl) (by kernel_rfl) (by kernel_rfl) (fun _ _ _ h => h) (Or.inl ⟨by kernel_rfl, ?_⟩) (by assumption) ?_
        rotate_left 1
        · (intro w hSw; (try dsimp only at hSw); go_simp) <;> (with_reducible rfl)
        (try simp only [Act.put, List.setIfInBounds_toArray, List.set_cons_succ, List.set_cons_zero])
        refine wpAnyH_ready (rs := [1, 3]) (by kernel_rfl) (by simp) ?_
        refine AllReadyH.cons (o := ⟨some 51, _, _, _, _, _⟩) rfl (fun K' hK => ?_) ?_
        · go_simp
          refine hK.out _ _ ?_ (fun hHeld => ?_)
          · exact CS.out _ SX.out
          clear hK K'
          (try simp only [Act.put, List.setIfInBounds_toArray, List.set_cons_succ, List.set_cons_zero])
          refine wpAnyH_ready (rs := [3]) (by kernel_rfl) (by simp) ?_
          refine AllReadyH.cons (o := ⟨some 53, _, _, _, _, _⟩) rfl (fun K' hK => ?_) AllReadyH.nil
          go_simp
          refine (CC.out wd KD.out).mono ?_
          rintro e w6 ⟨v6, rfl, ho6, hb6⟩
          obtain ⟨vb6, vc6, vq6, rfl, ob6, oc6, oq6⟩ := ho6
          obtain ⟨F1, f1, rfl, _⟩ := ob6.form
          obtain ⟨F2, f2, rfl, _⟩ := oc6.form
          obtain ⟨F3, f3, rfl, _⟩ := oq6.form
          obtain ⟨gq6, u6, rfl, _, c0, c1, c2, c3, hu6⟩ := oq6.cells_at hlt
          rw [HQK.out] at c0 c1 c2 hu6
          simp only at c0 c1 c2 hu6
          obtain ⟨A6, d6, rfl⟩ := hu6.form
          have HU := hide hu6
          replace RC := hide (RC.out.on hb6)
          replace SX := hide (SX.out.below hb6)
          clear y4
          have y4 := RC.out.bg.cell 4
          simp at y4
          clear hb6 hu6
          refine hK.out _ _ ?_ (fun hHeld => ?_)
          · exact CS.out _ SX.out
          clear hK K'
          (try simp only [Act.put, List.setIfInBounds_toArray, List.set_cons_succ, List.set_cons_zero])
          refine wpAnyH_take (i := 4) (oi := ⟨some 54, _, _, _, _, _⟩) (v := ?_) rfl (by kernel_rfl) (by kernel_rfl) (by kernel_rfl) (fun _ _ _ h => h) (Or.inl ⟨by kernel_rfl, ?_⟩) (by assumption) ?_
          rotate_left 1
          · (intro w hSw; (try dsimp only at hSw); go_simp) <;> (with_reducible rfl)
          (try simp only [Act.put, List.setIfInBounds_toArray, List.set_cons_succ, List.set_cons_zero])
          refine wpAnyH_take (i := 6) (oi := ⟨some 56, _, _, _, _, _⟩) (v := ?_) rfl (by kernel_rfl) (by kernel_rfl) (by kernel_rfl) (fun _ _ _ h => h) (Or.inl ⟨by kernel_rfl, ?_⟩) (by assumption) ?_
          rotate_left 1
          · (intro w hSw; (try dsimp only at hSw); go_simp) <;> (with_reducible rfl)
          (try simp only [Act.put, List.setIfInBounds_toArray, List.set_cons_succ, List.set_cons_zero])
          refine wpAnyH_ready (rs := [7]) (by kernel_rfl) (by simp) ?_
          refine AllReadyH.cons (o := ⟨some 57, _, _, _, _, _⟩) rfl (fun K' hK => ?_) AllReadyH.nil
          go_simp
          refine hK.out _ _ ?_ (fun hHeld => ?_)
          · exact CS.out _ SX.out
          clear hK K'
          (try simp only [Act.put, List.setIfInBounds_toArray, List.set_cons_succ, List.set_cons_zero])
          refine wpAnyH_ready (rs := [8]) (by kernel_rfl) (by simp) ?_
          refine AllReadyH.cons (o := ⟨some 58, _, _, _, _, _⟩) rfl (fun K' hK => ?_) AllReadyH.nil
          go_simp
          replace RC := hide (RC.out.on (bal (brefl w6) (.cells #[.int .i64 y0', .int .i64 y1', .int .i64 y2', .slice A6 l6.length d6] 39)))
          replace SX := hide (SX.out.more (.cells #[.int .i64 y0', .int .i64 y1', .int .i64 y2', .slice A6 l6.length d6] 39))
          replace HU := hide (HU.out.below (bal (brefl w6) (.cells #[.int .i64 y0', .int .i64 y1', .int .i64 y2', .slice A6 l6.length d6] 39)))
          have NW := hide (cell_row w6 #[.int .i64 y0', .int .i64 y1', .int .i64 y2', .slice A6 l6.length d6] 39)
          clear y4 c0 c1 c2 c3
          generalize w6.alloc (.cells #[.int .i64 y0', .int .i64 y1', .int .i64 y2', .slice A6 l6.length d6] 39) = w7 at *
          have y4 := RC.out.bg.cell 4
          simp at y4
          refine hK.out _ _ ?_ (fun hHeld => ?_)
          · exact CS.out _ SX.out
          clear hK K'
          (try simp only [Act.put, List.setIfInBounds_toArray, List.set_cons_succ, List.set_cons_zero])
          refine wpAnyH_ready (rs := [9]) (by kernel_rfl) (by simp) ?_
          refine AllReadyH.cons (o := ⟨some 59, _, _, _, _, _⟩) rfl (fun K' hK => ?_) AllReadyH.nil
          obtain ⟨R, hR, hrow, hro⟩ := RC.out.oq
          refine step_append_own rfl (.tmp 51) (.tmp 58) 26 rfl (h + 1) 39 i0 _ 4 48 Try.underlying26 hi0 hz0 hz1 hz2 rfl (by omega) (.slice Ao M.length co) M.length _ rfl hrow ⟨w6.heap.size, 0, none⟩ 1 1 [.int .i64 y0', .int .i64 y1', .int .i64 y2', .slice A6 l6.length d6] rfl rfl NW.out (by intro u hu; simp at hu; rcases hu with rfl | rfl | rfl | rfl <;> rfl) (by simp only [maxLen]; omega) (by omega) RC.out.bh.lt ?_
          intro v4 w4 hown4 hg4
          obtain ⟨A4, c4, rfl, _⟩ := row_form hown4
          have PU := hide (RC.out.push hgw hgh hR hro hrow HU.out hown4 hg4)
          have KP4 := hide (kp_grown hrow hg4 RC.out.bh.lt)
          have BG4 := hide (RC.out.bg.kp KP4.out (by decide))
          replace SX := hide (SX.out.kp KP4.out (by decide))
          have o2 := BG4.out.cell 4
          have of2 := BG4.out.frozen 4
          simp at o2
          clear hown4 hg4 hrow hro hR y4
          (try simp only [Act.put, List.setIfInBounds_toArray, List.set_cons_succ, List.set_cons_zero])
          refine hK.out _ _ ?_ (fun hHeld => ?_)
          · exact CS.out _ SX.out
          clear hK K'
          (try simp only [Act.put, List.setIfInBounds_toArray, List.set_cons_succ, List.set_cons_zero])
          refine wpAnyH_take (i := 10) (oi := ⟨some 60, _, _, _, _, _⟩) (v := ?_) rfl (by kernel_rfl) (by kernel_rfl) (by kernel_rfl) (fun _ _ _ h => h) (Or.inl ⟨by kernel_rfl, ?_⟩) (by assumption) ?_
          rotate_left 1
          · (intro w hSw; (try dsimp only at hSw); go_simp) <;> (with_reducible rfl)
          (try simp only [Act.put, List.setIfInBounds_toArray, List.set_cons_succ, List.set_cons_zero])
          refine wpAnyH_ready (rs := [11]) (by kernel_rfl) (by simp) ?_
          refine AllReadyH.cons (o := ⟨none, _, _, _, _, _⟩) rfl (fun K' hK => ?_) AllReadyH.nil
          go_simp
          replace SX := hide (SX.out.far (i := 4) (show w.heap.size ≠ g by omega) (.slice A4 (M.length + 1) c4))
          refine hK.out _ _ ?_ (fun hHeld => ?_)
          · exact CS.out _ SX.out
          clear hK K'
          (try simp only [Act.put, List.setIfInBounds_toArray, List.set_cons_succ, List.set_cons_zero])
          refine wpAnyH_done (by kernel_rfl) ?_ _
          refine NoPanic.normal ?_
          go_wp2
          go_roundw
          case rel => exact ⟨k + 1, _, by omega, by go_num, hide (by rw [QN.out]; exact PU.out)⟩
          case measure => simp [intOf]; omega
        refine AllReadyH.cons (o := ⟨some 53, _, _, _, _, _⟩) rfl (fun K' hK => ?_) AllReadyH.nil
        go_simp
        refine (CC.out wd KD.out).mono ?_
        rintro e w6 ⟨v6, rfl, ho6, hb6⟩
        obtain ⟨vb6, vc6, vq6, rfl, ob6, oc6, oq6⟩ := ho6
        obtain ⟨F1, f1, rfl, _⟩ := ob6.form
        obtain ⟨F2, f2, rfl, _⟩ := oc6.form
        obtain ⟨F3, f3, rfl, _⟩ := oq6.form
        obtain ⟨gq6, u6, rfl, _, c0, c1, c2, c3, hu6⟩ := oq6.cells_at hlt
        rw [HQK.out] at c0 c1 c2 hu6
        simp only at c0 c1 c2 hu6
        obtain ⟨A6, d6, rfl⟩ := hu6.form
        have HU := hide hu6
        replace RC := hide (RC.out.on hb6)
        replace SX := hide (SX.out.below hb6)
        clear y4
        have y4 := RC.out.bg.cell 4
        simp at y4
        clear hb6 hu6
        refine hK.out _ _ ?_ (fun hHeld => ?_)
        · exact CS.out _ SX.out
        clear hK K'
        (try simp only [Act.put, List.setIfInBounds_toArray, List.set_cons_succ, List.set_cons_zero])
        refine wpAnyH_take (i := 4) (oi := ⟨some 54, _, _, _, _, _⟩) (v := ?_) rfl (by kernel_rfl) (by kernel_rfl) (by kernel_rfl) (fun _ _ _ h => h) (Or.inl ⟨by kernel_rfl, ?_⟩) (by assumption) ?_
        rotate_left 1
        · (intro w hSw; (try dsimp only at hSw); go_simp) <;> (with_reducible rfl)
        (try simp only [Act.put, List.setIfInBounds_toArray, List.set_cons_succ, List.set_cons_zero])
        refine wpAnyH_take (i := 6) (oi := ⟨some 56, _, _, _, _, _⟩) (v := ?_) rfl (by kernel_rfl) (by kernel_rfl) (by kernel_rfl) (fun _ _ _ h => h) (Or.inl ⟨by kernel_rfl, ?_⟩) (by assumption) ?_
        rotate_left 1
        · (intro w hSw; (try dsimp only at hSw); go_simp) <;> (with_reducible rfl)
        (try simp only [Act.put, List.setIfInBounds_toArray, List.set_cons_succ, List.set_cons_zero])
        refine wpAnyH_ready (rs := [1, 7]) (by kernel_rfl) (by simp) ?_
        refine AllReadyH.cons (o := ⟨some 51, _, _, _, _, _⟩) rfl (fun K' hK => ?_) ?_
        · go_simp
          refine hK.out _ _ ?_ (fun hHeld => ?_)
          · exact CS.out _ SX.out
          clear hK K'
          (try simp only [Act.put, List.setIfInBounds_toArray, List.set_cons_succ, List.set_cons_zero])
          refine wpAnyH_ready (rs := [7]) (by kernel_rfl) (by simp) ?_
          refine AllReadyH.cons (o := ⟨some 57, _, _, _, _, _⟩) rfl (fun K' hK => ?_) AllReadyH.nil
          go_simp
          refine hK.out _ _ ?_ (fun hHeld => ?_)
          · exact CS.out _ SX.out
          clear hK K'
          (try simp only [Act.put, List.setIfInBounds_toArray, List.set_cons_succ, List.set_cons_zero])
          refine wpAnyH_ready (rs := [8]) (by kernel_rfl) (by simp) ?_
          refine AllReadyH.cons (o := ⟨some 58, _, _, _, _, _⟩) rfl (fun K' hK => ?_) AllReadyH.nil
          go_simp
          replace RC := hide (RC.out.on (bal (brefl w6) (.cells #[.int .i64 y0', .int .i64 y1', .int .i64 y2', .slice A6 l6.length d6] 39)))
          replace SX := hide (SX.out.more (.cells #[.int .i64 y0', .int .i64 y1', .int .i64 y2', .slice A6 l6.length d6] 39))
          replace HU := hide (HU.out.below (bal (brefl w6) (.cells #[.int .i64 y0', .int .i64 y1', .int .i64 y2', .slice A6 l6.length d6] 39)))
          have NW := hide (cell_row w6 #[.int .i64 y0', .int .i64 y1', .int .i64 y2', .slice A6 l6.length d6] 39)
          clear y4 c0 c1 c2 c3
          generalize w6.alloc (.cells #[.int .i64 y0', .int .i64 y1', .int .i64 y2', .slice A6 l6.length d6] 39) = w7 at *
          have y4 := RC.out.bg.cell 4
          simp at y4
          refine hK.out _ _ ?_ (fun hHeld => ?_)
          · exact CS.out _ SX.out
          clear hK K'
          (try simp only [Act.put, List.setIfInBounds_toArray, List.set_cons_succ, List.set_cons_zero])
          refine wpAnyH_ready (rs := [9]) (by kernel_rfl) (by simp) ?_
          refine AllReadyH.cons (o := ⟨some 59, _, _, _, _, _⟩) rfl (fun K' hK => ?_) AllReadyH.nil
          obtain ⟨R, hR, hrow, hro⟩ := RC.out.oq
          refine step_append_own rfl (.tmp 51) (.tmp 58) 26 rfl (h + 1) 39 i0 _ 4 48 Try.underlying26 hi0 hz0 hz1 hz2 rfl (by omega) (.slice Ao M.length co) M.length _ rfl hrow ⟨w6.heap.size, 0, none⟩ 1 1 [.int .i64 y0', .int .i64 y1', .int .i64 y2', .slice A6 l6.length d6] rfl rfl NW.out (by intro u hu; simp at hu; rcases hu with rfl | rfl | rfl | rfl <;> rfl) (by simp only [maxLen]; omega) (by omega) RC.out.bh.lt ?_
          intro v4 w4 hown4 hg4
          obtain ⟨A4, c4, rfl, _⟩ := row_form hown4
          have PU := hide (RC.out.push hgw hgh hR hro hrow HU.out hown4 hg4)
          have KP4 := hide (kp_grown hrow hg4 RC.out.bh.lt)
          have BG4 := hide (RC.out.bg.kp KP4.out (by decide))
          replace SX := hide (SX.out.kp KP4.out (by decide))
          have o2 := BG4.out.cell 4
          have of2 := BG4.out.frozen 4
          simp at o2
          clear hown4 hg4 hrow hro hR y4
          (try simp only [Act.put, List.setIfInBounds_toArray, List.set_cons_succ, List.set_cons_zero])
          refine hK.out _ _ ?_ (fun hHeld => ?_)
          · exact CS.out _ SX.out
          clear hK K'
          (try simp only [Act.put, List.setIfInBounds_toArray, List.set_cons_succ, List.set_cons_zero])
          refine wpAnyH_take (i := 10) (oi := ⟨some 60, _, _, _, _, _⟩) (v := ?_) rfl (by kernel_rfl) (by kernel_rfl) (by kernel_rfl) (fun _ _ _ h => h) (Or.inl ⟨by kernel_rfl, ?_⟩) (by assumption) ?_
          rotate_left 1
          · (intro w hSw; (try dsimp only at hSw); go_simp) <;> (with_reducible rfl)
          (try simp only [Act.put, List.setIfInBounds_toArray, List.set_cons_succ, List.set_cons_zero])
          refine wpAnyH_ready (rs := [11]) (by kernel_rfl) (by simp) ?_
          refine AllReadyH.cons (o := ⟨none, _, _, _, _, _⟩) rfl (fun K' hK => ?_) AllReadyH.nil
          go_simp
          replace SX := hide (SX.out.far (i := 4) (show w.heap.size ≠ g by omega) (.slice A4 (M.length + 1) c4))
          refine hK.out _ _ ?_ (fun hHeld => ?_)
          · exact CS.out _ SX.out
          clear hK K'
          (try simp only [Act.put, List.setIfInBounds_toArray, List.set_cons_succ, List.set_cons_zero])
          refine wpAnyH_done (by kernel_rfl) ?_ _
          refine NoPanic.normal ?_
          go_wp2
          go_roundw
          case rel => exact ⟨k + 1, _, by omega, by go_num, hide (by rw [QN.out]; exact PU.out)⟩
          case measure => simp [intOf]; omega
        refine AllReadyH.cons (o := ⟨some 57, _, _, _, _, _⟩) rfl (fun K' hK => ?_) AllReadyH.nil
        go_simp
        refine hK.out _ _ ?_ (fun hHeld => ?_)
        · exact CS.out _ SX.out
        clear hK K'
        (try simp only [Act.put, List.setIfInBounds_toArray, List.set_cons_succ, List.set_cons_zero])
        refine wpAnyH_ready (rs := [1, 8]) (by kernel_rfl) (by simp) ?_
        refine AllReadyH.cons (o := ⟨some 51, _, _, _, _, _⟩) rfl (fun K' hK => ?_) ?_
        · go_simp
          refine hK.out _ _ ?_ (fun hHeld => ?_)
          · exact CS.out _ SX.out
          clear hK K'
          (try simp only [Act.put, List.setIfInBounds_toArray, List.set_cons_succ, List.set_cons_zero])
          refine wpAnyH_ready (rs := [8]) (by kernel_rfl) (by simp) ?_
          refine AllReadyH.cons (o := ⟨some 58, _, _, _, _, _⟩) rfl (fun K' hK => ?_) AllReadyH.nil
          go_simp
          replace RC := hide (RC.out.on (bal (brefl w6) (.cells #[.int .i64 y0', .int .i64 y1', .int .i64 y2', .slice A6 l6.length d6] 39)))
          replace SX := hide (SX.out.more (.cells #[.int .i64 y0', .int .i64 y1', .int .i64 y2', .slice A6 l6.length d6] 39))
          replace HU := hide (HU.out.below (bal (brefl w6) (.cells #[.int .i64 y0', .int .i64 y1', .int .i64 y2', .slice A6 l6.length d6] 39)))
          have NW := hide (cell_row w6 #[.int .i64 y0', .int .i64 y1', .int .i64 y2', .slice A6 l6.length d6] 39)
          clear y4 c0 c1 c2 c3
          generalize w6.alloc (.cells #[.int .i64 y0', .int .i64 y1', .int .i64 y2', .slice A6 l6.length d6] 39) = w7 at *
          have y4 := RC.out.bg.cell 4
          simp at y4
          refine hK.out _ _ ?_ (fun hHeld => ?_)
          · exact CS.out _ SX.out
          clear hK K'
          (try simp only [Act.put, List.setIfInBounds_toArray, List.set_cons_succ, List.set_cons_zero])
          refine wpAnyH_ready (rs := [9]) (by kernel_rfl) (by simp) ?_
          refine AllReadyH.cons (o := ⟨some 59, _, _, _, _, _⟩) rfl (fun K' hK => ?_) AllReadyH.nil
          obtain ⟨R, hR, hrow, hro⟩ := RC.out.oq
          refine step_append_own rfl (.tmp 51) (.tmp 58) 26 rfl (h + 1) 39 i0 _ 4 48 Try.underlying26 hi0 hz0 hz1 hz2 rfl (by omega) (.slice Ao M.length co) M.length _ rfl hrow ⟨w6.heap.size, 0, none⟩ 1 1 [.int .i64 y0', .int .i64 y1', .int .i64 y2', .slice A6 l6.length d6] rfl rfl NW.out (by intro u hu; simp at hu; rcases hu with rfl | rfl | rfl | rfl <;> rfl) (by simp only [maxLen]; omega) (by omega) RC.out.bh.lt ?_
          intro v4 w4 hown4 hg4
          obtain ⟨A4, c4, rfl, _⟩ := row_form hown4
          have PU := hide (RC.out.push hgw hgh hR hro hrow HU.out hown4 hg4)
          have KP4 := hide (kp_grown hrow hg4 RC.out.bh.lt)
          have BG4 := hide (RC.out.bg.kp KP4.out (by decide))
          replace SX := hide (SX.out.kp KP4.out (by decide))
          have o2 := BG4.out.cell 4
          have of2 := BG4.out.frozen 4
          simp at o2
          clear hown4 hg4 hrow hro hR y4
          (try simp only [Act.put, List.setIfInBounds_toArray, List.set_cons_succ, List.set_cons_zero])
          refine hK.out _ _ ?_ (fun hHeld => ?_)
          · exact CS.out _ SX.out
          clear hK K'
          (try simp only [Act.put, List.setIfInBounds_toArray, List.set_cons_succ, List.set_cons_zero])
          refine wpAnyH_take (i := 10) (oi := ⟨some 60, _, _, _, _, _⟩) (v := ?_) rfl (by kernel_rfl) (by kernel_rfl) (by kernel_rfl) (fun _ _ _ h => h) (Or.inl ⟨by kernel_rfl, ?_⟩) (by assumption) ?_
          rotate_left 1
          · (intro w hSw; (try dsimp only at hSw); go_simp) <;> (with_reducible rfl)
          (try simp only [Act.put, List.setIfInBounds_toArray, List.set_cons_succ, List.set_cons_zero])
          refine wpAnyH_ready (rs := [11]) (by kernel_rfl) (by simp) ?_
          refine AllReadyH.cons (o := ⟨none, _, _, _, _, _⟩) rfl (fun K' hK => ?_) AllReadyH.nil
          go_simp
          replace SX := hide (SX.out.far (i := 4) (show w.heap.size ≠ g by omega) (.slice A4 (M.length + 1) c4))
          refine hK.out _ _ ?_ (fun hHeld => ?_)
          · exact CS.out _ SX.out
          clear hK K'
          (try simp only [Act.put, List.setIfInBounds_toArray, List.set_cons_succ, List.set_cons_zero])
          refine wpAnyH_done (by kernel_rfl) ?_ _
          refine NoPanic.normal ?_
          go_wp2
          go_roundw
          case rel => exact ⟨k + 1, _, by omega, by go_num, hide (by rw [QN.out]; exact PU.out)⟩
          case measure => simp [intOf]; omega
        refine AllReadyH.cons (o := ⟨some 58, _, _, _, _, _⟩) rfl (fun K' hK => ?_) AllReadyH.nil
        go_simp
        replace RC := hide (RC.out.on (bal (brefl w6) (.cells #[.int .i64 y0', .int .i64 y1', .int .i64 y2', .slice A6 l6.length d6] 39)))
        replace SX := hide (SX.out.more (.cells #[.int .i64 y0', .int .i64 y1', .int .i64 y2', .slice A6 l6.length d6] 39))
        replace HU := hide (HU.out.below (bal (brefl w6) (.cells #[.int .i64 y0', .int .i64 y1', .int .i64 y2', .slice A6 l6.length d6] 39)))
        have NW := hide (cell_row w6 #[.int .i64 y0', .int .i64 y1', .int .i64 y2', .slice A6 l6.length d6] 39)
        clear y4 c0 c1 c2 c3
        generalize w6.alloc (.cells #[.int .i64 y0', .int .i64 y1', .int .i64 y2', .slice A6 l6.length d6] 39) = w7 at *
        have y4 := RC.out.bg.cell 4
        simp at y4
        refine hK.out _ _ ?_ (fun hHeld => ?_)
        · exact CS.out _ SX.out
        clear hK K'
        (try simp only [Act.put, List.setIfInBounds_toArray, List.set_cons_succ, List.set_cons_zero])
        refine wpAnyH_ready (rs := [1]) (by kernel_rfl) (by simp) ?_
        refine AllReadyH.cons (o := ⟨some 51, _, _, _, _, _⟩) rfl (fun K' hK => ?_) AllReadyH.nil
        go_simp
        refine hK.out _ _ ?_ (fun hHeld => ?_)
        · exact CS.out _ SX.out
        clear hK K'
        (try simp only [Act.put, List.setIfInBounds_toArray, List.set_cons_succ, List.set_cons_zero])
        refine wpAnyH_ready (rs := [9]) (by kernel_rfl) (by simp) ?_
        refine AllReadyH.cons (o := ⟨some 59, _, _, _, _, _⟩) rfl (fun K' hK => ?_) AllReadyH.nil
        obtain ⟨R, hR, hrow, hro⟩ := RC.out.oq
        refine step_append_own rfl (.tmp 51) (.tmp 58) 26 rfl (h + 1) 39 i0 _ 4 48 Try.underlying26 hi0 hz0 hz1 hz2 rfl (by omega) (.slice Ao M.length co) M.length _ rfl hrow ⟨w6.heap.size, 0, none⟩ 1 1 [.int .i64 y0', .int .i64 y1', .int .i64 y2', .slice A6 l6.length d6] rfl rfl NW.out (by intro u hu; simp at hu; rcases hu with rfl | rfl | rfl | rfl <;> rfl) (by simp only [maxLen]; omega) (by omega) RC.out.bh.lt ?_
        intro v4 w4 hown4 hg4
        obtain ⟨A4, c4, rfl, _⟩ := row_form hown4
        have PU := hide (RC.out.push hgw hgh hR hro hrow HU.out hown4 hg4)
        have KP4 := hide (kp_grown hrow hg4 RC.out.bh.lt)
        have BG4 := hide (RC.out.bg.kp KP4.out (by decide))
        replace SX := hide (SX.out.kp KP4.out (by decide))
        have o2 := BG4.out.cell 4
        have of2 := BG4.out.frozen 4
        simp at o2
        clear hown4 hg4 hrow hro hR y4
        (try simp only [Act.put, List.setIfInBounds_toArray, List.set_cons_succ, List.set_cons_zero])
        refine hK.out _ _ ?_ (fun hHeld => ?_)
        · exact CS.out _ SX.out
        clear hK K'
        (try simp only [Act.put, List.setIfInBounds_toArray, List.set_cons_succ, List.set_cons_zero])
        refine wpAnyH_take (i := 10) (oi := ⟨some 60, _, _, _, _, _⟩) (v := ?_) rfl (by kernel_rfl) (by kernel_rfl) (by kernel_rfl) (fun _ _ _ h => h) (Or.inl ⟨by kernel_rfl, ?_⟩) (by assumption) ?_
        rotate_left 1
        · (intro w hSw; (try dsimp only at hSw); go_simp) <;> (with_reducible rfl)
        (try simp only [Act.put, List.setIfInBounds_toArray, List.set_cons_succ, List.set_cons_zero])
        refine wpAnyH_ready (rs := [11]) (by kernel_rfl) (by simp) ?_
        refine AllReadyH.cons (o := ⟨none, _, _, _, _, _⟩) rfl (fun K' hK => ?_) AllReadyH.nil
        go_simp
        replace SX := hide (SX.out.far (i := 4) (show w.heap.size ≠ g by omega) (.slice A4 (M.length + 1) c4))
        refine hK.out _ _ ?_ (fun hHeld => ?_)
        · exact CS.out _ SX.out
        clear hK K'
        (try simp only [Act.put, List.setIfInBounds_toArray, List.set_cons_succ, List.set_cons_zero])
        refine wpAnyH_done (by kernel_rfl) ?_ _
        refine NoPanic.normal ?_
        go_wp2
        go_roundw
        case rel => exact ⟨k + 1, _, by omega, by go_num, hide (by rw [QN.out]; exact PU.out)⟩
        case measure => simp [intOf]; omega
    · obtain rfl : k = D.qu.length := by omega
      have QE := hide (qd_end hp)
      rw [QE.out] at RC0
      clear QE hlt hk CS
      have hqk := HQE.out
      have hlz := (req_len hqk).1
      have hbz := (req_len hqk).2
      obtain ⟨Aq2, cq2, rfl, _⟩ := RC0.out.oq.form
      have bh1 := RC0.out.bh.cell 1
      simp at bh1
      cases ok with
      | false =>
        have hE : E = ⟨D.dep, D.nxt, D.bl, D.ca, D.qu.take p ++ D.qu.drop (p + 1)⟩ := HE.out
        have hQ : (y0, y1, y2, l2) = (z0, z1, z2, l) := HQ2.out.symm.trans HQA.out
        go_upto_region 15 with fail
        obtain ⟨w11, rfl⟩ : ∃ x : World, x = wr := ⟨_, rfl⟩
        have RX := RC0
        clear RC0 bh1 s4
        obtain ⟨vb, vc, vq, u, RF⟩ : ∃ vb vc vq u, Rcp w D #[.int .i64 D.dep, .int .i64 D.nxt, .slice Ab D.bl.length cb, .slice Ac D.ca.length cc, .slice Aq D.qu.length cq] g h vb vc vq E.bl E.ca E.qu (y0, y1, y2, l2) u w11 := ⟨_, _, _, _, by rw [hE, hQ]; exact RX.out⟩
        have hed : E.dep = D.dep := by rw [hE]
        have hen : E.nxt = D.nxt := by rw [hE]
        obtain ⟨E1, g1, rfl, _⟩ := RF.ob.form
        obtain ⟨E2, g2, rfl, _⟩ := RF.oc.form
        obtain ⟨E3, g3, rfl, _⟩ := RF.oq.form
        obtain ⟨A3, d3, rfl⟩ := RF.hu.form
        have OU := hide (show OwnBy w11 (.slice A3 l2.length d3) l2 from RF.hu)
        have G11 := hide (show Box w11 g 28 #[.int .i64 E.dep, .int .i64 E.nxt, .slice E1 E.bl.length g1, .slice E2 E.ca.length g2, .slice E3 E.qu.length g3] by rw [hed, hen]; exact RF.bg)
        have H11 := hide (show Box w11 h 39 #[.int .i64 y0, .int .i64 y1, .int .i64 y2, .slice A3 l2.length d3] from RF.bh)
        have OQ := hide RF.oq
        have OB := hide RF.ob
        have OC := hide RF.oc
        have Y0 := hide RF.y
        have Z0 := hide RF.z
        have DR := hide (below_drew (brefl w11))
        have K11D := hide (btrans RF.below DR.out)
        have GY := hide (show g ≠ w.heap.size + 1 by omega)
        have HY := hide (show h ≠ w.heap.size + 1 by omega)
        have GZ := hide (show g ≠ w.heap.size + 2 by omega)
        have HZ := hide (show h ≠ w.heap.size + 2 by omega)
        have NE := hide (row_own_ge OQ.out.choose_spec.2.1 (k := w.heap.size + 2) (by omega))
        clear RF hE hQ hed hen RX
        refine wp_region_noPanic ?_
        refine wp_region_held_drew (S := (fun W => W.cell? ⟨g, 0, none⟩ = some (.int .i64 E.dep) ∧ W.cell? ⟨g, 1, none⟩ = some (.int .i64 E.nxt) ∧ W.cell? ⟨g, 2, none⟩ = some (.slice E1 E.bl.length g1) ∧ W.cell? ⟨g, 3, none⟩ = some (.slice E2 E.ca.length g2) ∧ W.cell? ⟨g, 4, none⟩ = some (.slice E3 E.qu.length g3) ∧ W.cell? ⟨h, 0, none⟩ = some (.int .i64 y0) ∧ W.cell? ⟨h, 1, none⟩ = some (.int .i64 y1) ∧ W.cell? ⟨h, 2, none⟩ = some (.int .i64 y2) ∧ W.cell? ⟨h, 3, none⟩ = some (.slice A3 l2.length d3))) (by kernel_rfl) ?_ (fun hHeld => ?_)
        · exact cells9 (G11.out.below DR.out) (H11.out.below DR.out)
        have G := hide (G11.out.below DR.out)
        have H := hide (H11.out.below DR.out)
        have Y := hide (Y0.out.below DR.out)
        have Z := hide (Z0.out.below DR.out)
        replace OB := hide (OB.out.below DR.out)
        replace OC := hide (OC.out.below DR.out)
        replace OQ := hide (OQ.out.below DR.out)
        replace OU := hide (OU.out.below DR.out)
        have KK := K11D
        clear Y0 Z0 G11 H11 DR K11D
        generalize w11.drew = wa at *
        refine wpAnyH_take (i := 0) (oi := ⟨some 63, _, _, _, _, _⟩) (v := ?_) rfl (by kernel_rfl) (by kernel_rfl) (by kernel_rfl) (fun _ _ _ h => h) (Or.inl ⟨by kernel_rfl, ?_⟩) (by assumption) ?_
        rotate_left 1
        · (intro w hSw; (try dsimp only at hSw); go_simp) <;> (with_reducible rfl)
        (try simp only [Act.put, List.setIfInBounds_toArray, List.set_cons_succ, List.set_cons_zero])
        refine wpAnyH_take (i := 1) (oi := ⟨some 64, _, _, _, _, _⟩) (v := ?_) rfl (by kernel_rfl) (by kernel_rfl) (by kernel_rfl) (fun _ _ _ h => h) (Or.inl ⟨by kernel_rfl, ?_⟩) (by assumption) ?_
        rotate_left 1
        · (intro w hSw; (try dsimp only at hSw); go_simp) <;> (with_reducible rfl)
        (try simp only [Act.put, List.setIfInBounds_toArray, List.set_cons_succ, List.set_cons_zero])
        refine wpAnyH_ready (rs := [2]) (by kernel_rfl) (by simp) ?_
        refine AllReadyH.cons (o := ⟨none, _, _, _, _, _⟩) rfl (fun K' hK => ?_) AllReadyH.nil
        obtain ⟨b0, b1, b2, b3, b4⟩ := box5_cells (W' := wa) Y.out
        have fb0 := Y.out.frozen 0
        have fb1 := Y.out.frozen 1
        have fb2 := Y.out.frozen 2
        have fb3 := Y.out.frozen 3
        have fb4 := Y.out.frozen 4
        go_simp
        have KS := hide (kp_set5 (B := w.heap.size) Y.out (Nat.le_succ _) (.int .i64 E.dep) (.int .i64 E.nxt) (.slice E1 E.bl.length g1) (.slice E2 E.ca.length g2) (.slice E3 E.qu.length g3))
        have KT := hide (KpB.set5 wa (w.heap.size + 1) (.int .i64 E.dep) (.int .i64 E.nxt) (.slice E1 E.bl.length g1) (.slice E2 E.ca.length g2) (.slice E3 E.qu.length g3))
        replace OB := hide (OB.out.kp KS.out (by decide) (by decide))
        replace OC := hide (OC.out.kp KS.out (by decide) (by decide))
        replace OQ := hide (OQ.out.kp KS.out (by decide) (by decide))
        replace OU := hide (OU.out.kp KS.out (by decide))
        replace G := hide (G.out.kb KT.out GY.out)
        replace H := hide (H.out.kb KT.out HY.out)
        replace Z := hide (Z.out.kp KS.out (by decide))
        replace Y := hide (Y.out.set5 (.int .i64 E.dep) (.int .i64 E.nxt) (.slice E1 E.bl.length g1) (.slice E2 E.ca.length g2) (.slice E3 E.qu.length g3))
        replace KK := hide (KK.out.trans KS.out.below)
        clear b0 b1 b2 b3 b4 fb0 fb1 fb2 fb3 fb4 KS KT
        generalize ((((((wa.setCell ⟨w.heap.size + 1, 0, none⟩ (.int .i64 E.dep)).setCell ⟨w.heap.size + 1, 1, none⟩ (.int .i64 E.nxt)).setCell ⟨w.heap.size + 1, 2, none⟩ (.slice E1 E.bl.length g1)).setCell ⟨w.heap.size + 1, 3, none⟩ (.slice E2 E.ca.length g2)).setCell ⟨w.heap.size + 1, 4, none⟩ (.slice E3 E.qu.length g3))) = wb at *
        refine hK.out _ _ ?_ (fun hHeld => ?_)
        · exact cells9 G.out H.out
        clear hK K'
        (try simp only [Act.put, List.setIfInBounds_toArray, List.set_cons_succ, List.set_cons_zero])
        refine wpAnyH_ready (rs := [3]) (by kernel_rfl) (by simp) ?_
        refine AllReadyH.cons (o := ⟨none, _, _, _, _, _⟩) rfl (fun K' hK => ?_) AllReadyH.nil
        obtain ⟨b0, b1, b2, b3⟩ := box4_cells Z.out
        have fb0 := Z.out.frozen 0
        have fb1 := Z.out.frozen 1
        have fb2 := Z.out.frozen 2
        have fb3 := Z.out.frozen 3
        go_simp
        have KT := hide (KpB.set4 wb (w.heap.size + 2) (.int .i64 y0) (.int .i64 y1) (.int .i64 y2) (.slice A3 l2.length d3))
        replace OB := hide (OB.out.kb KT.out Z.out (by decide) (by decide))
        replace OC := hide (OC.out.kb KT.out Z.out (by decide) (by decide))
        replace OQ := hide (OQ.out.kb KT.out Z.out (by decide) NE.out)
        replace OU := hide (OU.out.kb KT.out Z.out (by decide))
        replace G := hide (G.out.kb KT.out GZ.out)
        replace H := hide (H.out.kb KT.out HZ.out)
        replace Y := hide (Y.out.kb KT.out (by omega))
        replace Z := hide (Z.out.set4 (.int .i64 y0) (.int .i64 y1) (.int .i64 y2) (.slice A3 l2.length d3))
        replace KK := hide (show Below w.heap.size w ((((wb.setCell ⟨w.heap.size + 2, 0, none⟩ (.int .i64 y0)).setCell ⟨w.heap.size + 2, 1, none⟩ (.int .i64 y1)).setCell ⟨w.heap.size + 2, 2, none⟩ (.int .i64 y2)).setCell ⟨w.heap.size + 2, 3, none⟩ (.slice A3 l2.length d3)) from below_set4 KK.out (by omega))
        clear b0 b1 b2 b3 fb0 fb1 fb2 fb3 KT
        generalize ((((wb.setCell ⟨w.heap.size + 2, 0, none⟩ (.int .i64 y0)).setCell ⟨w.heap.size + 2, 1, none⟩ (.int .i64 y1)).setCell ⟨w.heap.size + 2, 2, none⟩ (.int .i64 y2)).setCell ⟨w.heap.size + 2, 3, none⟩ (.slice A3 l2.length d3)) = wd2 at *
        refine hK.out _ _ ?_ (fun hHeld => ?_)
        · exact cells9 G.out H.out
        clear hK K'
        (try simp only [Act.put, List.setIfInBounds_toArray, List.set_cons_succ, List.set_cons_zero])
        refine wpAnyH_take (i := 4) (oi := ⟨some 8, _, _, _, _, _⟩) (v := ?_) rfl (by kernel_rfl) (by kernel_rfl) (by kernel_rfl) (fun _ _ _ h => h) (Or.inl ⟨by kernel_rfl, ?_⟩) (by assumption) ?_
        rotate_left 1
        · (intro w hSw; (try dsimp only at hSw); go_simp) <;> (with_reducible rfl)
        (try simp only [Act.put, List.setIfInBounds_toArray, List.set_cons_succ, List.set_cons_zero])
        refine wpAnyH_done (by kernel_rfl) ?_ _
        refine NoPanic.normal ?_
        go_wp2_with fail
        exact ret_dq Try.results26 rfl rfl rfl rfl Y.out Z.out ⟨_, _, rfl, ⟨_, _, _, rfl, OB.out, OC.out, OQ.out.mono (by omega)⟩, OU.out, KK.out⟩
      | true =>
        rcases req_kind hqk with h1 | h1 | h1
        · subst h1
          have CN := hide (fun W (hb : Below w.heap.size w W) => rcontentD_any _ D z2 W (IN.out.below hb) HBIG.out)
          unfold ByR at CN
          rw [show ctD D z2 = contD D z2 by unfold ctD; rw [if_pos ⟨HK.out, hbz⟩]] at CN
          have hE : E = ⟨D.dep, D.nxt, D.bl, D.ca, D.qu.take p ++ D.qu.drop (p + 1)⟩ := by rw [HE.out]; unfold cmD carD; rw [HQA.out]; rfl
          have hQ : (y0, y1, y2, l2) = (z0, 1, z2, contD D z2) := by rw [← HQ2.out]; unfold cmQ carQ; rw [HQA.out]; rfl
          have bh2 := RC0.out.bh.cell 2
          simp at bh2
          obtain ⟨s0, s1, s2, s3, _⟩ := box5_cells (W' := wr) RC0.out.src
          go_wp2_with fail
          refine (CN.out _ RC0.out.below).mono ?_
          rintro e w6 ⟨u6, rfl, ho6, hb6⟩
          have RC6 := hide (RC0.out.on hb6)
          have HO6 := hide ho6
          obtain ⟨A6, d6, rfl⟩ := ho6.form
          have bh3 := RC6.out.bh.cell 3
          have fh3 := RC6.out.bh.frozen 3
          simp at bh3
          clear RC0 bh1 bh2 s0 s1 s2 s3 s4 ho6 hb6
          go_upto_region 18 with fail
          have RX := hide (RC6.out.setH hgw hgh HO6.out)
          generalize w6.setCell ⟨h, 3, none⟩ (.slice A6 (contD D z2).length d6) = w11 at *
          have bh1 := RX.out.bh.cell 1
          simp at bh1
          clear RC6 HO6 bh3 fh3 CN
          go_upto_region 26 with fail
          clear bh1
          obtain ⟨vb, vc, vq, u, RF⟩ : ∃ vb vc vq u, Rcp w D #[.int .i64 D.dep, .int .i64 D.nxt, .slice Ab D.bl.length cb, .slice Ac D.ca.length cc, .slice Aq D.qu.length cq] g h vb vc vq E.bl E.ca E.qu (y0, y1, y2, l2) u w11 := ⟨_, _, _, _, by rw [hE, hQ]; exact RX.out⟩
          have hed : E.dep = D.dep := by rw [hE]
          have hen : E.nxt = D.nxt := by rw [hE]
          obtain ⟨E1, g1, rfl, _⟩ := RF.ob.form
          obtain ⟨E2, g2, rfl, _⟩ := RF.oc.form
          obtain ⟨E3, g3, rfl, _⟩ := RF.oq.form
          obtain ⟨A3, d3, rfl⟩ := RF.hu.form
          have OU := hide (show OwnBy w11 (.slice A3 l2.length d3) l2 from RF.hu)
          have G11 := hide (show Box w11 g 28 #[.int .i64 E.dep, .int .i64 E.nxt, .slice E1 E.bl.length g1, .slice E2 E.ca.length g2, .slice E3 E.qu.length g3] by rw [hed, hen]; exact RF.bg)
          have H11 := hide (show Box w11 h 39 #[.int .i64 y0, .int .i64 y1, .int .i64 y2, .slice A3 l2.length d3] from RF.bh)
          have OQ := hide RF.oq
          have OB := hide RF.ob
          have OC := hide RF.oc
          have Y0 := hide RF.y
          have Z0 := hide RF.z
          have DR := hide (below_drew (brefl w11))
          have K11D := hide (btrans RF.below DR.out)
          have GY := hide (show g ≠ w.heap.size + 1 by omega)
          have HY := hide (show h ≠ w.heap.size + 1 by omega)
          have GZ := hide (show g ≠ w.heap.size + 2 by omega)
          have HZ := hide (show h ≠ w.heap.size + 2 by omega)
          have NE := hide (row_own_ge OQ.out.choose_spec.2.1 (k := w.heap.size + 2) (by omega))
          clear RF hE hQ hed hen RX
          refine wp_region_noPanic ?_
          refine wp_region_held_drew (S := (fun W => W.cell? ⟨g, 0, none⟩ = some (.int .i64 E.dep) ∧ W.cell? ⟨g, 1, none⟩ = some (.int .i64 E.nxt) ∧ W.cell? ⟨g, 2, none⟩ = some (.slice E1 E.bl.length g1) ∧ W.cell? ⟨g, 3, none⟩ = some (.slice E2 E.ca.length g2) ∧ W.cell? ⟨g, 4, none⟩ = some (.slice E3 E.qu.length g3) ∧ W.cell? ⟨h, 0, none⟩ = some (.int .i64 y0) ∧ W.cell? ⟨h, 1, none⟩ = some (.int .i64 y1) ∧ W.cell? ⟨h, 2, none⟩ = some (.int .i64 y2) ∧ W.cell? ⟨h, 3, none⟩ = some (.slice A3 l2.length d3))) (by kernel_rfl) ?_ (fun hHeld => ?_)
          · exact cells9 (G11.out.below DR.out) (H11.out.below DR.out)
          have G := hide (G11.out.below DR.out)
          have H := hide (H11.out.below DR.out)
          have Y := hide (Y0.out.below DR.out)
          have Z := hide (Z0.out.below DR.out)
          replace OB := hide (OB.out.below DR.out)
          replace OC := hide (OC.out.below DR.out)
          replace OQ := hide (OQ.out.below DR.out)
          replace OU := hide (OU.out.below DR.out)
          have KK := K11D
          clear Y0 Z0 G11 H11 DR K11D
          generalize w11.drew = wa at *
          refine wpAnyH_take (i := 0) (oi := ⟨some 111, _, _, _, _, _⟩) (v := ?_) rfl (by kernel_rfl) (by kernel_rfl) (by kernel_rfl) (fun _ _ _ h => h) (Or.inl ⟨by kernel_rfl, ?_⟩) (by assumption) ?_
          rotate_left 1
          · (intro w hSw; (try dsimp only at hSw); go_simp) <;> (with_reducible rfl)
          (try simp only [Act.put, List.setIfInBounds_toArray, List.set_cons_succ, List.set_cons_zero])
          refine wpAnyH_take (i := 1) (oi := ⟨some 112, _, _, _, _, _⟩) (v := ?_) rfl (by kernel_rfl) (by kernel_rfl) (by kernel_rfl) (fun _ _ _ h => h) (Or.inl ⟨by kernel_rfl, ?_⟩) (by assumption) ?_
          rotate_left 1
          · (intro w hSw; (try dsimp only at hSw); go_simp) <;> (with_reducible rfl)
          (try simp only [Act.put, List.setIfInBounds_toArray, List.set_cons_succ, List.set_cons_zero])
          refine wpAnyH_ready (rs := [2]) (by kernel_rfl) (by simp) ?_
          refine AllReadyH.cons (o := ⟨none, _, _, _, _, _⟩) rfl (fun K' hK => ?_) AllReadyH.nil
          obtain ⟨b0, b1, b2, b3, b4⟩ := box5_cells (W' := wa) Y.out
          have fb0 := Y.out.frozen 0
          have fb1 := Y.out.frozen 1
          have fb2 := Y.out.frozen 2
          have fb3 := Y.out.frozen 3
          have fb4 := Y.out.frozen 4
          go_simp
          have KS := hide (kp_set5 (B := w.heap.size) Y.out (Nat.le_succ _) (.int .i64 E.dep) (.int .i64 E.nxt) (.slice E1 E.bl.length g1) (.slice E2 E.ca.length g2) (.slice E3 E.qu.length g3))
          have KT := hide (KpB.set5 wa (w.heap.size + 1) (.int .i64 E.dep) (.int .i64 E.nxt) (.slice E1 E.bl.length g1) (.slice E2 E.ca.length g2) (.slice E3 E.qu.length g3))
          replace OB := hide (OB.out.kp KS.out (by decide) (by decide))
          replace OC := hide (OC.out.kp KS.out (by decide) (by decide))
          replace OQ := hide (OQ.out.kp KS.out (by decide) (by decide))
          replace OU := hide (OU.out.kp KS.out (by decide))
          replace G := hide (G.out.kb KT.out GY.out)
          replace H := hide (H.out.kb KT.out HY.out)
          replace Z := hide (Z.out.kp KS.out (by decide))
          replace Y := hide (Y.out.set5 (.int .i64 E.dep) (.int .i64 E.nxt) (.slice E1 E.bl.length g1) (.slice E2 E.ca.length g2) (.slice E3 E.qu.length g3))
          replace KK := hide (KK.out.trans KS.out.below)
          clear b0 b1 b2 b3 b4 fb0 fb1 fb2 fb3 fb4 KS KT
          generalize ((((((wa.setCell ⟨w.heap.size + 1, 0, none⟩ (.int .i64 E.dep)).setCell ⟨w.heap.size + 1, 1, none⟩ (.int .i64 E.nxt)).setCell ⟨w.heap.size + 1, 2, none⟩ (.slice E1 E.bl.length g1)).setCell ⟨w.heap.size + 1, 3, none⟩ (.slice E2 E.ca.length g2)).setCell ⟨w.heap.size + 1, 4, none⟩ (.slice E3 E.qu.length g3))) = wb at *
          refine hK.out _ _ ?_ (fun hHeld => ?_)
          · exact cells9 G.out H.out
          clear hK K'
          (try simp only [Act.put, List.setIfInBounds_toArray, List.set_cons_succ, List.set_cons_zero])
          refine wpAnyH_ready (rs := [3]) (by kernel_rfl) (by simp) ?_
          refine AllReadyH.cons (o := ⟨none, _, _, _, _, _⟩) rfl (fun K' hK => ?_) AllReadyH.nil
          obtain ⟨b0, b1, b2, b3⟩ := box4_cells Z.out
          have fb0 := Z.out.frozen 0
          have fb1 := Z.out.frozen 1
          have fb2 := Z.out.frozen 2
          have fb3 := Z.out.frozen 3
          go_simp
          have KT := hide (KpB.set4 wb (w.heap.size + 2) (.int .i64 y0) (.int .i64 y1) (.int .i64 y2) (.slice A3 l2.length d3))
          replace OB := hide (OB.out.kb KT.out Z.out (by decide) (by decide))
          replace OC := hide (OC.out.kb KT.out Z.out (by decide) (by decide))
          replace OQ := hide (OQ.out.kb KT.out Z.out (by decide) NE.out)
          replace OU := hide (OU.out.kb KT.out Z.out (by decide))
          replace G := hide (G.out.kb KT.out GZ.out)
          replace H := hide (H.out.kb KT.out HZ.out)
          replace Y := hide (Y.out.kb KT.out (by omega))
          replace Z := hide (Z.out.set4 (.int .i64 y0) (.int .i64 y1) (.int .i64 y2) (.slice A3 l2.length d3))
          replace KK := hide (show Below w.heap.size w ((((wb.setCell ⟨w.heap.size + 2, 0, none⟩ (.int .i64 y0)).setCell ⟨w.heap.size + 2, 1, none⟩ (.int .i64 y1)).setCell ⟨w.heap.size + 2, 2, none⟩ (.int .i64 y2)).setCell ⟨w.heap.size + 2, 3, none⟩ (.slice A3 l2.length d3)) from below_set4 KK.out (by omega))
          clear b0 b1 b2 b3 fb0 fb1 fb2 fb3 KT
          generalize ((((wb.setCell ⟨w.heap.size + 2, 0, none⟩ (.int .i64 y0)).setCell ⟨w.heap.size + 2, 1, none⟩ (.int .i64 y1)).setCell ⟨w.heap.size + 2, 2, none⟩ (.int .i64 y2)).setCell ⟨w.heap.size + 2, 3, none⟩ (.slice A3 l2.length d3)) = wd2 at *
          refine hK.out _ _ ?_ (fun hHeld => ?_)
          · exact cells9 G.out H.out
          clear hK K'
          (try simp only [Act.put, List.setIfInBounds_toArray, List.set_cons_succ, List.set_cons_zero])
          refine wpAnyH_take (i := 4) (oi := ⟨some 8, _, _, _, _, _⟩) (v := ?_) rfl (by kernel_rfl) (by kernel_rfl) (by kernel_rfl) (fun _ _ _ h => h) (Or.inl ⟨by kernel_rfl, ?_⟩) (by assumption) ?_
          rotate_left 1
          · (intro w hSw; (try dsimp only at hSw); go_simp) <;> (with_reducible rfl)
          (try simp only [Act.put, List.setIfInBounds_toArray, List.set_cons_succ, List.set_cons_zero])
          refine wpAnyH_done (by kernel_rfl) ?_ _
          refine NoPanic.normal ?_
          go_wp2_with fail
          exact ret_dq Try.results26 rfl rfl rfl rfl Y.out Z.out ⟨_, _, rfl, ⟨_, _, _, rfl, OB.out, OC.out, OQ.out.mono (by omega)⟩, OU.out, KK.out⟩
        · subst h1
          have hE : E = ⟨D.dep, D.nxt, D.bl, putD D.ca z2 l, D.qu.take p ++ D.qu.drop (p + 1)⟩ := by rw [HE.out]; unfold cmD carD; rw [HQA.out]; rfl
          have hQ : (y0, y1, y2, l2) = (z0, 2, z2, l) := by rw [← HQ2.out]; unfold cmQ carQ; rw [HQA.out]; rfl
          have bh2 := RC0.out.bh.cell 2
          have bh3 := RC0.out.bh.cell 3
          have bg3 := RC0.out.bg.cell 3
          simp at bh2 bh3 bg3
          have PT := hide (rput_any w.heap.size _ D.ca z2 _ l wr RC0.out.oc RC0.out.hu.is (by show l.length ≤ 1000; omega) (asc_ok HK.out) SM.out.ca)
          go_wp2_with fail
          refine PT.out.mono ?_
          rintro e w6 ⟨v6, rfl, ho6, hb6⟩
          have RC6 := hide (RC0.out.on hb6)
          have HO6 := hide (ho6.mono RC0.out.below.size)
          obtain ⟨A6, d6, rfl, _⟩ := ho6.form
          have bg3' := RC6.out.bg.cell 3
          have fg3 := RC6.out.bg.frozen 3
          simp at bg3'
          clear RC0 bh1 bh2 bh3 bg3 s4 ho6 hb6
          go_upto_region 20 with fail
          have RX := hide (RC6.out.setC hgw hgh HO6.out)
          generalize w6.setCell ⟨g, 3, none⟩ (.slice A6 (putD D.ca z2 l).length d6) = w11 at *
          have bh1 := RX.out.bh.cell 1
          simp at bh1
          clear RC6 HO6 bg3' fg3 PT
          go_upto_region 26 with fail
          clear bh1
          obtain ⟨vb, vc, vq, u, RF⟩ : ∃ vb vc vq u, Rcp w D #[.int .i64 D.dep, .int .i64 D.nxt, .slice Ab D.bl.length cb, .slice Ac D.ca.length cc, .slice Aq D.qu.length cq] g h vb vc vq E.bl E.ca E.qu (y0, y1, y2, l2) u w11 := ⟨_, _, _, _, by rw [hE, hQ]; exact RX.out⟩
          have hed : E.dep = D.dep := by rw [hE]
          have hen : E.nxt = D.nxt := by rw [hE]
          obtain ⟨E1, g1, rfl, _⟩ := RF.ob.form
          obtain ⟨E2, g2, rfl, _⟩ := RF.oc.form
          obtain ⟨E3, g3, rfl, _⟩ := RF.oq.form
          obtain ⟨A3, d3, rfl⟩ := RF.hu.form
          have OU := hide (show OwnBy w11 (.slice A3 l2.length d3) l2 from RF.hu)
          have G11 := hide (show Box w11 g 28 #[.int .i64 E.dep, .int .i64 E.nxt, .slice E1 E.bl.length g1, .slice E2 E.ca.length g2, .slice E3 E.qu.length g3] by rw [hed, hen]; exact RF.bg)
          have H11 := hide (show Box w11 h 39 #[.int .i64 y0, .int .i64 y1, .int .i64 y2, .slice A3 l2.length d3] from RF.bh)
          have OQ := hide RF.oq
          have OB := hide RF.ob
          have OC := hide RF.oc
          have Y0 := hide RF.y
          have Z0 := hide RF.z
          have DR := hide (below_drew (brefl w11))
          have K11D := hide (btrans RF.below DR.out)
          have GY := hide (show g ≠ w.heap.size + 1 by omega)
          have HY := hide (show h ≠ w.heap.size + 1 by omega)
          have GZ := hide (show g ≠ w.heap.size + 2 by omega)
          have HZ := hide (show h ≠ w.heap.size + 2 by omega)
          have NE := hide (row_own_ge OQ.out.choose_spec.2.1 (k := w.heap.size + 2) (by omega))
          clear RF hE hQ hed hen RX
          refine wp_region_noPanic ?_
          refine wp_region_held_drew (S := (fun W => W.cell? ⟨g, 0, none⟩ = some (.int .i64 E.dep) ∧ W.cell? ⟨g, 1, none⟩ = some (.int .i64 E.nxt) ∧ W.cell? ⟨g, 2, none⟩ = some (.slice E1 E.bl.length g1) ∧ W.cell? ⟨g, 3, none⟩ = some (.slice E2 E.ca.length g2) ∧ W.cell? ⟨g, 4, none⟩ = some (.slice E3 E.qu.length g3) ∧ W.cell? ⟨h, 0, none⟩ = some (.int .i64 y0) ∧ W.cell? ⟨h, 1, none⟩ = some (.int .i64 y1) ∧ W.cell? ⟨h, 2, none⟩ = some (.int .i64 y2) ∧ W.cell? ⟨h, 3, none⟩ = some (.slice A3 l2.length d3))) (by kernel_rfl) ?_ (fun hHeld => ?_)
          · exact cells9 (G11.out.below DR.out) (H11.out.below DR.out)
          have G := hide (G11.out.below DR.out)
          have H := hide (H11.out.below DR.out)
          have Y := hide (Y0.out.below DR.out)
          have Z := hide (Z0.out.below DR.out)
          replace OB := hide (OB.out.below DR.out)
          replace OC := hide (OC.out.below DR.out)
          replace OQ := hide (OQ.out.below DR.out)
          replace OU := hide (OU.out.below DR.out)
          have KK := K11D
          clear Y0 Z0 G11 H11 DR K11D
          generalize w11.drew = wa at *
          refine wpAnyH_take (i := 0) (oi := ⟨some 111, _, _, _, _, _⟩) (v := ?_) rfl (by kernel_rfl) (by kernel_rfl) (by kernel_rfl) (fun _ _ _ h => h) (Or.inl ⟨by kernel_rfl, ?_⟩) (by assumption) ?_
          rotate_left 1
          · (intro w hSw; (try dsimp only at hSw); go_simp) <;> (with_reducible rfl)
          (try simp only [Act.put, List.setIfInBounds_toArray, List.set_cons_succ, List.set_cons_zero])
          refine wpAnyH_take (i := 1) (oi := ⟨some 112, _, _, _, _, _⟩) (v := ?_) rfl (by kernel_rfl) (by kernel_rfl) (by kernel_rfl) (fun _ _ _ h => h) (Or.inl ⟨by kernel_rfl, ?_⟩) (by assumption) ?_
          rotate_left 1
          · (intro w hSw; (try dsimp only at hSw); go_simp) <;> (with_reducible rfl)
          (try simp only [Act.put, List.setIfInBounds_toArray, List.set_cons_succ, List.set_cons_zero])
          refine wpAnyH_ready (rs := [2]) (by kernel_rfl) (by simp) ?_
          refine AllReadyH.cons (o := ⟨none, _, _, _, _, _⟩) rfl (fun K' hK => ?_) AllReadyH.nil
          obtain ⟨b0, b1, b2, b3, b4⟩ := box5_cells (W' := wa) Y.out
          have fb0 := Y.out.frozen 0
          have fb1 := Y.out.frozen 1
          have fb2 := Y.out.frozen 2
          have fb3 := Y.out.frozen 3
          have fb4 := Y.out.frozen 4
          go_simp
          have KS := hide (kp_set5 (B := w.heap.size) Y.out (Nat.le_succ _) (.int .i64 E.dep) (.int .i64 E.nxt) (.slice E1 E.bl.length g1) (.slice E2 E.ca.length g2) (.slice E3 E.qu.length g3))
          have KT := hide (KpB.set5 wa (w.heap.size + 1) (.int .i64 E.dep) (.int .i64 E.nxt) (.slice E1 E.bl.length g1) (.slice E2 E.ca.length g2) (.slice E3 E.qu.length g3))
          replace OB := hide (OB.out.kp KS.out (by decide) (by decide))
          replace OC := hide (OC.out.kp KS.out (by decide) (by decide))
          replace OQ := hide (OQ.out.kp KS.out (by decide) (by decide))
          replace OU := hide (OU.out.kp KS.out (by decide))
          replace G := hide (G.out.kb KT.out GY.out)
          replace H := hide (H.out.kb KT.out HY.out)
          replace Z := hide (Z.out.kp KS.out (by decide))
          replace Y := hide (Y.out.set5 (.int .i64 E.dep) (.int .i64 E.nxt) (.slice E1 E.bl.length g1) (.slice E2 E.ca.length g2) (.slice E3 E.qu.length g3))
          replace KK := hide (KK.out.trans KS.out.below)
          clear b0 b1 b2 b3 b4 fb0 fb1 fb2 fb3 fb4 KS KT
          generalize ((((((wa.setCell ⟨w.heap.size + 1, 0, none⟩ (.int .i64 E.dep)).setCell ⟨w.heap.size + 1, 1, none⟩ (.int .i64 E.nxt)).setCell ⟨w.heap.size + 1, 2, none⟩ (.slice E1 E.bl.length g1)).setCell ⟨w.heap.size + 1, 3, none⟩ (.slice E2 E.ca.length g2)).setCell ⟨w.heap.size + 1, 4, none⟩ (.slice E3 E.qu.length g3))) = wb at *
          refine hK.out _ _ ?_ (fun hHeld => ?_)
          · exact cells9 G.out H.out
          clear hK K'
          (try simp only [Act.put, List.setIfInBounds_toArray, List.set_cons_succ, List.set_cons_zero])
          refine wpAnyH_ready (rs := [3]) (by kernel_rfl) (by simp) ?_
          refine AllReadyH.cons (o := ⟨none, _, _, _, _, _⟩) rfl (fun K' hK => ?_) AllReadyH.nil
          obtain ⟨b0, b1, b2, b3⟩ := box4_cells Z.out
          have fb0 := Z.out.frozen 0
          have fb1 := Z.out.frozen 1
          have fb2 := Z.out.frozen 2
          have fb3 := Z.out.frozen 3
          go_simp
          have KT := hide (KpB.set4 wb (w.heap.size + 2) (.int .i64 y0) (.int .i64 y1) (.int .i64 y2) (.slice A3 l2.length d3))
          replace OB := hide (OB.out.kb KT.out Z.out (by decide) (by decide))
          replace OC := hide (OC.out.kb KT.out Z.out (by decide) (by decide))
          replace OQ := hide (OQ.out.kb KT.out Z.out (by decide) NE.out)
          replace OU := hide (OU.out.kb KT.out Z.out (by decide))
          replace G := hide (G.out.kb KT.out GZ.out)
          replace H := hide (H.out.kb KT.out HZ.out)
          replace Y := hide (Y.out.kb KT.out (by omega))
          replace Z := hide (Z.out.set4 (.int .i64 y0) (.int .i64 y1) (.int .i64 y2) (.slice A3 l2.length d3))
          replace KK := hide (show Below w.heap.size w ((((wb.setCell ⟨w.heap.size + 2, 0, none⟩ (.int .i64 y0)).setCell ⟨w.heap.size + 2, 1, none⟩ (.int .i64 y1)).setCell ⟨w.heap.size + 2, 2, none⟩ (.int .i64 y2)).setCell ⟨w.heap.size + 2, 3, none⟩ (.slice A3 l2.length d3)) from below_set4 KK.out (by omega))
          clear b0 b1 b2 b3 fb0 fb1 fb2 fb3 KT
          generalize ((((wb.setCell ⟨w.heap.size + 2, 0, none⟩ (.int .i64 y0)).setCell ⟨w.heap.size + 2, 1, none⟩ (.int .i64 y1)).setCell ⟨w.heap.size + 2, 2, none⟩ (.int .i64 y2)).setCell ⟨w.heap.size + 2, 3, none⟩ (.slice A3 l2.length d3)) = wd2 at *
          refine hK.out _ _ ?_ (fun hHeld => ?_)
          · exact cells9 G.out H.out
          clear hK K'
          (try simp only [Act.put, List.setIfInBounds_toArray, List.set_cons_succ, List.set_cons_zero])
          refine wpAnyH_take (i := 4) (oi := ⟨some 8, _, _, _, _, _⟩) (v := ?_) rfl (by kernel_rfl) (by kernel_rfl) (by kernel_rfl) (fun _ _ _ h => h) (Or.inl ⟨by kernel_rfl, ?_⟩) (by assumption) ?_
          rotate_left 1
          · (intro w hSw; (try dsimp only at hSw); go_simp) <;> (with_reducible rfl)
          (try simp only [Act.put, List.setIfInBounds_toArray, List.set_cons_succ, List.set_cons_zero])
          refine wpAnyH_done (by kernel_rfl) ?_ _
          refine NoPanic.normal ?_
          go_wp2_with fail
          exact ret_dq Try.results26 rfl rfl rfl rfl Y.out Z.out ⟨_, _, rfl, ⟨_, _, _, rfl, OB.out, OC.out, OQ.out.mono (by omega)⟩, OU.out, KK.out⟩
        · subst h1
          have hE : E = ⟨D.dep, D.nxt, flK D.ca D.bl D.ca.length, [], D.qu.take p ++ D.qu.drop (p + 1)⟩ := by rw [HE.out]; unfold cmD carD; rw [HQA.out]; rfl
          have hQ : (y0, y1, y2, l2) = (z0, 3, z2, l) := by rw [← HQ2.out]; unfold cmQ carQ; rw [HQA.out]; rfl
          have NEb : D.bl.length ≠ 0 := by have := (nwE_ok (chk_zero HK.out).2.1).1; omega
          obtain ⟨gb, rfl⟩ : ∃ gb, E1 = some ⟨gb, 0, none⟩ := by
            obtain ⟨R, hR, hr, _⟩ := RC0.out.ob
            obtain ⟨g, e, _⟩ := row_cell hr NEb
            exact ⟨g, e⟩
          have hlca := SM.out.ca
          have KO := hide (fun k (h : k < D.ca.length) => keys_ok HK.out k h)
          have LB1 := hide (fun k (hk : k < D.ca.length) => SM.out.cb _ (cAt_mem hk))
          go_upto_region 22 with fail
          clear bh1 s4
          go_loopw [13] (fun i wr => ∃ k : Nat, k ≤ D.ca.length ∧ i = .int .i64 k ∧ Hid (Rcp w D #[.int .i64 D.dep, .int .i64 D.nxt, .slice Ab D.bl.length cb, .slice Ac D.ca.length cc, .slice Aq D.qu.length cq] g h (.slice (some ⟨gb, 0, none⟩) D.bl.length g1) (.slice E2 D.ca.length g2) (.slice Aq2 (D.qu.take p ++ D.qu.drop (p + 1)).length cq2) (flK D.ca D.bl k) D.ca (D.qu.take p ++ D.qu.drop (p + 1)) (z0, 3, z2, l) (.slice A1 l.length d1) wr)) (fun i _ => D.ca.length - (intOf i).toNat)
          case atStart => exact ⟨0, Nat.zero_le _, rfl, RC0⟩
          case round =>
            clear RC0
            obtain ⟨k, hk, rfl, RC⟩ := hrel
            have s3 := RC.out.bg.cell 3
            simp at s3
            by_cases hlt : k < D.ca.length
            · have hlt1 : (k : Int) < (D.ca.length : Int) := by omega
              have hlt2 : ¬ (D.ca.length : Int) ≤ (k : Int) := by omega
              have hk0 : (0 : Int) ≤ (k : Int) := by omega
              obtain ⟨gc, u6, cur, rfl, hgc, c0, c1, hu6⟩ := RC.out.oc.cells_at hlt
              have hz := KO.out k hlt
              have hll := LB1.out k hlt
              obtain ⟨⟨z, l6⟩, hr⟩ : ∃ r, r = cAt D.ca k := ⟨_, rfl⟩
              rw [← hr] at c0 hu6 hz hll
              simp only at c0 hu6 hz hll
              obtain ⟨n, rfl⟩ := Int.eq_ofNat_of_zero_le hz.1
              have hn : n < D.bl.length := by have := hz.2.1; omega
              have FK := hide (show flK D.ca D.bl (k + 1) = (flK D.ca D.bl k).set n l6 by
                show (flK D.ca D.bl k).set (cAt D.ca k).1.toNat (cAt D.ca k).2 = _
                rw [← hr]; rfl)
              have LEN := hide (flK_len D.ca D.bl k)
              obtain ⟨A6, d6, rfl⟩ := hu6.form
              have hn0 : (0 : Int) ≤ (n : Int) := by omega
              have hn1 : (n : Int) < (D.bl.length : Int) := by omega
              have k0 := (hgc.cell (k * 2)).symm.trans c0
              have k1 := (hgc.cell (k * 2 + 1)).symm.trans c1
              have CE := hide (fun (W : World) (hX : Box W gc 64 cur) (hG : Box W g 28 #[.int .i64 D.dep, .int .i64 D.nxt, .slice (some ⟨gb, 0, none⟩) D.bl.length g1, .slice (some ⟨gc, 0, none⟩) D.ca.length g2, .slice Aq2 (D.qu.take p ++ D.qu.drop (p + 1)).length cq2]) => (⟨hG.cell 2, hG.cell 3, (hX.cell _).trans k0, (hX.cell _).trans k1⟩ : (fun W => W.cell? ⟨g, 2, none⟩ = some (.slice (some ⟨gb, 0, none⟩) D.bl.length g1) ∧ W.cell? ⟨g, 3, none⟩ = some (.slice (some ⟨gc, 0, none⟩) D.ca.length g2) ∧ W.cell? ⟨gc, k * 2, none⟩ = some (.int .i64 n) ∧ W.cell? ⟨gc, k * 2 + 1, none⟩ = some (.slice A6 l6.length d6)) W))
              have hv2 : IsBs wr.drew (.slice A6 l6.length d6) l6 := hu6.is.below (below_drew (brefl wr))
              have CB := hide (rbytes_any _ l6 wr.drew hv2 hll)
              unfold ByR at CB
              have GC := hide (show Box wr.drew gc 64 cur from hgc.below (below_drew (brefl wr)))
              have RD := hide (RC.out.on (below_drew (brefl wr)))
              clear hr hz hv2 hll c0 c1 hu6 k0 k1
              go_upto_region 24 with fail
              clear s3
              refine wp_region_noPanic ?_
              refine wp_region_held_drew (S := (fun W => W.cell? ⟨g, 2, none⟩ = some (.slice (some ⟨gb, 0, none⟩) D.bl.length g1) ∧ W.cell? ⟨g, 3, none⟩ = some (.slice (some ⟨gc, 0, none⟩) D.ca.length g2) ∧ W.cell? ⟨gc, k * 2, none⟩ = some (.int .i64 n) ∧ W.cell? ⟨gc, k * 2 + 1, none⟩ = some (.slice A6 l6.length d6))) (by kernel_rfl) ?_ (fun hHeld => ?_)
              · exact CE.out _ GC.out RD.out.bg
              refine wpAnyH_take (i := 0) (oi := ⟨some 94, _, _, _, _, _⟩) (v := ?_) rfl (by kernel_rfl) (by kernel_rfl) (by kernel_rfl) (fun _ _ _ h => h) (Or.inl ⟨by kernel_rfl, ?_⟩) (by assumption) ?_
              rotate_left 1
              · (intro w hSw; (try dsimp only at hSw); go_simp) <;> (with_reducible rfl)
              (try simp only [Act.put, List.setIfInBounds_toArray, List.set_cons_succ, List.set_cons_zero])
              refine wpAnyH_take (i := 1) (oi := ⟨some 95, _, _, _, _, _⟩) (v := ?_) rfl (by kernel_rfl) (by kernel_rfl) (by kernel_rfl) (fun _ _ _ h => h) (Or.inl ⟨by kernel_rfl, ?_⟩) (by assumption) ?_
              rotate_left 1
              · (intro w hSw; (try dsimp only at hSw); go_simp) <;> (with_reducible rfl)
              (try simp only [Act.put, List.setIfInBounds_toArray, List.set_cons_succ, List.set_cons_zero])
              refine wpAnyH_take (i := 2) (oi := ⟨some 96, _, _, _, _, _⟩) (v := ?_) rfl (by kernel_rfl) (by kernel_rfl) (by kernel_rfl) (fun _ _ _ h => h) (Or.inl ⟨by kernel_rfl, ?_⟩) (by assumption) ?_
              rotate_left 1
              · (intro w hSw; (try dsimp only at hSw); go_simp) <;> (with_reducible rfl)
              (try simp only [Act.put, List.setIfInBounds_toArray, List.set_cons_succ, List.set_cons_zero])
              refine wpAnyH_take (i := 3) (oi := ⟨some 97, _, _, _, _, _⟩) (v := ?_) rfl (by kernel_rfl) (by kernel_rfl) (by kernel_rfl) (fun _ _ _ h => h) (Or.inl ⟨by kernel_rfl, ?_⟩) (by assumption) ?_
              rotate_left 1
              · (intro w hSw; (try dsimp only at hSw); go_simp) <;> (with_reducible rfl)
              (try simp only [Act.put, List.setIfInBounds_toArray, List.set_cons_succ, List.set_cons_zero])
              refine wpAnyH_take (i := 4) (oi := ⟨some 98, _, _, _, _, _⟩) (v := ?_) rfl (by kernel_rfl) (by kernel_rfl) (by kernel_rfl) (fun _ _ _ h => h) (Or.inl ⟨by kernel_rfl, ?_⟩) (by assumption) ?_
              rotate_left 1
              · (intro w hSw; (try dsimp only at hSw); go_simp) <;> (with_reducible rfl)
              (try simp only [Act.put, List.setIfInBounds_toArray, List.set_cons_succ, List.set_cons_zero])
              refine wpAnyH_take (i := 5) (oi := ⟨some 99, _, _, _, _, _⟩) (v := ?_) rfl (by kernel_rfl) (by kernel_rfl) (by kernel_rfl) (fun _ _ _ h => h) (Or.inl ⟨by kernel_rfl, ?_⟩) (by assumption) ?_
              rotate_left 1
              · (intro w hSw; (try dsimp only at hSw); go_simp) <;> (with_reducible rfl)
              (try simp only [Act.put, List.setIfInBounds_toArray, List.set_cons_succ, List.set_cons_zero])
              refine wpAnyH_take (i := 6) (oi := ⟨some 100, _, _, _, _, _⟩) (v := ?_) rfl (by kernel_rfl) (by kernel_rfl) (by kernel_rfl) (fun _ _ _ h => h) (Or.inl ⟨by kernel_rfl, ?_⟩) (by assumption) ?_
              rotate_left 1
              · (intro w hSw; (try dsimp only at hSw); go_simp) <;> (with_reducible rfl)
              (try simp only [Act.put, List.setIfInBounds_toArray, List.set_cons_succ, List.set_cons_zero])
              refine wpAnyH_take (i := 7) (oi := ⟨some 101, _, _, _, _, _⟩) (v := ?_) rfl (by kernel_rfl) (by kernel_rfl) (by kernel_rfl) (fun _ _ _ h => h) (Or.inl ⟨by kernel_rfl, ?_⟩) (by assumption) ?_
              rotate_left 1
              · (intro w hSw; (try dsimp only at hSw); go_simp) <;> (with_reducible rfl)
              (try simp only [Act.put, List.setIfInBounds_toArray, List.set_cons_succ, List.set_cons_zero])
              refine wpAnyH_take (i := 8) (oi := ⟨some 102, _, _, _, _, _⟩) (v := ?_) rfl (by kernel_rfl) (by kernel_rfl) (by kernel_rfl) (fun _ _ _ h => h) (Or.inl ⟨by kernel_rfl, ?_⟩) (by assumption) ?_
              rotate_left 1
              · (intro w hSw; (try dsimp only at hSw); go_simp) <;> (with_reducible rfl)
              (try simp only [Act.put, List.setIfInBounds_toArray, List.set_cons_succ, List.set_cons_zero])
              refine wpAnyH_take (i := 9) (oi := ⟨some 103, _, _, _, _, _⟩) (v := ?_) rfl (by kernel_rfl) (by kernel_rfl) (by kernel_rfl) (fun _ _ _ h => h) (Or.inl ⟨by kernel_rfl, ?_⟩) (by assumption) ?_
              rotate_left 1
              · (intro w hSw; (try dsimp only at hSw); go_simp) <;> (with_reducible rfl)
              (try simp only [Act.put, List.setIfInBounds_toArray, List.set_cons_succ, List.set_cons_zero])
              refine wpAnyH_take (i := 10) (oi := ⟨some 104, _, _, _, _, _⟩) (v := ?_) rfl (by kernel_rfl) (by kernel_rfl) (by kernel_rfl) (fun _ _ _ h => h) (Or.inl ⟨by kernel_rfl, ?_⟩) (by assumption) ?_
              rotate_left 1
              · (intro w hSw; (try dsimp only at hSw); go_simp) <;> (with_reducible rfl)
              (try simp only [Act.put, List.setIfInBounds_toArray, List.set_cons_succ, List.set_cons_zero])
              refine wpAnyH_take (i := 11) (oi := ⟨some 105, _, _, _, _, _⟩) (v := ?_) rfl (by kernel_rfl) (by kernel_rfl) (by kernel_rfl) (fun _ _ _ h => h) (Or.inl ⟨by kernel_rfl, ?_⟩) (by assumption) ?_
              rotate_left 1
              · (intro w hSw; (try dsimp only at hSw); go_simp) <;> (with_reducible rfl)
              (try simp only [Act.put, List.setIfInBounds_toArray, List.set_cons_succ, List.set_cons_zero])
              refine wpAnyH_take (i := 12) (oi := ⟨some 106, _, _, _, _, _⟩) (v := ?_) rfl (by kernel_rfl) (by kernel_rfl) (by kernel_rfl) (fun _ _ _ h => h) (Or.inl ⟨by kernel_rfl, ?_⟩) (by assumption) ?_
              rotate_left 1
              · (intro w hSw; (try dsimp only at hSw); go_simp) <;> (with_reducible rfl)
              (try simp only [Act.put, List.setIfInBounds_toArray, List.set_cons_succ, List.set_cons_zero])
              refine wpAnyH_take (i := 13) (oi := ⟨some 107, _, _, _, _, _⟩) (v := ?_) rfl (by kernel_rfl) (by kernel_rfl) (by kernel_rfl) (fun _ _ _ h => h) (Or.inl ⟨by kernel_rfl, ?_⟩) (by assumption) ?_
              rotate_left 1
              · (intro w hSw; (try dsimp only at hSw); go_simp) <;> (with_reducible rfl)
              (try simp only [Act.put, List.setIfInBounds_toArray, List.set_cons_succ, List.set_cons_zero])
              refine wpAnyH_ready (rs := [14]) (by kernel_rfl) (by simp) ?_
              refine AllReadyH.cons (o := _) rfl (fun K' hK => ?_) AllReadyH.nil
              go_simp
              refine CB.out.mono ?_
              rintro e w3 ⟨v3, rfl, hob, hb3⟩
              obtain ⟨A3, d3, rfl⟩ := hob.form
              have HO := hide hob
              have R3 := hide (RD.out.on hb3)
              have GC3 := hide (GC.out.below hb3)
              clear hob hb3
              obtain ⟨gb', cb', hvb, ⟨y, hy⟩, hfr, hkp35, hset⟩ := R3.out.setB (by rw [LEN.out]; exact hn) HO.out
              have SET := hide hset
              have GC4 := hide (GC3.out.kp hkp35 (by decide))
              injection hvb with hv1 hv2 hv3
              injection hv1 with hv1
              injection hv1 with hv1
              subst hv1
              clear hset hkp35 hv2 hv3
              refine hK.out _ _ ?_ (fun hHeld => ?_)
              · exact CE.out _ GC3.out R3.out.bg
              clear hK K'
              (try simp only [Act.put, List.setIfInBounds_toArray, List.set_cons_succ, List.set_cons_zero])
              refine wpAnyH_take (i := 15) (oi := ⟨some 109, _, _, _, _, _⟩) (v := ?_) rfl (by kernel_rfl) (by kernel_rfl) (by kernel_rfl) (fun _ _ _ h => h) (Or.inl ⟨by kernel_rfl, ?_⟩) (by assumption) ?_
              rotate_left 1
              · (intro w hSw; (try dsimp only at hSw); go_simp) <;> (with_reducible rfl)
              (try simp only [Act.put, List.setIfInBounds_toArray, List.set_cons_succ, List.set_cons_zero])
              refine wpAnyH_ready (rs := [16]) (by kernel_rfl) (by simp) ?_
              refine AllReadyH.cons (o := _) rfl (fun K' hK => ?_) AllReadyH.nil
              go_simp
              refine hK.out _ _ ?_ (fun hHeld => ?_)
              · exact CE.out _ GC4.out SET.out.bg
              clear hK K'
              (try simp only [Act.put, List.setIfInBounds_toArray, List.set_cons_succ, List.set_cons_zero])
              refine wpAnyH_done (by kernel_rfl) ?_ _
              refine NoPanic.normal ?_
              go_wp2
              go_roundw
              case rel => exact ⟨k + 1, by omega, by go_num, hide (by rw [FK.out]; exact SET.out)⟩
              case measure => simp [intOf]; omega
            · obtain rfl : k = D.ca.length := by omega
              have fg3 := RC.out.bg.frozen 3
              go_upto_region 26 with fail
              have RX := hide (RC.out.setC hgw hgh (v := .slice none 0 0) (OwnC.nil _ _))
              generalize wr.setCell ⟨g, 3, none⟩ (.slice none 0 0) = w11 at *
              clear RC fg3 s3
              obtain ⟨vb, vc, vq, u, RF⟩ : ∃ vb vc vq u, Rcp w D #[.int .i64 D.dep, .int .i64 D.nxt, .slice Ab D.bl.length cb, .slice Ac D.ca.length cc, .slice Aq D.qu.length cq] g h vb vc vq E.bl E.ca E.qu (y0, y1, y2, l2) u w11 := ⟨_, _, _, _, by rw [hE, hQ]; exact RX.out⟩
              have hed : E.dep = D.dep := by rw [hE]
              have hen : E.nxt = D.nxt := by rw [hE]
              obtain ⟨E1, g1, rfl, _⟩ := RF.ob.form
              obtain ⟨E2, g2, rfl, _⟩ := RF.oc.form
              obtain ⟨E3, g3, rfl, _⟩ := RF.oq.form
              obtain ⟨A3, d3, rfl⟩ := RF.hu.form
              have OU := hide (show OwnBy w11 (.slice A3 l2.length d3) l2 from RF.hu)
              have G11 := hide (show Box w11 g 28 #[.int .i64 E.dep, .int .i64 E.nxt, .slice E1 E.bl.length g1, .slice E2 E.ca.length g2, .slice E3 E.qu.length g3] by rw [hed, hen]; exact RF.bg)
              have H11 := hide (show Box w11 h 39 #[.int .i64 y0, .int .i64 y1, .int .i64 y2, .slice A3 l2.length d3] from RF.bh)
              have OQ := hide RF.oq
              have OB := hide RF.ob
              have OC := hide RF.oc
              have Y0 := hide RF.y
              have Z0 := hide RF.z
              have DR := hide (below_drew (brefl w11))
              have K11D := hide (btrans RF.below DR.out)
              have GY := hide (show g ≠ w.heap.size + 1 by omega)
              have HY := hide (show h ≠ w.heap.size + 1 by omega)
              have GZ := hide (show g ≠ w.heap.size + 2 by omega)
              have HZ := hide (show h ≠ w.heap.size + 2 by omega)
              have NE := hide (row_own_ge OQ.out.choose_spec.2.1 (k := w.heap.size + 2) (by omega))
              clear RF hE hQ hed hen RX
              refine wp_region_noPanic ?_
              refine wp_region_held_drew (S := (fun W => W.cell? ⟨g, 0, none⟩ = some (.int .i64 E.dep) ∧ W.cell? ⟨g, 1, none⟩ = some (.int .i64 E.nxt) ∧ W.cell? ⟨g, 2, none⟩ = some (.slice E1 E.bl.length g1) ∧ W.cell? ⟨g, 3, none⟩ = some (.slice E2 E.ca.length g2) ∧ W.cell? ⟨g, 4, none⟩ = some (.slice E3 E.qu.length g3) ∧ W.cell? ⟨h, 0, none⟩ = some (.int .i64 y0) ∧ W.cell? ⟨h, 1, none⟩ = some (.int .i64 y1) ∧ W.cell? ⟨h, 2, none⟩ = some (.int .i64 y2) ∧ W.cell? ⟨h, 3, none⟩ = some (.slice A3 l2.length d3))) (by kernel_rfl) ?_ (fun hHeld => ?_)
              · exact cells9 (G11.out.below DR.out) (H11.out.below DR.out)
              have G := hide (G11.out.below DR.out)
              have H := hide (H11.out.below DR.out)
              have Y := hide (Y0.out.below DR.out)
              have Z := hide (Z0.out.below DR.out)
              replace OB := hide (OB.out.below DR.out)
              replace OC := hide (OC.out.below DR.out)
              replace OQ := hide (OQ.out.below DR.out)
              replace OU := hide (OU.out.below DR.out)
              have KK := K11D
              clear Y0 Z0 G11 H11 DR K11D
              generalize w11.drew = wa at *
              refine wpAnyH_take (i := 0) (oi := ⟨some 111, _, _, _, _, _⟩) (v := ?_) rfl (by kernel_rfl) (by kernel_rfl) (by kernel_rfl) (fun _ _ _ h => h) (Or.inl ⟨by kernel_rfl, ?_⟩) (by assumption) ?_
              rotate_left 1
              · (intro w hSw; (try dsimp only at hSw); go_simp) <;> (with_reducible rfl)
              (try simp only [Act.put, List.setIfInBounds_toArray, List.set_cons_succ, List.set_cons_zero])
              refine wpAnyH_take (i := 1) (oi := ⟨some 112, _, _, _, _, _⟩) (v := ?_) rfl (by kernel_rfl) (by kernel_rfl) (by kernel_rfl) (fun _ _ _ h => h) (Or.inl ⟨by kernel_rfl, ?_⟩) (by assumption) ?_
              rotate_left 1
              · (intro w hSw; (try dsimp only at hSw); go_simp) <;> (with_reducible rfl)
              (try simp only [Act.put, List.setIfInBounds_toArray, List.set_cons_succ, List.set_cons_zero])
              refine wpAnyH_ready (rs := [2]) (by kernel_rfl) (by simp) ?_
              refine AllReadyH.cons (o := ⟨none, _, _, _, _, _⟩) rfl (fun K' hK => ?_) AllReadyH.nil
              obtain ⟨b0, b1, b2, b3, b4⟩ := box5_cells (W' := wa) Y.out
              have fb0 := Y.out.frozen 0
              have fb1 := Y.out.frozen 1
              have fb2 := Y.out.frozen 2
              have fb3 := Y.out.frozen 3
              have fb4 := Y.out.frozen 4
              go_simp
              have KS := hide (kp_set5 (B := w.heap.size) Y.out (Nat.le_succ _) (.int .i64 E.dep) (.int .i64 E.nxt) (.slice E1 E.bl.length g1) (.slice E2 E.ca.length g2) (.slice E3 E.qu.length g3))
              have KT := hide (KpB.set5 wa (w.heap.size + 1) (.int .i64 E.dep) (.int .i64 E.nxt) (.slice E1 E.bl.length g1) (.slice E2 E.ca.length g2) (.slice E3 E.qu.length g3))
              replace OB := hide (OB.out.kp KS.out (by decide) (by decide))
              replace OC := hide (OC.out.kp KS.out (by decide) (by decide))
              replace OQ := hide (OQ.out.kp KS.out (by decide) (by decide))
              replace OU := hide (OU.out.kp KS.out (by decide))
              replace G := hide (G.out.kb KT.out GY.out)
              replace H := hide (H.out.kb KT.out HY.out)
              replace Z := hide (Z.out.kp KS.out (by decide))
              replace Y := hide (Y.out.set5 (.int .i64 E.dep) (.int .i64 E.nxt) (.slice E1 E.bl.length g1) (.slice E2 E.ca.length g2) (.slice E3 E.qu.length g3))
              replace KK := hide (KK.out.trans KS.out.below)
              clear b0 b1 b2 b3 b4 fb0 fb1 fb2 fb3 fb4 KS KT
              generalize ((((((wa.setCell ⟨w.heap.size + 1, 0, none⟩ (.int .i64 E.dep)).setCell ⟨w.heap.size + 1, 1, none⟩ (.int .i64 E.nxt)).setCell ⟨w.heap.size + 1, 2, none⟩ (.slice E1 E.bl.length g1)).setCell ⟨w.heap.size + 1, 3, none⟩ (.slice E2 E.ca.length g2)).setCell ⟨w.heap.size + 1, 4, none⟩ (.slice E3 E.qu.length g3))) = wb at *
              refine hK.out _ _ ?_ (fun hHeld => ?_)
              · exact cells9 G.out H.out
              clear hK K'
              (try simp only [Act.put, List.setIfInBounds_toArray, List.set_cons_succ, List.set_cons_zero])
              refine wpAnyH_ready (rs := [3]) (by kernel_rfl) (by simp) ?_
              refine AllReadyH.cons (o := ⟨none, _, _, _, _, _⟩) rfl (fun K' hK => ?_) AllReadyH.nil
              obtain ⟨b0, b1, b2, b3⟩ := box4_cells Z.out
              have fb0 := Z.out.frozen 0
              have fb1 := Z.out.frozen 1
              have fb2 := Z.out.frozen 2
              have fb3 := Z.out.frozen 3
              go_simp
              have KT := hide (KpB.set4 wb (w.heap.size + 2) (.int .i64 y0) (.int .i64 y1) (.int .i64 y2) (.slice A3 l2.length d3))
              replace OB := hide (OB.out.kb KT.out Z.out (by decide) (by decide))
              replace OC := hide (OC.out.kb KT.out Z.out (by decide) (by decide))
              replace OQ := hide (OQ.out.kb KT.out Z.out (by decide) NE.out)
              replace OU := hide (OU.out.kb KT.out Z.out (by decide))
              replace G := hide (G.out.kb KT.out GZ.out)
              replace H := hide (H.out.kb KT.out HZ.out)
              replace Y := hide (Y.out.kb KT.out (by omega))
              replace Z := hide (Z.out.set4 (.int .i64 y0) (.int .i64 y1) (.int .i64 y2) (.slice A3 l2.length d3))
              replace KK := hide (show Below w.heap.size w ((((wb.setCell ⟨w.heap.size + 2, 0, none⟩ (.int .i64 y0)).setCell ⟨w.heap.size + 2, 1, none⟩ (.int .i64 y1)).setCell ⟨w.heap.size + 2, 2, none⟩ (.int .i64 y2)).setCell ⟨w.heap.size + 2, 3, none⟩ (.slice A3 l2.length d3)) from below_set4 KK.out (by omega))
              clear b0 b1 b2 b3 fb0 fb1 fb2 fb3 KT
              generalize ((((wb.setCell ⟨w.heap.size + 2, 0, none⟩ (.int .i64 y0)).setCell ⟨w.heap.size + 2, 1, none⟩ (.int .i64 y1)).setCell ⟨w.heap.size + 2, 2, none⟩ (.int .i64 y2)).setCell ⟨w.heap.size + 2, 3, none⟩ (.slice A3 l2.length d3)) = wd2 at *
              refine hK.out _ _ ?_ (fun hHeld => ?_)
              · exact cells9 G.out H.out
              clear hK K'
              (try simp only [Act.put, List.setIfInBounds_toArray, List.set_cons_succ, List.set_cons_zero])
              refine wpAnyH_take (i := 4) (oi := ⟨some 8, _, _, _, _, _⟩) (v := ?_) rfl (by kernel_rfl) (by kernel_rfl) (by kernel_rfl) (fun _ _ _ h => h) (Or.inl ⟨by kernel_rfl, ?_⟩) (by assumption) ?_
              rotate_left 1
              · (intro w hSw; (try dsimp only at hSw); go_simp) <;> (with_reducible rfl)
              (try simp only [Act.put, List.setIfInBounds_toArray, List.set_cons_succ, List.set_cons_zero])
              refine wpAnyH_done (by kernel_rfl) ?_ _
              refine NoPanic.normal ?_
              go_wp2_with fail
              exact ret_dq Try.results26 rfl rfl rfl rfl Y.out Z.out ⟨_, _, rfl, ⟨_, _, _, rfl, OB.out, OC.out, OQ.out.mono (by omega)⟩, OU.out, KK.out⟩
end Go.Proofs.Ytnegigcjeoenmaa.Dv
