import Derived.Test.YtnegigcjeoenmaaPl1
import Derived.Test.YtnegigcjeoenmaaLBg
namespace Go.Proofs.Ytnegigcjeoenmaa.Dv
open Go Go.RowKit
set_option linter.unusedVariables false
theorem OwnQ.cellsF {B : Nat} {w : World} {A : Option Addr} {n c k : Nat} {L : List Rq} (h : OwnQ B w (.slice A n c) L) (hk : k < L.length) :
    ∃ g u, A = some ⟨g, 0, none⟩ ∧ g < w.heap.size ∧ w.cell? ⟨g, k * 4, none⟩ = some (.int .i64 (qAt L k).1) ∧ w.cell? ⟨g, k * 4 + 1, none⟩ = some (.int .i64 (qAt L k).2.1) ∧ w.cell? ⟨g, k * 4 + 2, none⟩ = some (.int .i64 (qAt L k).2.2.1) ∧ w.cell? ⟨g, k * 4 + 3, none⟩ = some u ∧ OwnBy w u (qAt L k).2.2.2 := by
  obtain ⟨R, e, hr, ho⟩ := h
  have hl : R.length = L.length := by rw [← e, List.length_map]
  obtain ⟨A', c', e1, _⟩ := row_form hr
  injection e1 with e1 e2 e3
  subst e1 e2 e3
  obtain ⟨g, rfl, hg, _, hc, _⟩ := row_cell hr (by omega)
  obtain ⟨t0, t1, t2, t3⟩ := cQ_at (R := R) (k := k) (by omega)
  have hq : qAt L k = pqQ (R[k]'(by omega)) := by rw [qAt_get hk]; simp [← e]
  rw [hq]
  exact ⟨g, _, rfl, hg, hc _ _ t0, hc _ _ t1, hc _ _ t2, hc _ _ t3, ho _ (List.getElem_mem _)⟩
theorem ct_del {D : Dev} {p : Nat} (v : Vd D) (b : Int) : ctD (delD D p) b = ctD D b := by
  unfold ctD
  rw [chk_of v, chk_of (vd_del (p := p) v)]
  rfl
theorem du_del {D : Dev} {p : Nat} (v : Vd D) (b : Int) : duD (delD D p) b = duD D b := by
  unfold duD
  rw [chk_of v, chk_of (vd_del (p := p) v)]
  rfl
theorem ct_le (D : Dev) (b : Int) : (ctD D b).length ≤ 9223372036854775807 := by
  by_cases h : chk D = 0 ∧ inB D.bl.length b = true
  · have := contD_len h.1 h.2; unfold ctD; rw [if_pos h]; omega
  · unfold ctD; rw [if_neg h]; simp
theorem du_le (D : Dev) (b : Int) : (duD D b).length ≤ 9223372036854775807 := by
  by_cases h : chk D = 0 ∧ inB D.bl.length b = true
  · have hb := h.2
    unfold inB at hb
    simp only [decide_eq_true_eq] at hb
    have := (sm_ok h.1).bb _ (bAt_mem (k := b.toNat) (by omega)); unfold duD; rw [if_pos h]; omega
  · unfold duD; rw [if_neg h]; simp
theorem sb_del {D : Dev} {p : Nat} (h : P4 D 40) (hp : p < D.qu.length) : sbE (delD D p) (qAt D.qu p).2.1 (qAt D.qu p).2.2.1 (qAt D.qu p).2.2.2.length = 0 := by
  have h1 := p4_cm (ok := false) h hp
  have hr := h.vd.qr _ (qAt_mem hp)
  rw [h.bl] at hr
  have e := sb4 (D := delD D p) h1 (by omega) hr
  rw [e, if_pos]
  have := h.vd.ql
  have := h.dep
  show (D.qu.take p ++ D.qu.drop (p + 1)).length < 4
  rw [List.length_append, List.length_take, List.length_drop]; omega
set_option maxHeartbeats 4000000 in
set_option maxRecDepth 100000 in
theorem law_fails (A : Option Addr) (L : List Ac) (c : Nat) (p : Int) (w : World) (hr : RdA w A L) (hl : L.length ≤ 9223372036854775807) (p0 : 0 ≤ p) (p1 : p < 256) :
    Calls Try.prog 7 #[.slice A L.length c, .int .u8 p] w fun e w' => e = .returned (.bool true) ∧ Below w.heap.size w w' := by
  have AW := hide (fun W => awake_any W)
  have RA := hide hr
  clear hr
  rcases Nat.lt_or_ge 40 L.length with h40 | h40
  · have hd : decide ((40 : Int) < (L.length : Int)) = true := decide_eq_true (by omega)
    go_enter Try.func7, Try.ntmps7
    go_wp2_with fail
    refine (AW.out w).mono ?_
    rintro e w1 ⟨rfl, hb1⟩
    go_wp2_with fail
    refine (AW.out w1).mono ?_
    rintro e w9 ⟨rfl, hb9⟩
    go_wp2_with fail
    go_ret
    exact ⟨rfl, btrans hb1 hb9⟩
  have hd : decide ((40 : Int) < (L.length : Int)) = false := decide_eq_false (by omega)
  have PL := hide (fun W (hb : Below w.heap.size w W) => play_any A L c W (fun hn => by
    obtain ⟨b, off, e, hlb, hc⟩ := RA.out hn
    refine ⟨b, off, e, Nat.lt_of_lt_of_le hlb hb.size, fun k hk => ?_⟩
    obtain ⟨b', off', e', _, h1, h2⟩ := RA.out.cells hb hk
    rw [e] at e'; injection e' with e'; injection e' with e1 e2; subst e1 e2
    exact ⟨h1, h2⟩) h40)
  unfold PlR at PL
  go_enter Try.func7, Try.ntmps7
  go_wp2_with fail
  refine (AW.out w).mono ?_
  rintro e w1 ⟨rfl, hb1⟩
  go_wp2_with fail
  refine (PL.out w1 hb1).mono ?_
  rintro e w2 ⟨D, v, rfl, P, ho, hb2⟩
  have PD := hide P
  have BIG := hide P.big
  obtain ⟨vb, vc, vq, rfl, ob, oc, oq⟩ := ho
  obtain ⟨E1, g1, rfl, _⟩ := ob.form
  obtain ⟨E2, g2, rfl, _⟩ := oc.form
  obtain ⟨E3, g3, rfl, _⟩ := oq.form
  obtain ⟨OBJ, hOBJ⟩ : ∃ OBJ : Obj, OBJ = .cells #[.int .i64 D.dep, .int .i64 D.nxt, .slice E1 D.bl.length g1, .slice E2 D.ca.length g2, .slice E3 D.qu.length g3] 28 := ⟨_, rfl⟩
  have BX := hide (Box.new w2 28 #[.int .i64 D.dep, .int .i64 D.nxt, .slice E1 D.bl.length g1, .slice E2 D.ca.length g2, .slice E3 D.qu.length g3])
  rw [← hOBJ] at BX
  have MO := bal (brefl w2) OBJ
  have IN := hide ((DevOwn.is (B := w1.heap.size) (w := w2) (D := D) ⟨_, _, _, rfl, ob, oc, oq⟩).below MO)
  have OQ := hide (oq.below MO)
  have K3 := hide (btrans hb1 (btrans hb2 MO))
  clear P ob oc oq hb1 hb2 MO PL
  go_upto_region 7 with fail
  rw [← hOBJ]
  obtain ⟨g, hg⟩ : ∃ g, g = w2.heap.size := ⟨_, rfl⟩
  rw [← hg] at BX ⊢
  generalize w2.alloc OBJ = w3 at *
  clear hg hOBJ
  have x4 := BX.out.cell 4
  simp at x4
  obtain ⟨n, hn⟩ : ∃ n : Nat, p % 4 = n := ⟨(p % 4).toNat, by omega⟩
  have CM := hide (complete_any _ D n false w3 IN.out BIG.out)
  unfold DqR at CM
  have CME := hide (cm4 (p := (n : Int)) PD.out (by omega))
  have HN := hide hn
  clear hn
  rcases (Nat.lt_or_ge n D.qu.length).symm with hnq | hnq
  · have hq1 : ¬ (n : Int) < (D.qu.length : Int) := by omega
    have hq2 : (D.qu.length : Int) ≤ (n : Int) := by omega
    rw [CME.out, if_neg hq1] at CM
    simp only [show ¬ (2 : Int) = 0 by decide, if_false] at CM
    obtain ⟨fq, hfq⟩ : ∃ fq, fq = zeroQ := ⟨_, rfl⟩
    rw [← hfq] at CM
    obtain ⟨y0, y1, y2, l5⟩ := fq
    simp only at CM
    clear CME hfq
    obtain ⟨x0, x1, x2, x3, _⟩ := box5_cells (W' := w3) BX.out
    rw [HN.out]
    go_wp2_with fail
    refine CM.out.mono ?_
    rintro e ws ⟨vs, u5, rfl, hos, hu5, hbs⟩
    obtain ⟨ub, uc, uq, rfl, ob, oc, oq⟩ := hos
    obtain ⟨F1, f1, rfl, _⟩ := ob.form
    obtain ⟨F2, f2, rfl, _⟩ := oc.form
    obtain ⟨F3, f3, rfl, _⟩ := oq.form
    obtain ⟨A5, d5, rfl⟩ := hu5.form
    have KS := hide (btrans K3.out hbs)
    clear ob oc oq hu5 hbs
    go_wp2
    go_ret
    exact ⟨rfl, bal (bal KS.out _) _⟩
  have hq1 : (n : Int) < (D.qu.length : Int) := by omega
  have hq2 : ¬ (D.qu.length : Int) ≤ (n : Int) := by omega
  rw [CME.out, if_pos hq1] at CM
  simp only [if_true, Int.toNat_natCast] at CM
  obtain ⟨C, hC⟩ : ∃ C, C = cmD D n false := ⟨_, rfl⟩
  rw [← hC] at CM
  have PC := hide (show P4 C 40 by rw [hC]; exact p4_cm PD.out hnq)
  obtain ⟨y0, y1, y2, l, hq⟩ : ∃ y0 y1 y2 l, qAt D.qu n = (y0, y1, y2, l) := ⟨_, _, _, _, rfl⟩
  have hqq : cmQ D n false = (y0, y1, y2, l) := hq
  rw [hqq] at CM
  simp only at CM
  have SBE := hide (show sbE C y1 y2 l.length = 0 by have := sb_del PD.out hnq; rw [hq] at this; rw [hC]; exact this)
  have ECT := hide (fun b => (show ctD C b = ctD D b by rw [hC]; exact ct_del PD.out.vd b))
  have EDU := hide (fun b => (show duD C b = duD D b by rw [hC]; exact du_del PD.out.vd b))
  have ENX := hide (show C.nxt = D.nxt by rw [hC]; rfl)
  have EQL := hide (show C.qu.length + 1 = D.qu.length by rw [hC]; show (D.qu.take n ++ D.qu.drop (n + 1)).length + 1 = _; rw [List.length_append, List.length_take, List.length_drop]; omega)
  obtain ⟨gq, u6, hgq, hgl, c0, c1, c2, c3, hu6⟩ := OQ.out.cellsF hnq
  subst hgq
  rw [hq] at c0 c1 c2 hu6
  simp only at c0 c1 c2 hu6
  obtain ⟨A6, d6, rfl⟩ := hu6.form
  have UD := hide hu6.is
  have HLL := hide (show l.length ≤ 9223372036854775807 by have := BIG.out.qb _ (qAt_mem hnq); rw [hq] at this; exact this)
  clear CME hC hq hqq hu6
  have CQ := hide (fun W (hb : Below w3.heap.size w3 W) => (⟨(hb.cell (p := ⟨gq, _, none⟩) hgl).trans c0, (hb.cell (p := ⟨gq, _, none⟩) hgl).trans c1, (hb.cell (p := ⟨gq, _, none⟩) hgl).trans c2, (hb.cell (p := ⟨gq, _, none⟩) hgl).trans c3⟩ : W.cell? ⟨gq, n * 4, none⟩ = some (.int .i64 y0) ∧ W.cell? ⟨gq, n * 4 + 1, none⟩ = some (.int .i64 y1) ∧ W.cell? ⟨gq, n * 4 + 2, none⟩ = some (.int .i64 y2) ∧ W.cell? ⟨gq, n * 4 + 3, none⟩ = some (.slice A6 l.length d6)))
  clear c0 c1 c2 c3
  obtain ⟨x0, x1, x2, x3, _⟩ := box5_cells (W' := w3) BX.out
  rw [HN.out]
  go_wp2_with fail
  refine CM.out.mono ?_
  rintro e w4 ⟨vs, u5, rfl, hos, hu5, hbs⟩
  obtain ⟨ub, uc, uq, rfl, ob, oc, oq⟩ := hos
  obtain ⟨F1, f1, rfl, _⟩ := ob.form
  obtain ⟨F2, f2, rfl, _⟩ := oc.form
  obtain ⟨F3, f3, rfl, _⟩ := oq.form
  obtain ⟨A5, d5, rfl⟩ := hu5.form
  have MO := bal (bal (brefl w4) (.cells #[.int .i64 C.dep, .int .i64 C.nxt, .slice F1 C.bl.length f1, .slice F2 C.ca.length f2, .slice F3 C.qu.length f3] 28)) (.cells #[.int .i64 y0, .int .i64 y1, .int .i64 y2, .slice A5 l.length d5] 39)
  have INC := hide ((DevOwn.is (B := w3.heap.size) (w := w4) (D := C) ⟨_, _, _, rfl, ob, oc, oq⟩).below MO)
  have UQ := hide (hu5.is.below MO)
  have BC := hide ((Box.new w4 28 #[.int .i64 C.dep, .int .i64 C.nxt, .slice F1 C.bl.length f1, .slice F2 C.ca.length f2, .slice F3 C.qu.length f3]).more (.cells #[.int .i64 y0, .int .i64 y1, .int .i64 y2, .slice A5 l.length d5] 39))
  have BQ := hide (Box.new2 w4 (.cells #[.int .i64 C.dep, .int .i64 C.nxt, .slice F1 C.bl.length f1, .slice F2 C.ca.length f2, .slice F3 C.qu.length f3] 28) 39 #[.int .i64 y0, .int .i64 y1, .int .i64 y2, .slice A5 l.length d5])
  have M5 := hide (btrans hbs MO)
  clear hbs ob oc oq MO hu5 x0 x1 x2 x3 x4
  go_upto_region 11 with fail
  obtain ⟨cb, hcb⟩ : ∃ cb, cb = w4.heap.size := ⟨_, rfl⟩
  rw [← hcb] at BC BQ ⊢
  obtain ⟨qb, hqb⟩ : ∃ qb, qb = cb + 1 := ⟨_, rfl⟩
  rw [← hqb] at BQ ⊢
  generalize (w4.alloc (.cells #[.int .i64 C.dep, .int .i64 C.nxt, .slice F1 C.bl.length f1, .slice F2 C.ca.length f2, .slice F3 C.qu.length f3] 28)).alloc (.cells #[.int .i64 y0, .int .i64 y1, .int .i64 y2, .slice A5 l.length d5] 39) = w5 at *
  clear hcb hqb CM
  replace UD := hide (UD.out.below M5.out)
  have BX5 := hide (BX.out.below M5.out)
  have K5 := hide (btrans K3.out M5.out)
  have CQ5 := hide (fun W (hb : Below w5.heap.size w5 W) => CQ.out W (btrans M5.out hb))
  have S11 := hide (fun W (hb : Below w5.heap.size w5 W) => (by
    have p := BC.out.below hb
    have q := BX5.out.below hb
    have r := BQ.out.below hb
    have s := CQ5.out W hb
    exact ⟨p.cell 4, q.cell 4, r.cell 0, r.cell 1, r.cell 2, r.cell 3, s.1, s.2.1, s.2.2.1, s.2.2.2⟩ : (fun W => W.cell? ⟨cb, 4, none⟩ = some (.slice F3 C.qu.length f3) ∧ W.cell? ⟨g, 4, none⟩ = some (.slice (some ⟨gq, 0, none⟩) D.qu.length g3) ∧ W.cell? ⟨qb, 0, none⟩ = some (.int .i64 y0) ∧ W.cell? ⟨qb, 1, none⟩ = some (.int .i64 y1) ∧ W.cell? ⟨qb, 2, none⟩ = some (.int .i64 y2) ∧ W.cell? ⟨qb, 3, none⟩ = some (.slice A5 l.length d5) ∧ W.cell? ⟨gq, n * 4, none⟩ = some (.int .i64 y0) ∧ W.cell? ⟨gq, n * 4 + 1, none⟩ = some (.int .i64 y1) ∧ W.cell? ⟨gq, n * 4 + 2, none⟩ = some (.int .i64 y2) ∧ W.cell? ⟨gq, n * 4 + 3, none⟩ = some (.slice A6 l.length d6)) W))
  have S16 := hide (fun W (hb : Below w5.heap.size w5 W) => (by
    have p := BC.out.below hb
    have q := BX5.out.below hb
    exact ⟨p.cell 0, p.cell 1, p.cell 2, p.cell 3, p.cell 4, q.cell 0, q.cell 1, q.cell 2, q.cell 3, q.cell 4⟩ : (fun W => W.cell? ⟨cb, 0, none⟩ = some (.int .i64 C.dep) ∧ W.cell? ⟨cb, 1, none⟩ = some (.int .i64 C.nxt) ∧ W.cell? ⟨cb, 2, none⟩ = some (.slice F1 C.bl.length f1) ∧ W.cell? ⟨cb, 3, none⟩ = some (.slice F2 C.ca.length f2) ∧ W.cell? ⟨cb, 4, none⟩ = some (.slice F3 C.qu.length f3) ∧ W.cell? ⟨g, 0, none⟩ = some (.int .i64 D.dep) ∧ W.cell? ⟨g, 1, none⟩ = some (.int .i64 D.nxt) ∧ W.cell? ⟨g, 2, none⟩ = some (.slice E1 D.bl.length g1) ∧ W.cell? ⟨g, 3, none⟩ = some (.slice E2 D.ca.length g2) ∧ W.cell? ⟨g, 4, none⟩ = some (.slice (some ⟨gq, 0, none⟩) D.qu.length g3)) W))
  have SN := hide (fun W (hb : Below w5.heap.size w5 W) => submit_any _ C y1 y2 _ l W (INC.out.below hb) PC.out.big (UQ.out.below hb))
  unfold DvR3 at SN
  rw [SBE.out] at SN
  simp only [if_true] at SN
  obtain ⟨F, hF⟩ : ∃ F, F = sbD C y1 y2 l := ⟨_, rfl⟩
  rw [← hF] at SN
  have FQ := hide (show ((F.qu.length : Int) == (D.qu.length : Int)) = true by
    have := EQL.out
    have e : F.qu.length = D.qu.length := by rw [hF]; show (C.qu ++ [_]).length = _; rw [List.length_append, List.length_singleton]; exact this
    simp [e])
  have FN := hide (show (C.nxt == D.nxt) = true by simp [ENX.out])
  clear hF
  have CO := hide (fun b W (hb : Below w5.heap.size w5 W) => contentD_any _ C b W (INC.out.below hb) PC.out.big)
  have CU := hide (fun b W (hb : Below w5.heap.size w5 W) => durable_any _ C b W (INC.out.below hb) PC.out.big)
  have DO := hide (fun b W (hb : Below w5.heap.size w5 W) => contentD_any _ D b W (IN.out.below (btrans M5.out hb)) BIG.out)
  have DU := hide (fun b W (hb : Below w5.heap.size w5 W) => durable_any _ D b W (IN.out.below (btrans M5.out hb)) BIG.out)
  unfold ByR at CO CU DO DU
  have hnn0 : (0 : Int) ≤ (n : Int) := by omega
  have hql := PD.out.vd.ql
  have hdp := PD.out.dep
  have hw : IntKind.i64.wrap ((D.qu.length : Int) - 1) = (C.qu.length : Int) := by rw [IntKind.wrap_i64]; have := EQL.out; omega
  have HWW := hide hw
  clear hql hdp

  refine wp_region_noPanic ?_
  refine wp_region_held_drew (S := (fun W => W.cell? ⟨cb, 4, none⟩ = some (.slice F3 C.qu.length f3) ∧ W.cell? ⟨g, 4, none⟩ = some (.slice (some ⟨gq, 0, none⟩) D.qu.length g3) ∧ W.cell? ⟨qb, 0, none⟩ = some (.int .i64 y0) ∧ W.cell? ⟨qb, 1, none⟩ = some (.int .i64 y1) ∧ W.cell? ⟨qb, 2, none⟩ = some (.int .i64 y2) ∧ W.cell? ⟨qb, 3, none⟩ = some (.slice A5 l.length d5) ∧ W.cell? ⟨gq, n * 4, none⟩ = some (.int .i64 y0) ∧ W.cell? ⟨gq, n * 4 + 1, none⟩ = some (.int .i64 y1) ∧ W.cell? ⟨gq, n * 4 + 2, none⟩ = some (.int .i64 y2) ∧ W.cell? ⟨gq, n * 4 + 3, none⟩ = some (.slice A6 l.length d6))) (by kernel_rfl) ?_ (fun hHeld => ?_)
  · exact S11.out _ (below_drew (brefl w5))
  have KK := hide (below_drew (brefl w5))
  generalize w5.drew = wz at *
  refine wpAnyH_take (i := 0) (oi := ⟨some 56, _, _, _, _, _⟩) (v := ?_) rfl (by kernel_rfl) (by kernel_rfl) (by kernel_rfl) (fun _ _ _ h => h) (Or.inl ⟨by kernel_rfl, ?_⟩) (by assumption) ?_
  rotate_left 1
  · (intro w hSw; (try dsimp only at hSw); go_simp) <;> (with_reducible rfl)
  (try simp only [Act.put, List.setIfInBounds_toArray, List.set_cons_succ, List.set_cons_zero])
  refine wpAnyH_take (i := 1) (oi := ⟨some 57, _, _, _, _, _⟩) (v := ?_) rfl (by kernel_rfl) (by kernel_rfl) (by kernel_rfl) (fun _ _ _ h => h) (Or.inl ⟨by kernel_rfl, ?_⟩) (by assumption) ?_
  rotate_left 1
  · (intro w hSw; (try dsimp only at hSw); go_simp) <;> (with_reducible rfl)
  (try simp only [Act.put, List.setIfInBounds_toArray, List.set_cons_succ, List.set_cons_zero])
  refine wpAnyH_take (i := 2) (oi := ⟨some 58, _, _, _, _, _⟩) (v := ?_) rfl (by kernel_rfl) (by kernel_rfl) (by kernel_rfl) (fun _ _ _ h => h) (Or.inl ⟨by kernel_rfl, ?_⟩) (by assumption) ?_
  rotate_left 1
  · (intro w hSw; (try dsimp only at hSw); go_simp) <;> (with_reducible rfl)
  (try simp only [Act.put, List.setIfInBounds_toArray, List.set_cons_succ, List.set_cons_zero])
  refine wpAnyH_take (i := 3) (oi := ⟨some 59, _, _, _, _, _⟩) (v := ?_) rfl (by kernel_rfl) (by kernel_rfl) (by kernel_rfl) (fun _ _ _ h => h) (Or.inl ⟨by kernel_rfl, ?_⟩) (by assumption) ?_
  rotate_left 1
  · (intro w hSw; (try dsimp only at hSw); go_simp) <;> (with_reducible rfl)
  (try simp only [Act.put, List.setIfInBounds_toArray, List.set_cons_succ, List.set_cons_zero])
  refine wpAnyH_take (i := 4) (oi := ⟨some 60, _, _, _, _, _⟩) (v := ?_) rfl (by kernel_rfl) (by kernel_rfl) (by kernel_rfl) (fun _ _ _ h => h) (Or.inl ⟨by kernel_rfl, ?_⟩) (by assumption) ?_
  rotate_left 1
  · (intro w hSw; (try dsimp only at hSw); go_simp) <;> (with_reducible rfl)
  (try simp only [Act.put, List.setIfInBounds_toArray, List.set_cons_succ, List.set_cons_zero])
  refine wpAnyH_take (i := 5) (oi := ⟨some 61, _, _, _, _, _⟩) (v := ?_) rfl (by kernel_rfl) (by kernel_rfl) (by kernel_rfl) (fun _ _ _ h => h) (Or.inl ⟨by kernel_rfl, ?_⟩) (by assumption) ?_
  rotate_left 1
  · (intro w hSw; (try dsimp only at hSw); go_simp) <;> (with_reducible rfl)
  (try simp only [Act.put, List.setIfInBounds_toArray, List.set_cons_succ, List.set_cons_zero])
  refine wpAnyH_take (i := 6) (oi := ⟨some 62, _, _, _, _, _⟩) (v := ?_) rfl (by kernel_rfl) (by kernel_rfl) (by kernel_rfl) (fun _ _ _ h => h) (Or.inl ⟨by kernel_rfl, ?_⟩) (by assumption) ?_
  rotate_left 1
  · (intro w hSw; (try dsimp only at hSw); go_simp) <;> (with_reducible rfl)
  (try simp only [Act.put, List.setIfInBounds_toArray, List.set_cons_succ, List.set_cons_zero])
  refine wpAnyH_take (i := 7) (oi := ⟨some 63, _, _, _, _, _⟩) (v := ?_) rfl (by kernel_rfl) (by kernel_rfl) (by kernel_rfl) (fun _ _ _ h => h) (Or.inl ⟨by kernel_rfl, ?_⟩) (by assumption) ?_
  rotate_left 1
  · (intro w hSw; (try dsimp only at hSw); go_simp) <;> (with_reducible rfl)
  (try simp only [Act.put, List.setIfInBounds_toArray, List.set_cons_succ, List.set_cons_zero])
  refine wpAnyH_take (i := 8) (oi := ⟨some 64, _, _, _, _, _⟩) (v := ?_) rfl (by kernel_rfl) (by kernel_rfl) (by kernel_rfl) (fun _ _ _ h => h) (Or.inl ⟨by kernel_rfl, ?_⟩) (by assumption) ?_
  rotate_left 1
  · (intro w hSw; (try dsimp only at hSw); go_simp) <;> (with_reducible rfl)
  (try simp only [Act.put, List.setIfInBounds_toArray, List.set_cons_succ, List.set_cons_zero])
  refine wpAnyH_take (i := 9) (oi := ⟨some 65, _, _, _, _, _⟩) (v := ?_) rfl (by kernel_rfl) (by kernel_rfl) (by kernel_rfl) (fun _ _ _ h => h) (Or.inl ⟨by kernel_rfl, ?_⟩) (by assumption) ?_
  rotate_left 1
  · (intro w hSw; (try dsimp only at hSw); go_simp) <;> (with_reducible rfl)
  (try simp only [Act.put, List.setIfInBounds_toArray, List.set_cons_succ, List.set_cons_zero])
  refine wpAnyH_take (i := 10) (oi := ⟨some 66, _, _, _, _, _⟩) (v := ?_) rfl (by kernel_rfl) (by kernel_rfl) (by kernel_rfl) (fun _ _ _ h => h) (Or.inl ⟨by kernel_rfl, ?_⟩) (by assumption) ?_
  rotate_left 1
  · (intro w hSw; (try dsimp only at hSw); go_simp) <;> (with_reducible rfl)
  (try simp only [Act.put, List.setIfInBounds_toArray, List.set_cons_succ, List.set_cons_zero])
  refine wpAnyH_take (i := 11) (oi := ⟨some 67, _, _, _, _, _⟩) (v := ?_) rfl (by kernel_rfl) (by kernel_rfl) (by kernel_rfl) (fun _ _ _ h => h) (Or.inl ⟨by kernel_rfl, ?_⟩) (by assumption) ?_
  rotate_left 1
  · (intro w hSw; (try dsimp only at hSw); go_simp) <;> (with_reducible rfl)
  (try simp only [Act.put, List.setIfInBounds_toArray, List.set_cons_succ, List.set_cons_zero])
  refine wpAnyH_take (i := 12) (oi := ⟨some 68, _, _, _, _, _⟩) (v := ?_) rfl (by kernel_rfl) (by kernel_rfl) (by kernel_rfl) (fun _ _ _ h => h) (Or.inl ⟨by kernel_rfl, ?_⟩) (by assumption) ?_
  rotate_left 1
  · (intro w hSw; (try dsimp only at hSw); go_simp) <;> (with_reducible rfl)
  (try simp only [Act.put, List.setIfInBounds_toArray, List.set_cons_succ, List.set_cons_zero])
  refine wpAnyH_take (i := 13) (oi := ⟨some 69, _, _, _, _, _⟩) (v := ?_) rfl (by kernel_rfl) (by kernel_rfl) (by kernel_rfl) (fun _ _ _ h => h) (Or.inl ⟨by kernel_rfl, ?_⟩) (by assumption) ?_
  rotate_left 1
  · (intro w hSw; (try dsimp only at hSw); go_simp) <;> (with_reducible rfl)
  (try simp only [Act.put, List.setIfInBounds_toArray, List.set_cons_succ, List.set_cons_zero])
  refine wpAnyH_take (i := 14) (oi := ⟨some 70, _, _, _, _, _⟩) (v := ?_) rfl (by kernel_rfl) (by kernel_rfl) (by kernel_rfl) (fun _ _ _ h => h) (Or.inl ⟨by kernel_rfl, ?_⟩) (by assumption) ?_
  rotate_left 1
  · (intro w hSw; (try dsimp only at hSw); go_simp) <;> (with_reducible rfl)
  (try simp only [Act.put, List.setIfInBounds_toArray, List.set_cons_succ, List.set_cons_zero])
  refine wpAnyH_take (i := 15) (oi := ⟨some 71, _, _, _, _, _⟩) (v := ?_) rfl (by kernel_rfl) (by kernel_rfl) (by kernel_rfl) (fun _ _ _ h => h) (Or.inl ⟨by kernel_rfl, ?_⟩) (by assumption) ?_
  rotate_left 1
  · (intro w hSw; (try dsimp only at hSw); go_simp) <;> (with_reducible rfl)
  (try simp only [Act.put, List.setIfInBounds_toArray, List.set_cons_succ, List.set_cons_zero])
  refine wpAnyH_take (i := 16) (oi := ⟨some 72, _, _, _, _, _⟩) (v := ?_) rfl (by kernel_rfl) (by kernel_rfl) (by kernel_rfl) (fun _ _ _ h => h) (Or.inl ⟨by kernel_rfl, ?_⟩) (by assumption) ?_
  rotate_left 1
  · (intro w hSw; (try dsimp only at hSw); go_simp) <;> (with_reducible rfl)
  (try simp only [Act.put, List.setIfInBounds_toArray, List.set_cons_succ, List.set_cons_zero])
  refine wpAnyH_take (i := 17) (oi := ⟨some 73, _, _, _, _, _⟩) (v := ?_) rfl (by kernel_rfl) (by kernel_rfl) (by kernel_rfl) (fun _ _ _ h => h) (Or.inl ⟨by kernel_rfl, ?_⟩) (by assumption) ?_
  rotate_left 1
  · (intro w hSw; (try dsimp only at hSw); go_simp) <;> (with_reducible rfl)
  (try simp only [Act.put, List.setIfInBounds_toArray, List.set_cons_succ, List.set_cons_zero])
  refine wpAnyH_take (i := 18) (oi := ⟨some 74, _, _, _, _, _⟩) (v := ?_) rfl (by kernel_rfl) (by kernel_rfl) (by kernel_rfl) (fun _ _ _ h => h) (Or.inl ⟨by kernel_rfl, ?_⟩) (by assumption) ?_
  rotate_left 1
  · (intro w hSw; (try dsimp only at hSw); go_simp) <;> (with_reducible rfl)
  (try simp only [Act.put, List.setIfInBounds_toArray, List.set_cons_succ, List.set_cons_zero])
  refine wpAnyH_ready (rs := [19]) (by kernel_rfl) (by simp) ?_
  refine AllReadyH.cons (o := _) rfl (fun K' hK => ?_) AllReadyH.nil
  go_simp
  refine (srq y0 y1 y2 _ _ l _ (UQ.out.below KK.out) (UD.out.below KK.out) HLL.out).mono ?_
  rintro e w6 ⟨rfl, hb⟩
  replace KK := hide (btrans KK.out hb)
  clear hb
  refine hK.out _ _ ?_ (fun hHeld => ?_)
  · exact S11.out _ KK.out
  clear hK K'
  (try simp only [Act.put, List.setIfInBounds_toArray, List.set_cons_succ, List.set_cons_zero])
  refine wpAnyH_take (i := 20) (oi := ⟨some 76, _, _, _, _, _⟩) (v := ?_) rfl (by kernel_rfl) (by kernel_rfl) (by kernel_rfl) (fun _ _ _ h => h) (Or.inl ⟨by kernel_rfl, ?_⟩) (by assumption) ?_
  rotate_left 1
  · (intro w hSw; (try dsimp only at hSw); go_simp) <;> (with_reducible rfl)
  (try simp only [Act.put, List.setIfInBounds_toArray, List.set_cons_succ, List.set_cons_zero])
  refine wpAnyH_take (i := 21) (oi := ⟨some 77, _, _, _, _, _⟩) (v := ?_) rfl (by kernel_rfl) (by kernel_rfl) (by kernel_rfl) (fun _ _ _ h => h) (Or.inl ⟨by kernel_rfl, ?_⟩) (by assumption) ?_
  rotate_left 1
  · (intro w hSw; (try dsimp only at hSw); go_simp) <;> (with_reducible rfl)
  (try simp only [Act.put, List.setIfInBounds_toArray, List.set_cons_succ, List.set_cons_zero])
  refine wpAnyH_done (by kernel_rfl) ?_ _
  refine NoPanic.normal ?_
  clear hw
  go_upto_region 14 with fail
  have KR := KK
  go_loopw [14, 78] (fun _ i wr => ∃ k : Nat, k ≤ 4 ∧ i = .int .i64 k ∧ Hid (Below w5.heap.size w5 wr)) (fun _ i _ => 4 - (intOf i).toNat)
  case atStart => exact ⟨0, Nat.zero_le _, rfl, KR⟩
  case round =>
    clear KR KK
    obtain ⟨k, hk, rfl, KW⟩ := hrel
    by_cases hlt : k < 4
    · have hlt1 : (k : Int) < 4 := by omega
      have hlt2 : ¬ (4 : Int) ≤ (k : Int) := by omega
      have CO' := hide (fun W hb => CO.out (k : Int) W hb)
      have CU' := hide (fun W hb => CU.out (k : Int) W hb)
      have DO' := hide (fun W hb => DO.out (k : Int) W hb)
      have DU' := hide (fun W hb => DU.out (k : Int) W hb)
      rw [ECT.out] at CO'
      rw [EDU.out] at CU'
      have HL1 := hide (ct_le D (k : Int))
      have HL2 := hide (du_le D (k : Int))
      clear CO CU DO DU
      have CO := CO'
      have CU := CU'
      have DO := DO'
      have DU := DU'
      clear CO' CU' DO' DU'
      generalize ctD D (k : Int) = l1 at *
      generalize duD D (k : Int) = l2 at *
      go_upto_region 16 with fail
      refine wp_region_noPanic ?_
      refine wp_region_held_drew (S := (fun W => W.cell? ⟨cb, 0, none⟩ = some (.int .i64 C.dep) ∧ W.cell? ⟨cb, 1, none⟩ = some (.int .i64 C.nxt) ∧ W.cell? ⟨cb, 2, none⟩ = some (.slice F1 C.bl.length f1) ∧ W.cell? ⟨cb, 3, none⟩ = some (.slice F2 C.ca.length f2) ∧ W.cell? ⟨cb, 4, none⟩ = some (.slice F3 C.qu.length f3) ∧ W.cell? ⟨g, 0, none⟩ = some (.int .i64 D.dep) ∧ W.cell? ⟨g, 1, none⟩ = some (.int .i64 D.nxt) ∧ W.cell? ⟨g, 2, none⟩ = some (.slice E1 D.bl.length g1) ∧ W.cell? ⟨g, 3, none⟩ = some (.slice E2 D.ca.length g2) ∧ W.cell? ⟨g, 4, none⟩ = some (.slice (some ⟨gq, 0, none⟩) D.qu.length g3))) (by kernel_rfl) ?_ (fun hHeld => ?_)
      · exact S16.out _ (btrans KW.out (below_drew (brefl wr)))
      have KK := hide (btrans KW.out (below_drew (brefl wr)))
      generalize wr.drew = wz at *
      refine wpAnyH_take (i := 0) (oi := ⟨some 81, _, _, _, _, _⟩) (v := ?_) rfl (by kernel_rfl) (by kernel_rfl) (by kernel_rfl) (fun _ _ _ h => h) (Or.inl ⟨by kernel_rfl, ?_⟩) (by assumption) ?_
      rotate_left 1
      · (intro w hSw; (try dsimp only at hSw); go_simp) <;> (with_reducible rfl)
      (try simp only [Act.put, List.setIfInBounds_toArray, List.set_cons_succ, List.set_cons_zero])
      refine wpAnyH_take (i := 1) (oi := ⟨some 82, _, _, _, _, _⟩) (v := ?_) rfl (by kernel_rfl) (by kernel_rfl) (by kernel_rfl) (fun _ _ _ h => h) (Or.inl ⟨by kernel_rfl, ?_⟩) (by assumption) ?_
      rotate_left 1
      · (intro w hSw; (try dsimp only at hSw); go_simp) <;> (with_reducible rfl)
      (try simp only [Act.put, List.setIfInBounds_toArray, List.set_cons_succ, List.set_cons_zero])
      refine wpAnyH_take (i := 3) (oi := ⟨some 84, _, _, _, _, _⟩) (v := ?_) rfl (by kernel_rfl) (by kernel_rfl) (by kernel_rfl) (fun _ _ _ h => h) (Or.inl ⟨by kernel_rfl, ?_⟩) (by assumption) ?_
      rotate_left 1
      · (intro w hSw; (try dsimp only at hSw); go_simp) <;> (with_reducible rfl)
      (try simp only [Act.put, List.setIfInBounds_toArray, List.set_cons_succ, List.set_cons_zero])
      refine wpAnyH_take (i := 4) (oi := ⟨some 85, _, _, _, _, _⟩) (v := ?_) rfl (by kernel_rfl) (by kernel_rfl) (by kernel_rfl) (fun _ _ _ h => h) (Or.inl ⟨by kernel_rfl, ?_⟩) (by assumption) ?_
      rotate_left 1
      · (intro w hSw; (try dsimp only at hSw); go_simp) <;> (with_reducible rfl)
      (try simp only [Act.put, List.setIfInBounds_toArray, List.set_cons_succ, List.set_cons_zero])
      refine wpAnyH_ready (rs := [2]) (by kernel_rfl) (by simp) ?_
      refine AllReadyH.cons (o := _) rfl (fun K' hK => ?_) AllReadyH.nil
      go_simp
      refine (CO.out _ KK.out).mono ?_
      rintro e y2 ⟨u, rfl, hu, hb⟩
      obtain ⟨A2, d2, rfl⟩ := hu.form
      have P1 := hide (bs_own hu)
      replace KK := hide (btrans KK.out hb)
      clear hu hb
      refine hK.out _ _ ?_ (fun hHeld => ?_)
      · exact S16.out _ KK.out
      clear hK K'
      (try simp only [Act.put, List.setIfInBounds_toArray, List.set_cons_succ, List.set_cons_zero])
      refine wpAnyH_ready (rs := [5]) (by kernel_rfl) (by simp) ?_
      refine AllReadyH.cons (o := _) rfl (fun K' hK => ?_) AllReadyH.nil
      go_simp
      refine (DO.out _ KK.out).mono ?_
      rintro e y5 ⟨u, rfl, hu, hb⟩
      obtain ⟨A5, d5, rfl⟩ := hu.form
      have P2 := hide (bs_own hu)
      replace KK := hide (btrans KK.out hb)
      replace P1 := hide (P1.out.below hb)
      clear hu hb
      refine hK.out _ _ ?_ (fun hHeld => ?_)
      · exact S16.out _ KK.out
      clear hK K'
      (try simp only [Act.put, List.setIfInBounds_toArray, List.set_cons_succ, List.set_cons_zero])
      refine wpAnyH_ready (rs := [6]) (by kernel_rfl) (by simp) ?_
      refine AllReadyH.cons (o := _) rfl (fun K' hK => ?_) AllReadyH.nil
      go_simp
      refine (sbytes _ _ _ _ _ _ P1.out P2.out HL1.out).mono ?_
      rintro e y6 ⟨rfl, hb⟩
      replace KK := hide (btrans KK.out hb)
      clear hb P1 P2
      refine hK.out _ _ ?_ (fun hHeld => ?_)
      · exact S16.out _ KK.out
      clear hK K'
      (try simp only [Act.put, List.setIfInBounds_toArray, List.set_cons_succ, List.set_cons_zero])
      refine wpAnyH_take (i := 7) (oi := ⟨some 88, _, _, _, _, _⟩) (v := ?_) rfl (by kernel_rfl) (by kernel_rfl) (by kernel_rfl) (fun _ _ _ h => h) (Or.inl ⟨by kernel_rfl, ?_⟩) (by assumption) ?_
      rotate_left 1
      · (intro w hSw; (try dsimp only at hSw); go_simp) <;> (with_reducible rfl)
      (try simp only [Act.put, List.setIfInBounds_toArray, List.set_cons_succ, List.set_cons_zero])
      refine wpAnyH_take (i := 8) (oi := ⟨some 89, _, _, _, _, _⟩) (v := ?_) rfl (by kernel_rfl) (by kernel_rfl) (by kernel_rfl) (fun _ _ _ h => h) (Or.inl ⟨by kernel_rfl, ?_⟩) (by assumption) ?_
      rotate_left 1
      · (intro w hSw; (try dsimp only at hSw); go_simp) <;> (with_reducible rfl)
      (try simp only [Act.put, List.setIfInBounds_toArray, List.set_cons_succ, List.set_cons_zero])
      refine wpAnyH_take (i := 9) (oi := ⟨some 90, _, _, _, _, _⟩) (v := ?_) rfl (by kernel_rfl) (by kernel_rfl) (by kernel_rfl) (fun _ _ _ h => h) (Or.inl ⟨by kernel_rfl, ?_⟩) (by assumption) ?_
      rotate_left 1
      · (intro w hSw; (try dsimp only at hSw); go_simp) <;> (with_reducible rfl)
      (try simp only [Act.put, List.setIfInBounds_toArray, List.set_cons_succ, List.set_cons_zero])
      refine wpAnyH_take (i := 10) (oi := ⟨some 91, _, _, _, _, _⟩) (v := ?_) rfl (by kernel_rfl) (by kernel_rfl) (by kernel_rfl) (fun _ _ _ h => h) (Or.inl ⟨by kernel_rfl, ?_⟩) (by assumption) ?_
      rotate_left 1
      · (intro w hSw; (try dsimp only at hSw); go_simp) <;> (with_reducible rfl)
      (try simp only [Act.put, List.setIfInBounds_toArray, List.set_cons_succ, List.set_cons_zero])
      refine wpAnyH_take (i := 12) (oi := ⟨some 93, _, _, _, _, _⟩) (v := ?_) rfl (by kernel_rfl) (by kernel_rfl) (by kernel_rfl) (fun _ _ _ h => h) (Or.inl ⟨by kernel_rfl, ?_⟩) (by assumption) ?_
      rotate_left 1
      · (intro w hSw; (try dsimp only at hSw); go_simp) <;> (with_reducible rfl)
      (try simp only [Act.put, List.setIfInBounds_toArray, List.set_cons_succ, List.set_cons_zero])
      refine wpAnyH_take (i := 13) (oi := ⟨some 94, _, _, _, _, _⟩) (v := ?_) rfl (by kernel_rfl) (by kernel_rfl) (by kernel_rfl) (fun _ _ _ h => h) (Or.inl ⟨by kernel_rfl, ?_⟩) (by assumption) ?_
      rotate_left 1
      · (intro w hSw; (try dsimp only at hSw); go_simp) <;> (with_reducible rfl)
      (try simp only [Act.put, List.setIfInBounds_toArray, List.set_cons_succ, List.set_cons_zero])
      refine wpAnyH_ready (rs := [11]) (by kernel_rfl) (by simp) ?_
      refine AllReadyH.cons (o := _) rfl (fun K' hK => ?_) AllReadyH.nil
      go_simp
      refine (CU.out _ KK.out).mono ?_
      rintro e y11 ⟨u, rfl, hu, hb⟩
      obtain ⟨A11, d11, rfl⟩ := hu.form
      have Q1 := hide (bs_own hu)
      replace KK := hide (btrans KK.out hb)
      clear hu hb
      refine hK.out _ _ ?_ (fun hHeld => ?_)
      · exact S16.out _ KK.out
      clear hK K'
      (try simp only [Act.put, List.setIfInBounds_toArray, List.set_cons_succ, List.set_cons_zero])
      refine wpAnyH_ready (rs := [14]) (by kernel_rfl) (by simp) ?_
      refine AllReadyH.cons (o := _) rfl (fun K' hK => ?_) AllReadyH.nil
      go_simp
      refine (DU.out _ KK.out).mono ?_
      rintro e y14 ⟨u, rfl, hu, hb⟩
      obtain ⟨A14, d14, rfl⟩ := hu.form
      have Q2 := hide (bs_own hu)
      replace KK := hide (btrans KK.out hb)
      replace Q1 := hide (Q1.out.below hb)
      clear hu hb
      refine hK.out _ _ ?_ (fun hHeld => ?_)
      · exact S16.out _ KK.out
      clear hK K'
      (try simp only [Act.put, List.setIfInBounds_toArray, List.set_cons_succ, List.set_cons_zero])
      refine wpAnyH_ready (rs := [15]) (by kernel_rfl) (by simp) ?_
      refine AllReadyH.cons (o := _) rfl (fun K' hK => ?_) AllReadyH.nil
      go_simp
      refine (sbytes _ _ _ _ _ _ Q1.out Q2.out HL2.out).mono ?_
      rintro e y15 ⟨rfl, hb⟩
      replace KK := hide (btrans KK.out hb)
      clear hb Q1 Q2
      refine hK.out _ _ ?_ (fun hHeld => ?_)
      · exact S16.out _ KK.out
      clear hK K'
      (try simp only [Act.put, List.setIfInBounds_toArray, List.set_cons_succ, List.set_cons_zero])
      refine wpAnyH_take (i := 16) (oi := ⟨some 97, _, _, _, _, _⟩) (v := ?_) rfl (by kernel_rfl) (by kernel_rfl) (by kernel_rfl) (fun _ _ _ h => h) (Or.inl ⟨by kernel_rfl, ?_⟩) (by assumption) ?_
      rotate_left 1
      · (intro w hSw; (try dsimp only at hSw); go_simp) <;> (with_reducible rfl)
      (try simp only [Act.put, List.setIfInBounds_toArray, List.set_cons_succ, List.set_cons_zero])
      refine wpAnyH_take (i := 17) (oi := ⟨some 98, _, _, _, _, _⟩) (v := ?_) rfl (by kernel_rfl) (by kernel_rfl) (by kernel_rfl) (fun _ _ _ h => h) (Or.inl ⟨by kernel_rfl, ?_⟩) (by assumption) ?_
      rotate_left 1
      · (intro w hSw; (try dsimp only at hSw); go_simp) <;> (with_reducible rfl)
      (try simp only [Act.put, List.setIfInBounds_toArray, List.set_cons_succ, List.set_cons_zero])
      refine wpAnyH_done (by kernel_rfl) ?_ _
      refine NoPanic.normal ?_
      go_wp2
      go_roundw
      case rel => exact ⟨k + 1, by omega, by go_num, KK⟩
      case measure => simp [intOf]; omega
    · obtain rfl : k = 4 := by omega
      obtain ⟨z0, z1, z2, z3, z4, _⟩ := S16.out wr KW.out
      obtain ⟨q0, q1, q2, q3⟩ := box4_cells (BQ.out.below KW.out)
      go_wp2_with fail
      refine (SN.out wr KW.out).mono ?_
      rintro e w7 ⟨v7, rfl, ho7, hb7⟩
      obtain ⟨ub, uc, uq, rfl, ob, oc, oq⟩ := ho7
      obtain ⟨G1, k1, rfl, _⟩ := ob.form
      obtain ⟨G2, k2, rfl, _⟩ := oc.form
      obtain ⟨G3, k3, rfl, _⟩ := oq.form
      have MO := bal hb7 (.cells #[.int .i64 F.dep, .int .i64 F.nxt, .slice G1 F.bl.length k1, .slice G2 F.ca.length k2, .slice G3 F.qu.length k3] 28)
      have K7 := hide (btrans K5.out (btrans KW.out MO))
      have BA := hide (Box.new w7 28 #[.int .i64 F.dep, .int .i64 F.nxt, .slice G1 F.bl.length k1, .slice G2 F.ca.length k2, .slice G3 F.qu.length k3])
      have BX7 := hide (BX5.out.below (btrans KW.out MO))
      clear ob oc oq hb7 MO z0 z1 z2 z3 z4 q0 q1 q2 q3
      go_upto_region 20 with fail
      obtain ⟨ga, hga⟩ : ∃ ga, ga = w7.heap.size := ⟨_, rfl⟩
      rw [← hga] at BA ⊢
      generalize w7.alloc (.cells #[.int .i64 F.dep, .int .i64 F.nxt, .slice G1 F.bl.length k1, .slice G2 F.ca.length k2, .slice G3 F.qu.length k3] 28) = w8 at *
      clear hga
      have b4 := BA.out.cell 4
      have d1' := BX7.out.cell 1
      have d4' := BX7.out.cell 4
      simp at b4 d1' d4'
      have fq := FQ.out
      have fn := FN.out
      go_wp2
      go_ret
      exact ⟨rfl, K7.out⟩
end Go.Proofs.Ytnegigcjeoenmaa.Dv
