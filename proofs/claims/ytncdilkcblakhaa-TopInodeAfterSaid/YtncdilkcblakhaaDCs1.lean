import Derived.Test.YtncdilkcblakhaaDLo1
namespace Go.Proofs.Ytncdilkcblakhaa.Dv
open Go Go.RowKit
set_option linter.unusedVariables false
/-- the blocks behind the first k picks -/
def crK (ps : List Bool) (C : List Ca) (L : List By) : Nat → List By
  | 0 => L
  | k + 1 => if ps.getD k false then (crK ps C L k).set (cAt C k).1.toNat (cAt C k).2 else crK ps C L k
theorem crK_len (ps : List Bool) (C : List Ca) (L : List By) : ∀ k, (crK ps C L k).length = L.length
  | 0 => rfl
  | k + 1 => by
    unfold crK
    by_cases h : ps.getD k false = true
    · rw [if_pos h, List.length_set, crK_len ps C L k]
    · rw [if_neg h, crK_len ps C L k]
def crD (D : Dev) (ps : List Bool) : Dev := ⟨D.dep, D.nxt, crK ps (losK D.ca D.qu D.qu.length) D.bl (losK D.ca D.qu D.qu.length).length, [], []⟩
/-- bools that can be read -/
def RdT (w : World) (A : Option Addr) (L : List Bool) : Prop :=
  L ≠ [] → ∃ b off, A = some ⟨b, off, none⟩ ∧ b < w.heap.size ∧ ∀ k, k < L.length → w.cell? ⟨b, off + k, none⟩ = some (.bool (L.getD k false))
theorem RdT.cells {w w' : World} {A : Option Addr} {L : List Bool} (h : RdT w A L) (hb : Below w.heap.size w w') {k : Nat} (hk : k < L.length) : ∃ b off, A = some ⟨b, off, none⟩ ∧ b < w.heap.size ∧ w'.cell? ⟨b, off + k, none⟩ = some (.bool (L.getD k false)) := by
  obtain ⟨b, off, e, hl, hc⟩ := h (by rintro rfl; simp at hk)
  exact ⟨b, off, e, hl, (hb.cell (p := ⟨b, _, none⟩) hl).trans (hc k hk)⟩
theorem los_keys {D : Dev} (h : chk D = 0) : ∀ c ∈ losK D.ca D.qu D.qu.length, 0 ≤ c.1 ∧ c.1 < D.bl.length := by
  intro c hc
  unfold losK at hc
  rcases List.mem_append.1 hc with hc | hc
  · obtain ⟨i, hi, rfl⟩ := List.mem_iff_getElem.1 hc
    have := keys_ok h i hi
    rw [cAt_get hi] at this
    exact ⟨this.1, this.2.1⟩
  · obtain ⟨q, hq, rfl⟩ := List.mem_map.1 hc
    have hq := List.mem_of_mem_take (List.mem_filter.1 hq).1
    obtain ⟨i, hi, rfl⟩ := List.mem_iff_getElem.1 hq
    have h5 := firstBad_zero (chk_zero h).2.2.2.2 i hi
    have hr : rqE D.bl.length (qAt D.qu i) = 0 := by
      by_cases c : rqE D.bl.length (qAt D.qu i) = 0
      · exact c
      · unfold q1E at h5; rw [if_neg c] at h5; exact absurd h5 c
    rw [qAt_get hi] at hr
    have := (req_len hr).2
    unfold inB at this
    simpa using this
theorem OwnB.put {B : Nat} {w : World} {v u : Value} {L : List By} {i : Nat} {x : By} (h : OwnB B w v L) (hi : i < L.length) (hu : OwnBy w u x) :
    ∃ g c, v = .slice (some ⟨g, 0, none⟩) L.length c ∧ L.length ≤ c ∧ B ≤ g ∧ (∃ y, w.cell? ⟨g, i, none⟩ = some y) ∧ w.frozen? ⟨g, i, none⟩ = false ∧ Kp B 23 w (w.setCell ⟨g, i, none⟩ u) ∧ OwnB B (w.setCell ⟨g, i, none⟩ u) v (L.set i x) := by
  obtain ⟨R, e, hr, ho⟩ := h
  have hl : R.length = L.length := by rw [← e, List.length_map]
  obtain ⟨hlen, h0 | ⟨g, cap, cur, rfl, hgB, hh, h4, h5, h6, ht⟩⟩ := hr
  · omega
  have hX : Box w g 23 cur := hh
  have hk : Kp B 23 w (w.setCell ⟨g, i, none⟩ u) := Kp.boxset hX hgB i u
  refine ⟨g, cap, rfl, h4, hgB, ?_, hX.frozen i, hk, R.set i (x, u), by rw [List.map_set, e], ?_, ?_⟩
  · have := hX.cell i
    rw [Array.getElem?_eq_getElem (by omega)] at this
    exact ⟨_, this⟩
  · refine ⟨by rw [cB_length, List.length_set, List.length_set, hl, Nat.mul_one], .inr ⟨g, cap, cur.setIfInBounds i u, by rw [List.length_set], hgB, hX.put i u, by rw [List.length_set]; exact h4, h5, by simpa using h6, ?_⟩⟩
    rw [List.length_set, Array.toList_setIfInBounds, List.take_set, ht]
    unfold cB
    rw [List.map_set]
  · intro r hr
    rcases List.mem_or_eq_of_mem_set hr with h | h
    · exact (ho r h).kp hk (by decide)
    · rw [h]; exact hu.kp hk (by decide)
/-- a block of the copy is overwritten -/
theorem Cl.setB {w W : World} {bs br bo : Nat} {src zer : Array Value} {d n : Int} {vb vc vq : Value} {LB : List By} {LC : List Ca} {LQ : List Rq} {u : Value} {x : By} {i : Nat} (h : Cl w bs br bo src zer d n vb vc vq LB LC LQ W) (hi : i < LB.length) (hu : OwnBy W u x) :
    ∃ g c, vb = .slice (some ⟨g, 0, none⟩) LB.length c ∧ LB.length ≤ c ∧ (∃ y, W.cell? ⟨g, i, none⟩ = some y) ∧ W.frozen? ⟨g, i, none⟩ = false ∧ Kp w.heap.size 23 W (W.setCell ⟨g, i, none⟩ u) ∧ Cl w bs br bo src zer d n vb vc vq (LB.set i x) LC LQ (W.setCell ⟨g, i, none⟩ u) := by
  obtain ⟨g, c, e, hc, hB, hy, hf, hk, ho⟩ := h.ob.put hi hu
  exact ⟨g, c, e, hc, hy, hf, hk, ⟨h.below.trans hk.below, h.src.kp hk (by decide), h.res.kp hk (by decide), h.out.kp hk (by decide), ho, h.oc.kp hk (by decide) (by decide), h.oq.kp hk (by decide) (by decide)⟩⟩
set_option maxHeartbeats 2000000 in
set_option maxRecDepth 100000 in
theorem crash_any (v : Value) (D : Dev) (Ap : Option Addr) (ps : List Bool) (cp : Nat) (w : World) (h : DevIn w v D) (hB : Big D) (hp : RdT w Ap ps) (hpl : ps.length ≤ 9223372036854775807) :
    Calls Try.prog 32 #[v, .slice Ap ps.length cp] w (DvR2 (if chk D = 0 then crD D ps else zeroD) (chk D) w) := by
  obtain ⟨Ab, cb, Ac, cc, Aq, cq, rfl, h1, h2, h3, rb, rc, rq⟩ := h
  obtain ⟨W0, hW0⟩ : ∃ W0, W0 = (w.alloc (.cells #[.int .i64 D.dep, .int .i64 D.nxt, .slice Ab D.bl.length cb, .slice Ac D.ca.length cc, .slice Aq D.qu.length cq] 57)).alloc (.cells #[.int .i64 0, .int .i64 0, .slice none 0 0, .slice none 0 0, .slice none 0 0] 57) := ⟨_, rfl⟩
  have K0 := hide (show Below w.heap.size w W0 by rw [hW0]; exact bal (bal (brefl w) _) _)
  have X := hide (show Box W0 w.heap.size 57 #[.int .i64 D.dep, .int .i64 D.nxt, .slice Ab D.bl.length cb, .slice Ac D.ca.length cc, .slice Aq D.qu.length cq] by rw [hW0]; exact (Box.new w 57 _).more _)
  have Y := hide (show Box W0 (w.heap.size + 1) 57 #[.int .i64 0, .int .i64 0, .slice none 0 0, .slice none 0 0, .slice none 0 0] by rw [hW0]; exact Box.new2 _ _ _ _)
  have IN := hide (show DevIn w (.agg #[.int .i64 D.dep, .int .i64 D.nxt, .slice Ab D.bl.length cb, .slice Ac D.ca.length cc, .slice Aq D.qu.length cq]) D from ⟨Ab, cb, Ac, cc, Aq, cq, rfl, h1, h2, h3, rb, rc, rq⟩)
  have C1 := hide (fun W (hb : Below W0.heap.size W0 W) => check_any _ D W (IN.out.below (btrans K0.out hb)) hB)
  have HP := hide hp
  have HW := hide hW0
  clear rb rc rq hp
  by_cases e1 : chk D = 0
  · rw [if_pos e1, e1]
    rw [e1] at C1
    have S := hide (sm_ok e1)
    have LK := hide (los_keys e1)
    have hlc : (losK D.ca D.qu D.qu.length).length ≤ 2000 := by have := losK_len D.ca D.qu D.qu.length; have := S.out.ca; have := S.out.qu; omega
    have CC := hide (fun W (hb : Below W0.heap.size W0 W) => clone_dev _ D W (IN.out.below (btrans K0.out hb)) S.out)
    unfold DvR at CC
    have hlca := S.out.ca
    have hlqu := S.out.qu
    unfold crD
    obtain ⟨C, hC⟩ : ∃ C, C = losK D.ca D.qu D.qu.length := ⟨_, rfl⟩
    rw [← hC] at LK hlc ⊢
    have HC := hide hC
    clear e1 hW0 hC
    go_enter Try.func32, Try.ntmps32
    go_wp2_with fail
    rw [← HW.out]
    refine (C1.out _ (brefl _)).mono ?_
    rintro e w1 ⟨rfl, hb⟩
    have K := hide hb
    clear hb
    obtain ⟨x0, x1, x2, x3, x4⟩ := box5_cells (W' := w1) (X.out.below K.out)
    go_wp2_with fail
    refine (CC.out _ K.out).mono ?_
    rintro e w2 ⟨v2, rfl, ho, hb⟩
    obtain ⟨vb, vc, vq, rfl, ob, oc, oq⟩ := ho
    obtain ⟨E1, g1, rfl, _⟩ := ob.form
    obtain ⟨E2, g2, rfl, _⟩ := oc.form
    obtain ⟨E3, g3, rfl, _⟩ := oq.form
    have K2 := hide (btrans K.out hb)
    have hw1 : w.heap.size ≤ w1.heap.size := Nat.le_trans K0.out.size K.out.size
    have CL0 := hide (show Cl w w.heap.size (w.heap.size + 1) w2.heap.size #[.int .i64 D.dep, .int .i64 D.nxt, .slice Ab D.bl.length cb, .slice Ac D.ca.length cc, .slice Aq D.qu.length cq] #[.int .i64 0, .int .i64 0, .slice none 0 0, .slice none 0 0, .slice none 0 0] D.dep D.nxt (.slice E1 D.bl.length g1) (.slice E2 D.ca.length g2) (.slice E3 D.qu.length g3) D.bl D.ca D.qu (w2.alloc (.cells #[.int .i64 D.dep, .int .i64 D.nxt, .slice E1 D.bl.length g1, .slice E2 D.ca.length g2, .slice E3 D.qu.length g3] 57)) from
      ⟨bal (btrans K0.out K2.out) _, (X.out.below K2.out).more _, (Y.out.below K2.out).more _, Box.new _ _ _, (ob.mono hw1).below (bal (brefl _) _), (oc.mono hw1).below (bal (brefl _) _), (oq.mono hw1).below (bal (brefl _) _)⟩)
    have hz2 : w.heap.size + 1 < w2.heap.size := Nat.lt_of_lt_of_le Y.out.lt K2.out.size
    have hos : w.heap.size ≠ w2.heap.size := by omega
    have hor : w.heap.size + 1 ≠ w2.heap.size := by omega
    have hwo : w.heap.size ≤ w2.heap.size := by omega
    clear ob oc oq hb x0 x1 x2 x3 x4
    go_wp2_with fail
    obtain ⟨bo, hbo⟩ : ∃ bo, bo = w2.heap.size := ⟨_, rfl⟩
    rw [← hbo] at CL0 hos hor hwo hz2 ⊢
    generalize w2.alloc (.cells #[.int .i64 D.dep, .int .i64 D.nxt, .slice E1 D.bl.length g1, .slice E2 D.ca.length g2, .slice E3 D.qu.length g3] 57) = wz at *
    clear hbo
    have CLO := hide (los_any (OwnBy wz) (ownby_slc wz) D.dep D.nxt (.slice E1 D.bl.length g1) E2 D.ca g2 E3 D.qu g3 wz CL0.out.oc.cp CL0.out.oq.qp hlca hlqu)
    unfold CaR at CLO
    rw [← HC.out] at CLO
    have CLK0 := hide (show Cl w w.heap.size (w.heap.size + 1) bo #[.int .i64 D.dep, .int .i64 D.nxt, .slice Ab D.bl.length cb, .slice Ac D.ca.length cc, .slice Aq D.qu.length cq] #[.int .i64 0, .int .i64 0, .slice none 0 0, .slice none 0 0, .slice none 0 0] D.dep D.nxt (.slice E1 D.bl.length g1) (.slice E2 D.ca.length g2) (.slice E3 D.qu.length g3) (crK ps C D.bl 0) D.ca D.qu wz from CL0.out)
    clear CL0 HC
    refine CLO.out.mono ?_
    rintro e w3 ⟨lv, R, rfl, hR, hrow, hPo, hb⟩
    have hRl : R.length = C.length := by rw [← hR, List.length_map]
    obtain ⟨Al, cl, rfl, _⟩ := row_form hrow
    have hwz : w.heap.size ≤ wz.heap.size := CLK0.out.below.size
    replace CLK0 := hide (CLK0.out.on hb)
    have ROW := hide (row_mono hrow hwz)
    have PO := hide (show ∀ r ∈ R, OwnBy w3 r.2.2 r.2.1 from fun r hr => (hPo r hr).below hb)
    have HR := hide hR
    clear hb hrow hPo hR
    go_wp2
    go_loopw [8, 9, 21] (fun _ _ i wr => ∃ k : Nat, k ≤ C.length ∧ i = .int .i64 k ∧ Hid (Cl w w.heap.size (w.heap.size + 1) bo #[.int .i64 D.dep, .int .i64 D.nxt, .slice Ab D.bl.length cb, .slice Ac D.ca.length cc, .slice Aq D.qu.length cq] #[.int .i64 0, .int .i64 0, .slice none 0 0, .slice none 0 0, .slice none 0 0] D.dep D.nxt (.slice E1 D.bl.length g1) (.slice E2 D.ca.length g2) (.slice E3 D.qu.length g3) (crK ps C D.bl k) D.ca D.qu wr) ∧ Hid (wr.ownsRow w.heap.size 89 2 (.slice Al C.length cl) C.length (cC R)) ∧ Hid (∀ r ∈ R, OwnBy wr r.2.2 r.2.1)) (fun _ _ i _ => C.length - (intOf i).toNat)
    case atStart => exact ⟨0, Nat.zero_le _, rfl, CLK0, ROW, PO⟩
    case round =>
      clear CLK0 ROW PO
      obtain ⟨k, hk, rfl, CL, ROW, PO⟩ := hrel
      by_cases hlt : k < C.length
      · have hkR : k < R.length := by omega
        obtain ⟨g, rfl, hg, hgB, hcell, _⟩ := row_cell ROW.out (by omega)
        obtain ⟨t0, t1⟩ := cC_at hkR
        have c0 := hcell _ _ t0
        have c1 := hcell _ _ t1
        obtain ⟨⟨z, l, u⟩, hr⟩ : ∃ r, r = R[k] := ⟨_, rfl⟩
        have hm : (z, l, u) ∈ R := by rw [hr]; exact List.getElem_mem hkR
        have hck : cAt C k = (z, l) := by rw [cAt_get hlt]; simp only [← HR.out]; rw [List.getElem_map, ← hr]; rfl
        rw [← hr] at c0 c1
        simp only at c0 c1
        have hu := PO.out _ hm
        simp only at hu
        obtain ⟨A1, d1, rfl⟩ := hu.form
        have hz := LK.out _ (cAt_mem hlt)
        rw [hck] at hz
        obtain ⟨n, rfl⟩ := Int.eq_ofNat_of_zero_le hz.1
        have hn : n < D.bl.length := by have := hz.2; omega
        have BX := hide (Box.new wr 89 #[.int .i64 n, .slice A1 l.length d1])
        have CLA := hide (CL.out.alloc (.cells #[.int .i64 n, .slice A1 l.length d1] 89))
        have ROWA := hide (row_below ROW.out (bal (brefl wr) (.cells #[.int .i64 n, .slice A1 l.length d1] 89)))
        have POA := hide (show ∀ r ∈ R, OwnBy (wr.alloc (.cells #[.int .i64 n, .slice A1 l.length d1] 89)) r.2.2 r.2.1 from fun r hr => (PO.out r hr).below (bal (brefl wr) _))
        have HUA := hide (hu.below (bal (brefl wr) (.cells #[.int .i64 n, .slice A1 l.length d1] 89)))
        have CK := hide (show crK ps C D.bl (k + 1) = if ps.getD k false then (crK ps C D.bl k).set n l else crK ps C D.bl k by
          show (if ps.getD k false then (crK ps C D.bl k).set (cAt C k).1.toNat (cAt C k).2 else crK ps C D.bl k) = _
          rw [hck]; rfl)
        have LEN := hide (crK_len ps C D.bl k)
        clear hr hm hck hu hz t0 t1 hcell
        by_cases hkp : k < ps.length
        · obtain ⟨pb, po, rfl, hpb, p0⟩ := HP.out.cells CL.out.below hkp
          have hpb2 : pb < wr.heap.size := Nat.lt_of_lt_of_le hpb CL.out.below.size
          have hdk : decide ((k : Int) < (ps.length : Int)) = true := decide_eq_true (by omega)
          cases hb : ps.getD k false with
          | true =>
            rw [hb] at p0 CK
            obtain ⟨gb, cb', hvb, hcap, ⟨y, hy⟩, hfr, hkp35, hset⟩ := CLA.out.setB (by rw [LEN.out]; exact hn) HUA.out
            injection hvb with hv1 hv2 hv3
            subst hv1 hv3
            have SET := hide hset
            have KP := hide hkp35
            have o2 := CLA.out.out.cell 2
            simp at o2
            have LE2 := LEN.out
            rw [LE2] at hcap
            have hnn : (0 : Int) ≤ (n : Int) := by omega
            clear hset hkp35 hb LE2 hv2
            go_wp2
            go_roundw
            case rel => exact ⟨k + 1, by omega, by go_num, hide (by rw [CK.out]; exact SET.out), hide (row_kp ROWA.out KP.out (by decide)), hide fun r hr => (POA.out r hr).kp KP.out (by decide)⟩
            case measure => simp [intOf]; omega
          | false =>
            rw [hb] at p0 CK
            clear hb
            go_wp2
            go_roundw
            case rel => exact ⟨k + 1, by omega, by go_num, hide (by rw [CK.out]; exact CLA.out), ROWA, POA⟩
            case measure => simp [intOf]; omega
        · have hdk : decide ((k : Int) < (ps.length : Int)) = false := decide_eq_false (by omega)
          have hb : ps.getD k false = false := by rw [List.getD_eq_getElem?_getD, List.getElem?_eq_none (by omega)]; rfl
          rw [hb] at CK
          clear hb
          go_wp2
          go_roundw
          case rel => exact ⟨k + 1, by omega, by go_num, hide (by rw [CK.out]; exact CLA.out), ROWA, POA⟩
          case measure => simp [intOf]; omega
      · obtain rfl : k = C.length := by omega
        have LEN := hide (crK_len ps C D.bl C.length)
        obtain ⟨o0, o1, o2, o3, o4⟩ := box5_cells (W' := wr) CL.out.out
        obtain ⟨r0, r1, r2, r3, r4⟩ := box5_cells (W' := wr) CL.out.res
        have fo3 := CL.out.out.frozen 3
        have fo4 := CL.out.out.frozen 4
        have f0 := CL.out.res.frozen 0
        have f1 := CL.out.res.frozen 1
        have f2 := CL.out.res.frozen 2
        have f3 := CL.out.res.frozen 3
        have f4 := CL.out.res.frozen 4
        go_wp2
        have R1 := hide (((CL.out.res.far (i := 3) hor (.slice none 0 0)).far (i := 4) hor (.slice none 0 0)))
        have KK := hide ((Kp.boxset (B := w.heap.size) CL.out.out hwo 3 (.slice none 0 0)).trans (Kp.boxset (B := w.heap.size) (CL.out.out.put 3 (.slice none 0 0)) hwo 4 (.slice none 0 0)))
        have KS := hide (KK.out.trans (kp_set5 (B := w.heap.size) R1.out (Nat.le_succ _) (.int .i64 D.dep) (.int .i64 D.nxt) (.slice E1 D.bl.length g1) (.slice none 0 0) (.slice none 0 0)))
        exact ret_d2 Try.results32 rfl rfl rfl (R1.out.set5 _ _ _ _ _) ⟨_, rfl, ⟨_, _, _, rfl, CL.out.ob.kp KS.out (by decide) (by decide), OwnC.nil _ _, OwnQ.nil _ _⟩, CL.out.below.trans KS.out.below⟩
  · rw [if_neg e1]
    have hd : (chk D != 0) = true := by simpa using e1
    generalize chk D = er at *
    clear e1 hW0 hB
    generalize D.nxt = nxt at *
    generalize D.dep = dep at *
    go_enter Try.func32, Try.ntmps32
    go_wp2_with fail
    rw [← HW.out]
    refine (C1.out _ (brefl _)).mono ?_
    rintro e w1 ⟨rfl, hb⟩
    have K := hide hb
    clear hb
    have Y1 := hide (Y.out.below K.out)
    obtain ⟨r0, r1, r2, r3, r4⟩ := box5_cells (W' := w1) Y1.out
    have f0 := Y1.out.frozen 0
    have f1 := Y1.out.frozen 1
    have f2 := Y1.out.frozen 2
    have f3 := Y1.out.frozen 3
    have f4 := Y1.out.frozen 4
    go_wp2
    have KS := hide (kp_set5 (B := w.heap.size) Y1.out (Nat.le_succ _) (.int .i64 0) (.int .i64 0) (.slice none 0 0) (.slice none 0 0) (.slice none 0 0))
    exact ret_d2 Try.results32 rfl rfl rfl (Y1.out.set5 _ _ _ _ _) ⟨_, rfl, DevOwn.zero _ _, (btrans K0.out K.out).trans KS.out.below⟩
end Go.Proofs.Ytncdilkcblakhaa.Dv
