import Derived.Test.YtnegigcjeoenmaaPk1
import Derived.Test.YtnegigcjeoenmaaRc2
import Derived.Test.YtnegigcjeoenmaaCp1
namespace Go.Proofs.Ytnegigcjeoenmaa.Dv
open Go Go.RowKit
set_option linter.unusedVariables false
theorem RdT.below {w w' : World} {A : Option Addr} {L : List Bool} (h : RdT w A L) (hb : Below w.heap.size w w') : RdT w' A L := fun hn => by
  obtain ⟨b, off, e, hl, hc⟩ := h hn
  exact ⟨b, off, e, Nat.lt_of_lt_of_le hl hb.size, fun k hk => (hb.cell (p := ⟨b, _, none⟩) hl).trans (hc k hk)⟩
theorem los_at1 {ca : List Ca} {qu : List Rq} {k m : Nat} (hk : k < ca.length) : cAt (losK ca qu m) k = cAt ca k := by
  unfold cAt losK
  rw [List.getD_eq_getElem?_getD, List.getD_eq_getElem?_getD, List.getElem?_append_left hk]
theorem los_pre {ca : List Ca} {qu : List Rq} {j m : Nat} (h : j ≤ m) : ∃ r, losK ca qu m = losK ca qu j ++ r := by
  refine ⟨(((qu.take m).drop j).filter fun q => q.2.1 == 2).map fun q => (q.2.2.1, q.2.2.2), ?_⟩
  unfold losK
  rw [List.append_assoc, ← List.map_append, ← List.filter_append]
  congr 3
  have : qu.take j = (qu.take m).take j := by rw [List.take_take, Nat.min_eq_left h]
  rw [this, List.take_append_drop]
theorem los_at2 {ca : List Ca} {qu : List Rq} {k m : Nat} (hk : k < qu.length) (h : (qAt qu k).2.1 = 2) (hm : k + 1 ≤ m) : cAt (losK ca qu m) (losK ca qu k).length = ((qAt qu k).2.2.1, (qAt qu k).2.2.2) := by
  obtain ⟨r, hr⟩ := los_pre (ca := ca) (qu := qu) hm
  rw [hr, losK_hit hk h]
  unfold cAt
  rw [List.getD_eq_getElem?_getD, List.append_assoc, List.getElem?_append_right (Nat.le_refl _), Nat.sub_self]
  rfl
theorem los_len2 {ca : List Ca} {qu : List Rq} {k m : Nat} (hm : k ≤ m) : (losK ca qu k).length ≤ (losK ca qu m).length := by
  obtain ⟨r, hr⟩ := los_pre (ca := ca) (qu := qu) hm
  rw [hr, List.length_append]; omega
theorem q_ok {D : Dev} (h : chk D = 0) {i : Nat} (hi : i < D.qu.length) : reqE D.bl.length (qAt D.qu i).2.1 (qAt D.qu i).2.2.1 (qAt D.qu i).2.2.2.length = 0 := by
  have h5 := firstBad_zero (chk_zero h).2.2.2.2 i hi
  by_cases c : rqE D.bl.length (qAt D.qu i) = 0
  · exact c
  · unfold q1E at h5; rw [if_neg c] at h5; exact absurd h5 c
theorem q_in {D : Dev} (h : chk D = 0) {i : Nat} (hi : i < D.qu.length) : 0 ≤ (qAt D.qu i).2.2.1 ∧ (qAt D.qu i).2.2.1 < D.bl.length := by
  have := (req_len (q_ok h hi)).2
  unfold inB at this
  simpa using this
set_option maxHeartbeats 4000000 in
set_option maxRecDepth 100000 in
theorem rcrash_any (v : Value) (D : Dev) (Ap : Option Addr) (ps : List Bool) (cp : Nat) (w : World) (h : DevIn w v D) (hB : Big D) (hp : RdT w Ap ps) (hpl : ps.length ≤ 9223372036854775807) :
    Calls Try.prog 29 #[v, .slice Ap ps.length cp] w (DvR2 (if chk D = 0 then crD D ps else zeroD) (chk D) w) := by
  obtain ⟨Ab, cb, Ac, cc, Aq, cq, rfl, h1, h2, h3, rb, rc, rq⟩ := h
  obtain ⟨W0, hW0⟩ : ∃ W0, W0 = (w.alloc (.cells #[.int .i64 D.dep, .int .i64 D.nxt, .slice Ab D.bl.length cb, .slice Ac D.ca.length cc, .slice Aq D.qu.length cq] 28)).alloc (.cells #[.int .i64 0, .int .i64 0, .slice none 0 0, .slice none 0 0, .slice none 0 0] 28) := ⟨_, rfl⟩
  have K0 := hide (show Below w.heap.size w W0 by rw [hW0]; exact bal (bal (brefl w) _) _)
  have X := hide (show Box W0 w.heap.size 28 #[.int .i64 D.dep, .int .i64 D.nxt, .slice Ab D.bl.length cb, .slice Ac D.ca.length cc, .slice Aq D.qu.length cq] by rw [hW0]; exact (Box.new w 28 _).more _)
  have Y := hide (show Box W0 (w.heap.size + 1) 28 #[.int .i64 0, .int .i64 0, .slice none 0 0, .slice none 0 0, .slice none 0 0] by rw [hW0]; exact Box.new2 _ _ _ _)
  have IN := hide (show DevIn w (.agg #[.int .i64 D.dep, .int .i64 D.nxt, .slice Ab D.bl.length cb, .slice Ac D.ca.length cc, .slice Aq D.qu.length cq]) D from ⟨Ab, cb, Ac, cc, Aq, cq, rfl, h1, h2, h3, rb, rc, rq⟩)
  have C1 := hide (fun W (hb : Below W0.heap.size W0 W) => rcheck_any _ D W (IN.out.below (btrans K0.out hb)) hB)
  have HP := hide hp
  have HW := hide hW0
  have RC := hide rc
  have RQ := hide rq
  clear rb rc rq hp
  by_cases e1 : chk D = 0
  · rw [if_pos e1, e1]
    rw [e1] at C1
    have S := hide (sm_ok e1)
    have hlca := S.out.ca
    have hlqu := S.out.qu
    have CC := hide (fun W (hb : Below W0.heap.size W0 W) => copy_dev _ D W (IN.out.below (btrans K0.out hb)) S.out)
    unfold DvR at CC
    have NE : D.bl.length ≠ 0 := by have := (nwE_ok (chk_zero e1).2.1).1; omega
    have KO := hide (fun k (hk : k < D.ca.length) => (keys_ok e1 k hk))
    have QO := hide (fun k (hk : k < D.qu.length) => q_in e1 hk)
    have LB1 := hide (fun k (hk : k < D.ca.length) => S.out.cb _ (cAt_mem hk))
    have LB2 := hide (fun k (hk : k < D.qu.length) => S.out.qb _ (qAt_mem hk))
    unfold crD
    obtain ⟨C, hC⟩ : ∃ C, C = losK D.ca D.qu D.qu.length := ⟨_, rfl⟩
    rw [← hC]
    have HC1 := hide (fun k (hk : k < D.ca.length) => (hC ▸ los_at1 hk : cAt C k = cAt D.ca k))
    have HC2 := hide (fun k (hk : k < D.qu.length) (h2 : (qAt D.qu k).2.1 = 2) => (hC ▸ los_at2 hk h2 (by omega) : cAt C (losK D.ca D.qu k).length = ((qAt D.qu k).2.2.1, (qAt D.qu k).2.2.2)))
    have HCl := hide (show C.length = (losK D.ca D.qu D.qu.length).length by rw [hC])
    have HPW := hide (fun W (hb : Below w.heap.size w W) (k : Nat) (hk : k ≤ 2000) => pick_any Ap ps cp k W (HP.out.below hb) hpl hk)
    clear e1 hW0 hC S
    go_enter Try.func29, Try.ntmps29
    go_wp2_with fail
    rw [← HW.out]
    refine (C1.out _ (brefl _)).mono ?_
    rintro e w1 ⟨rfl, hb⟩
    have K := hide hb
    clear hb
    obtain ⟨x0, x1, x2, x3, x4⟩ := box5_cells (W' := w1) (X.out.below K.out)
    go_wp2_with fail
    refine (CC.out _ K.out).mono ?_
    rintro e w2 ⟨v2, rfl, ho, hb⟩
    obtain ⟨vb, vc, vq, rfl, ob, oc, oq⟩ := ho
    obtain ⟨E1, g1, rfl, _⟩ := ob.form
    obtain ⟨gb, rfl⟩ : ∃ gb, E1 = some ⟨gb, 0, none⟩ := by
      obtain ⟨R, hR, hr, _⟩ := ob
      obtain ⟨g, e, _⟩ := row_cell hr NE
      exact ⟨g, e⟩
    obtain ⟨E2, g2, rfl, _⟩ := oc.form
    obtain ⟨E3, g3, rfl, _⟩ := oq.form
    have K2 := hide (btrans K.out hb)
    have hw1 : w.heap.size ≤ w1.heap.size := Nat.le_trans K0.out.size K.out.size
    have CL0 := hide (show Cl w w.heap.size (w.heap.size + 1) w2.heap.size #[.int .i64 D.dep, .int .i64 D.nxt, .slice Ab D.bl.length cb, .slice Ac D.ca.length cc, .slice Aq D.qu.length cq] #[.int .i64 0, .int .i64 0, .slice none 0 0, .slice none 0 0, .slice none 0 0] D.dep D.nxt (.slice (some ⟨gb, 0, none⟩) D.bl.length g1) (.slice E2 D.ca.length g2) (.slice E3 D.qu.length g3) (D.bl) D.ca D.qu (w2.alloc (.cells #[.int .i64 D.dep, .int .i64 D.nxt, .slice (some ⟨gb, 0, none⟩) D.bl.length g1, .slice E2 D.ca.length g2, .slice E3 D.qu.length g3] 28)) from
      ⟨bal (btrans K0.out K2.out) _, (X.out.below K2.out).more _, (Y.out.below K2.out).more _, Box.new _ _ _, (ob.mono hw1).below (bal (brefl _) _), (oc.mono hw1).below (bal (brefl _) _), (oq.mono hw1).below (bal (brefl _) _)⟩)
    have hz2 : w.heap.size + 1 < w2.heap.size := Nat.lt_of_lt_of_le Y.out.lt K2.out.size
    have hos : w.heap.size ≠ w2.heap.size := by omega
    have hor : w.heap.size + 1 ≠ w2.heap.size := by omega
    have hwo : w.heap.size ≤ w2.heap.size := by omega
    clear ob oc oq hb x0 x1 x2 x3 x4
    go_upto_region 7 with fail
    obtain ⟨bo, hbo⟩ : ∃ bo, bo = w2.heap.size := ⟨_, rfl⟩
    rw [← hbo] at CL0 hos hor hwo hz2 ⊢
    generalize w2.alloc (.cells #[.int .i64 D.dep, .int .i64 D.nxt, .slice (some ⟨gb, 0, none⟩) D.bl.length g1, .slice E2 D.ca.length g2, .slice E3 D.qu.length g3] 28) = wz at *
    clear hbo
    go_loopw [8, 9] (fun n i wr => ∃ k : Nat, k ≤ D.ca.length ∧ i = .int .i64 k ∧ n = .int .i64 k ∧ Hid (Cl w w.heap.size (w.heap.size + 1) bo #[.int .i64 D.dep, .int .i64 D.nxt, .slice Ab D.bl.length cb, .slice Ac D.ca.length cc, .slice Aq D.qu.length cq] #[.int .i64 0, .int .i64 0, .slice none 0 0, .slice none 0 0, .slice none 0 0] D.dep D.nxt (.slice (some ⟨gb, 0, none⟩) D.bl.length g1) (.slice E2 D.ca.length g2) (.slice E3 D.qu.length g3) (crK ps C D.bl k) D.ca D.qu wr)) (fun _ i _ => D.ca.length - (intOf i).toNat)
    case atStart => exact ⟨0, Nat.zero_le _, rfl, rfl, CL0⟩
    case round =>
      clear CL0
      obtain ⟨k, hk, rfl, rfl, CL⟩ := hrel
      have s3 := CL.out.src.cell 3
      simp at s3
      by_cases hlt : k < D.ca.length
      · have hlt1 : (k : Int) < (D.ca.length : Int) := by omega
        have hlt2 : ¬ (D.ca.length : Int) ≤ (k : Int) := by omega
        have hk0 : (0 : Int) ≤ (k : Int) := by omega
        have PK := HPW.out wr CL.out.below k (by omega)
        have HCK := HC1.out k hlt
        have LEN := hide (crK_len ps C D.bl k)
        cases hb : ps.getD k false with
        | true =>
          rw [hb] at PK
          obtain ⟨pb, po, u, rfl, hpb, c0, c1, hv⟩ := RC.out.cells CL.out.below hlt
          have hz := KO.out k hlt
          obtain ⟨⟨z, l⟩, hr⟩ : ∃ r, r = cAt D.ca k := ⟨_, rfl⟩
          have hll := LB1.out k hlt
          rw [← hr] at c0 hv hz hll HCK
          simp only at c0 hv hz hll
          obtain ⟨n, rfl⟩ := Int.eq_ofNat_of_zero_le hz.1
          have hn : n < D.bl.length := by have := hz.2.1; omega
          have CK := hide (show crK ps C D.bl (k + 1) = (crK ps C D.bl k).set n l by
            show (if ps.getD k false then (crK ps C D.bl k).set (cAt C k).1.toNat (cAt C k).2 else crK ps C D.bl k) = _
            rw [hb, HCK]; rfl)
          obtain ⟨A1, d1, rfl⟩ := hv.form
          have hv2 : IsBs wr.drew (.slice A1 l.length d1) l := hv.below (below_drew (brefl wr))
          have CB := hide (fun W (hb : Below wr.drew.heap.size wr.drew W) => rbytes_any _ l W (hv2.below hb) hll)
          unfold ByR at CB
          have RR := hide (fun W (hb : Below w.heap.size w W) => (by
            obtain ⟨pb', po', u', e', _, r0, r1, _⟩ := RC.out.cells hb hlt
            injection e' with e'
            injection e' with ea eb
            subst ea eb
            rw [← hr] at r0
            exact ⟨r0, ((hb.cell (p := ⟨pb, _, none⟩) hpb).trans ((CL.out.below.cell (p := ⟨pb, _, none⟩) hpb).symm.trans c1))⟩ : W.cell? ⟨pb, po + k * 2, none⟩ = some (.int .i64 n) ∧ W.cell? ⟨pb, po + k * 2 + 1, none⟩ = some (.slice A1 l.length d1)))
          have PKh := hide PK
          have hn0 : (0 : Int) ≤ (n : Int) := by omega
          have hn1 : (n : Int) < (D.bl.length : Int) := by omega
          clear hr hz hv hv2 hll HCK hb PK c0 c1
          go_wp2_with fail
          refine PKh.out.mono ?_
          rintro e w9 ⟨rfl, rfl⟩
          go_upto_region 10 with fail
          have CLD := hide CL.out.drew
          have CE := hide (fun (LB : List By) (W : World) (h : Cl w w.heap.size (w.heap.size + 1) bo #[.int .i64 D.dep, .int .i64 D.nxt, .slice Ab D.bl.length cb, .slice (some ⟨pb, po, none⟩) D.ca.length cc, .slice Aq D.qu.length cq] #[.int .i64 0, .int .i64 0, .slice none 0 0, .slice none 0 0, .slice none 0 0] D.dep D.nxt (.slice (some ⟨gb, 0, none⟩) D.bl.length g1) (.slice E2 D.ca.length g2) (.slice E3 D.qu.length g3) (LB) D.ca D.qu W) => (⟨h.out.cell 2, h.src.cell 3, RR.out W h.below⟩ : (fun W => W.cell? ⟨bo, 2, none⟩ = some (.slice (some ⟨gb, 0, none⟩) D.bl.length g1) ∧ W.cell? ⟨w.heap.size, 3, none⟩ = some (.slice (some ⟨pb, po, none⟩) D.ca.length cc) ∧ W.cell? ⟨pb, po + k * 2, none⟩ = some (.int .i64 n) ∧ W.cell? ⟨pb, po + k * 2 + 1, none⟩ = some (.slice A1 l.length d1)) W))
          refine wp_region_noPanic ?_
          refine wp_region_held_drew (S := (fun W => W.cell? ⟨bo, 2, none⟩ = some (.slice (some ⟨gb, 0, none⟩) D.bl.length g1) ∧ W.cell? ⟨w.heap.size, 3, none⟩ = some (.slice (some ⟨pb, po, none⟩) D.ca.length cc) ∧ W.cell? ⟨pb, po + k * 2, none⟩ = some (.int .i64 n) ∧ W.cell? ⟨pb, po + k * 2 + 1, none⟩ = some (.slice A1 l.length d1))) (by kernel_rfl) ?_ (fun hHeld => ?_)
          · exact CE.out _ _ CLD.out
          refine wpAnyH_take (i := 0) (oi := ⟨some 29, _, _, _, _, _⟩) (v := ?_) rfl (by kernel_rfl) (by kernel_rfl) (by kernel_rfl) (fun _ _ _ h => h) (Or.inl ⟨by kernel_rfl, ?_⟩) (by assumption) ?_
          rotate_left 1
          · (intro w hSw; (try dsimp only at hSw); go_simp) <;> (with_reducible rfl)
          (try simp only [Act.put, List.setIfInBounds_toArray, List.set_cons_succ, List.set_cons_zero])
          refine wpAnyH_take (i := 1) (oi := ⟨some 30, _, _, _, _, _⟩) (v := ?_) rfl (by kernel_rfl) (by kernel_rfl) (by kernel_rfl) (fun _ _ _ h => h) (Or.inl ⟨by kernel_rfl, ?_⟩) (by assumption) ?_
          rotate_left 1
          · (intro w hSw; (try dsimp only at hSw); go_simp) <;> (with_reducible rfl)
          (try simp only [Act.put, List.setIfInBounds_toArray, List.set_cons_succ, List.set_cons_zero])
          refine wpAnyH_take (i := 2) (oi := ⟨some 31, _, _, _, _, _⟩) (v := ?_) rfl (by kernel_rfl) (by kernel_rfl) (by kernel_rfl) (fun _ _ _ h => h) (Or.inl ⟨by kernel_rfl, ?_⟩) (by assumption) ?_
          rotate_left 1
          · (intro w hSw; (try dsimp only at hSw); go_simp) <;> (with_reducible rfl)
          (try simp only [Act.put, List.setIfInBounds_toArray, List.set_cons_succ, List.set_cons_zero])
          refine wpAnyH_take (i := 3) (oi := ⟨some 32, _, _, _, _, _⟩) (v := ?_) rfl (by kernel_rfl) (by kernel_rfl) (by kernel_rfl) (fun _ _ _ h => h) (Or.inl ⟨by kernel_rfl, ?_⟩) (by assumption) ?_
          rotate_left 1
          · (intro w hSw; (try dsimp only at hSw); go_simp) <;> (with_reducible rfl)
          (try simp only [Act.put, List.setIfInBounds_toArray, List.set_cons_succ, List.set_cons_zero])
          refine wpAnyH_take (i := 4) (oi := ⟨some 33, _, _, _, _, _⟩) (v := ?_) rfl (by kernel_rfl) (by kernel_rfl) (by kernel_rfl) (fun _ _ _ h => h) (Or.inl ⟨by kernel_rfl, ?_⟩) (by assumption) ?_
          rotate_left 1
          · (intro w hSw; (try dsimp only at hSw); go_simp) <;> (with_reducible rfl)
          (try simp only [Act.put, List.setIfInBounds_toArray, List.set_cons_succ, List.set_cons_zero])
          refine wpAnyH_take (i := 5) (oi := ⟨some 34, _, _, _, _, _⟩) (v := ?_) rfl (by kernel_rfl) (by kernel_rfl) (by kernel_rfl) (fun _ _ _ h => h) (Or.inl ⟨by kernel_rfl, ?_⟩) (by assumption) ?_
          rotate_left 1
          · (intro w hSw; (try dsimp only at hSw); go_simp) <;> (with_reducible rfl)
          (try simp only [Act.put, List.setIfInBounds_toArray, List.set_cons_succ, List.set_cons_zero])
          refine wpAnyH_take (i := 6) (oi := ⟨some 35, _, _, _, _, _⟩) (v := ?_) rfl (by kernel_rfl) (by kernel_rfl) (by kernel_rfl) (fun _ _ _ h => h) (Or.inl ⟨by kernel_rfl, ?_⟩) (by assumption) ?_
          rotate_left 1
          · (intro w hSw; (try dsimp only at hSw); go_simp) <;> (with_reducible rfl)
          (try simp only [Act.put, List.setIfInBounds_toArray, List.set_cons_succ, List.set_cons_zero])
          refine wpAnyH_take (i := 7) (oi := ⟨some 36, _, _, _, _, _⟩) (v := ?_) rfl (by kernel_rfl) (by kernel_rfl) (by kernel_rfl) (fun _ _ _ h => h) (Or.inl ⟨by kernel_rfl, ?_⟩) (by assumption) ?_
          rotate_left 1
          · (intro w hSw; (try dsimp only at hSw); go_simp) <;> (with_reducible rfl)
          (try simp only [Act.put, List.setIfInBounds_toArray, List.set_cons_succ, List.set_cons_zero])
          refine wpAnyH_take (i := 8) (oi := ⟨some 37, _, _, _, _, _⟩) (v := ?_) rfl (by kernel_rfl) (by kernel_rfl) (by kernel_rfl) (fun _ _ _ h => h) (Or.inl ⟨by kernel_rfl, ?_⟩) (by assumption) ?_
          rotate_left 1
          · (intro w hSw; (try dsimp only at hSw); go_simp) <;> (with_reducible rfl)
          (try simp only [Act.put, List.setIfInBounds_toArray, List.set_cons_succ, List.set_cons_zero])
          refine wpAnyH_take (i := 9) (oi := ⟨some 38, _, _, _, _, _⟩) (v := ?_) rfl (by kernel_rfl) (by kernel_rfl) (by kernel_rfl) (fun _ _ _ h => h) (Or.inl ⟨by kernel_rfl, ?_⟩) (by assumption) ?_
          rotate_left 1
          · (intro w hSw; (try dsimp only at hSw); go_simp) <;> (with_reducible rfl)
          (try simp only [Act.put, List.setIfInBounds_toArray, List.set_cons_succ, List.set_cons_zero])
          refine wpAnyH_take (i := 10) (oi := ⟨some 39, _, _, _, _, _⟩) (v := ?_) rfl (by kernel_rfl) (by kernel_rfl) (by kernel_rfl) (fun _ _ _ h => h) (Or.inl ⟨by kernel_rfl, ?_⟩) (by assumption) ?_
          rotate_left 1
          · (intro w hSw; (try dsimp only at hSw); go_simp) <;> (with_reducible rfl)
          (try simp only [Act.put, List.setIfInBounds_toArray, List.set_cons_succ, List.set_cons_zero])
          refine wpAnyH_take (i := 11) (oi := ⟨some 40, _, _, _, _, _⟩) (v := ?_) rfl (by kernel_rfl) (by kernel_rfl) (by kernel_rfl) (fun _ _ _ h => h) (Or.inl ⟨by kernel_rfl, ?_⟩) (by assumption) ?_
          rotate_left 1
          · (intro w hSw; (try dsimp only at hSw); go_simp) <;> (with_reducible rfl)
          (try simp only [Act.put, List.setIfInBounds_toArray, List.set_cons_succ, List.set_cons_zero])
          refine wpAnyH_take (i := 12) (oi := ⟨some 41, _, _, _, _, _⟩) (v := ?_) rfl (by kernel_rfl) (by kernel_rfl) (by kernel_rfl) (fun _ _ _ h => h) (Or.inl ⟨by kernel_rfl, ?_⟩) (by assumption) ?_
          rotate_left 1
          · (intro w hSw; (try dsimp only at hSw); go_simp) <;> (with_reducible rfl)
          (try simp only [Act.put, List.setIfInBounds_toArray, List.set_cons_succ, List.set_cons_zero])
          refine wpAnyH_take (i := 13) (oi := ⟨some 42, _, _, _, _, _⟩) (v := ?_) rfl (by kernel_rfl) (by kernel_rfl) (by kernel_rfl) (fun _ _ _ h => h) (Or.inl ⟨by kernel_rfl, ?_⟩) (by assumption) ?_
          rotate_left 1
          · (intro w hSw; (try dsimp only at hSw); go_simp) <;> (with_reducible rfl)
          (try simp only [Act.put, List.setIfInBounds_toArray, List.set_cons_succ, List.set_cons_zero])
          refine wpAnyH_ready (rs := [14]) (by kernel_rfl) (by simp) ?_
          refine AllReadyH.cons (o := _) rfl (fun K' hK => ?_) AllReadyH.nil
          go_simp
          refine (CB.out _ (brefl _)).mono ?_
          rintro e w3 ⟨v3, rfl, hob, hb3⟩
          obtain ⟨A3, d3, rfl⟩ := hob.form
          have HO := hide hob
          have CL3 := hide (CLD.out.on hb3)
          clear hob hb3
          obtain ⟨gb', cb', hvb, hcap, ⟨y, hy⟩, hfr, hkp35, hset⟩ := CL3.out.setB (by rw [LEN.out]; exact hn) HO.out
          have SET := hide hset
          injection hvb with hv1 hv2 hv3
          injection hv1 with hv1
          injection hv1 with hv1
          subst hv1
          clear hset hkp35 hcap hv2 hv3
          refine hK.out _ _ ?_ (fun hHeld => ?_)
          · exact CE.out _ _ CL3.out
          clear hK K'
          (try simp only [Act.put, List.setIfInBounds_toArray, List.set_cons_succ, List.set_cons_zero])
          refine wpAnyH_take (i := 15) (oi := ⟨some 44, _, _, _, _, _⟩) (v := ?_) rfl (by kernel_rfl) (by kernel_rfl) (by kernel_rfl) (fun _ _ _ h => h) (Or.inl ⟨by kernel_rfl, ?_⟩) (by assumption) ?_
          rotate_left 1
          · (intro w hSw; (try dsimp only at hSw); go_simp) <;> (with_reducible rfl)
          (try simp only [Act.put, List.setIfInBounds_toArray, List.set_cons_succ, List.set_cons_zero])
          refine wpAnyH_ready (rs := [16]) (by kernel_rfl) (by simp) ?_
          refine AllReadyH.cons (o := _) rfl (fun K' hK => ?_) AllReadyH.nil
          go_simp
          refine hK.out _ _ ?_ (fun hHeld => ?_)
          · exact CE.out _ _ SET.out
          clear hK K'
          (try simp only [Act.put, List.setIfInBounds_toArray, List.set_cons_succ, List.set_cons_zero])
          refine wpAnyH_done (by kernel_rfl) ?_ _
          refine NoPanic.normal ?_
          go_wp2
          go_roundw
          case rel => exact ⟨k + 1, by omega, by go_num, by go_num, hide (by rw [CK.out]; exact SET.out)⟩
          case measure => simp [intOf]; omega
        | false =>
          rw [hb] at PK
          have CK := hide (show crK ps C D.bl (k + 1) = crK ps C D.bl k by
            show (if ps.getD k false then (crK ps C D.bl k).set (cAt C k).1.toNat (cAt C k).2 else crK ps C D.bl k) = _
            rw [hb]; rfl)
          have PKh := hide PK
          clear hb PK
          go_wp2_with fail
          refine PKh.out.mono ?_
          rintro e w9 ⟨rfl, rfl⟩
          go_wp2
          go_roundw
          case rel => exact ⟨k + 1, by omega, by go_num, by go_num, hide (by rw [CK.out]; exact CL.out)⟩
          case measure => simp [intOf]; omega
      · obtain rfl : k = D.ca.length := by omega
        have L0 := hide (show (losK D.ca D.qu 0).length = D.ca.length from losK_len0 _ _)
        go_upto_region 13 with fail
        go_loopw [8, 10] (fun n i wr => ∃ k : Nat, k ≤ D.qu.length ∧ i = .int .i64 k ∧ n = .int .i64 ((losK D.ca D.qu k).length : Nat) ∧ Hid (Cl w w.heap.size (w.heap.size + 1) bo #[.int .i64 D.dep, .int .i64 D.nxt, .slice Ab D.bl.length cb, .slice Ac D.ca.length cc, .slice Aq D.qu.length cq] #[.int .i64 0, .int .i64 0, .slice none 0 0, .slice none 0 0, .slice none 0 0] D.dep D.nxt (.slice (some ⟨gb, 0, none⟩) D.bl.length g1) (.slice E2 D.ca.length g2) (.slice E3 D.qu.length g3) (crK ps C D.bl (losK D.ca D.qu k).length) D.ca D.qu wr)) (fun _ i _ => D.qu.length - (intOf i).toNat)
        case atStart => exact ⟨0, Nat.zero_le _, rfl, by rw [L0.out], hide (by rw [L0.out]; exact CL.out)⟩
        case round =>
          clear CL s3
          obtain ⟨k, hk, rfl, rfl, CL⟩ := hrel
          have s4 := CL.out.src.cell 4
          simp at s4
          by_cases hlt : k < D.qu.length
          · have hlt1 : (k : Int) < (D.qu.length : Int) := by omega
            have hlt2 : ¬ (D.qu.length : Int) ≤ (k : Int) := by omega
            have hk0 : (0 : Int) ≤ (k : Int) := by omega
            obtain ⟨pb, po, u, rfl, hpb, c0, c1, c2, c3, hv⟩ := RQ.out.cells CL.out.below hlt
            have hMl := losK_len D.ca D.qu k
            by_cases hq : (qAt D.qu k).2.1 = 2
            · have HM := hide (show (losK D.ca D.qu (k + 1)).length = (losK D.ca D.qu k).length + 1 by rw [losK_hit hlt hq, List.length_append]; rfl)
              have HCK := HC2.out k hlt hq
              rw [hq] at c1
              generalize (losK D.ca D.qu k).length = m at *
              have PK := HPW.out wr CL.out.below m (by omega)
              have LEN := hide (crK_len ps C D.bl m)
              cases hb : ps.getD m false with
              | true =>
                rw [hb] at PK
                have hz := QO.out k hlt
                obtain ⟨⟨z0, z1, z2, l⟩, hr⟩ : ∃ r, r = qAt D.qu k := ⟨_, rfl⟩
                have hll := LB2.out k hlt
                rw [← hr] at c0 c2 hv hz hll HCK
                simp only at c0 c2 hv hz hll HCK
                obtain ⟨n, rfl⟩ := Int.eq_ofNat_of_zero_le hz.1
                have hn : n < D.bl.length := by have := hz.2; omega
                have CK := hide (show crK ps C D.bl (m + 1) = (crK ps C D.bl m).set n l by
                  show (if ps.getD m false then (crK ps C D.bl m).set (cAt C m).1.toNat (cAt C m).2 else crK ps C D.bl m) = _
                  rw [hb, HCK]; rfl)
                obtain ⟨A1, d1, rfl⟩ := hv.form
                have hv2 : IsBs wr.drew (.slice A1 l.length d1) l := hv.below (below_drew (brefl wr))
                have CB := hide (fun W (hb : Below wr.drew.heap.size wr.drew W) => rbytes_any _ l W (hv2.below hb) hll)
                unfold ByR at CB
                have RR := hide (fun W (hb : Below w.heap.size w W) => (⟨(hb.cell (p := ⟨pb, _, none⟩) hpb).trans ((CL.out.below.cell (p := ⟨pb, _, none⟩) hpb).symm.trans c2), (hb.cell (p := ⟨pb, _, none⟩) hpb).trans ((CL.out.below.cell (p := ⟨pb, _, none⟩) hpb).symm.trans c3)⟩ : W.cell? ⟨pb, po + k * 4 + 2, none⟩ = some (.int .i64 n) ∧ W.cell? ⟨pb, po + k * 4 + 3, none⟩ = some (.slice A1 l.length d1)))
                have PKh := hide PK
                have hn0 : (0 : Int) ≤ (n : Int) := by omega
                have hn1 : (n : Int) < (D.bl.length : Int) := by omega
                clear hr hz hv hv2 hll HCK hb PK c0 c2 c3
                go_wp2_with fail
                refine PKh.out.mono ?_
                rintro e w9 ⟨rfl, rfl⟩
                go_upto_region 17 with fail
                have CLD := hide CL.out.drew
                have CE := hide (fun (LB : List By) (W : World) (h : Cl w w.heap.size (w.heap.size + 1) bo #[.int .i64 D.dep, .int .i64 D.nxt, .slice Ab D.bl.length cb, .slice Ac D.ca.length cc, .slice (some ⟨pb, po, none⟩) D.qu.length cq] #[.int .i64 0, .int .i64 0, .slice none 0 0, .slice none 0 0, .slice none 0 0] D.dep D.nxt (.slice (some ⟨gb, 0, none⟩) D.bl.length g1) (.slice E2 D.ca.length g2) (.slice E3 D.qu.length g3) (LB) D.ca D.qu W) => (⟨h.out.cell 2, h.src.cell 4, RR.out W h.below⟩ : (fun W => W.cell? ⟨bo, 2, none⟩ = some (.slice (some ⟨gb, 0, none⟩) D.bl.length g1) ∧ W.cell? ⟨w.heap.size, 4, none⟩ = some (.slice (some ⟨pb, po, none⟩) D.qu.length cq) ∧ W.cell? ⟨pb, po + k * 4 + 2, none⟩ = some (.int .i64 n) ∧ W.cell? ⟨pb, po + k * 4 + 3, none⟩ = some (.slice A1 l.length d1)) W))
                refine wp_region_noPanic ?_
                refine wp_region_held_drew (S := (fun W => W.cell? ⟨bo, 2, none⟩ = some (.slice (some ⟨gb, 0, none⟩) D.bl.length g1) ∧ W.cell? ⟨w.heap.size, 4, none⟩ = some (.slice (some ⟨pb, po, none⟩) D.qu.length cq) ∧ W.cell? ⟨pb, po + k * 4 + 2, none⟩ = some (.int .i64 n) ∧ W.cell? ⟨pb, po + k * 4 + 3, none⟩ = some (.slice A1 l.length d1))) (by kernel_rfl) ?_ (fun hHeld => ?_)
                · exact CE.out _ _ CLD.out
                refine wpAnyH_take (i := 0) (oi := ⟨some 64, _, _, _, _, _⟩) (v := ?_) rfl (by kernel_rfl) (by kernel_rfl) (by kernel_rfl) (fun _ _ _ h => h) (Or.inl ⟨by kernel_rfl, ?_⟩) (by assumption) ?_
                rotate_left 1
                · (intro w hSw; (try dsimp only at hSw); go_simp) <;> (with_reducible rfl)
                (try simp only [Act.put, List.setIfInBounds_toArray, List.set_cons_succ, List.set_cons_zero])
                refine wpAnyH_take (i := 1) (oi := ⟨some 65, _, _, _, _, _⟩) (v := ?_) rfl (by kernel_rfl) (by kernel_rfl) (by kernel_rfl) (fun _ _ _ h => h) (Or.inl ⟨by kernel_rfl, ?_⟩) (by assumption) ?_
                rotate_left 1
                · (intro w hSw; (try dsimp only at hSw); go_simp) <;> (with_reducible rfl)
                (try simp only [Act.put, List.setIfInBounds_toArray, List.set_cons_succ, List.set_cons_zero])
                refine wpAnyH_take (i := 2) (oi := ⟨some 66, _, _, _, _, _⟩) (v := ?_) rfl (by kernel_rfl) (by kernel_rfl) (by kernel_rfl) (fun _ _ _ h => h) (Or.inl ⟨by kernel_rfl, ?_⟩) (by assumption) ?_
                rotate_left 1
                · (intro w hSw; (try dsimp only at hSw); go_simp) <;> (with_reducible rfl)
                (try simp only [Act.put, List.setIfInBounds_toArray, List.set_cons_succ, List.set_cons_zero])
                refine wpAnyH_take (i := 3) (oi := ⟨some 67, _, _, _, _, _⟩) (v := ?_) rfl (by kernel_rfl) (by kernel_rfl) (by kernel_rfl) (fun _ _ _ h => h) (Or.inl ⟨by kernel_rfl, ?_⟩) (by assumption) ?_
                rotate_left 1
                · (intro w hSw; (try dsimp only at hSw); go_simp) <;> (with_reducible rfl)
                (try simp only [Act.put, List.setIfInBounds_toArray, List.set_cons_succ, List.set_cons_zero])
                refine wpAnyH_take (i := 4) (oi := ⟨some 68, _, _, _, _, _⟩) (v := ?_) rfl (by kernel_rfl) (by kernel_rfl) (by kernel_rfl) (fun _ _ _ h => h) (Or.inl ⟨by kernel_rfl, ?_⟩) (by assumption) ?_
                rotate_left 1
                · (intro w hSw; (try dsimp only at hSw); go_simp) <;> (with_reducible rfl)
                (try simp only [Act.put, List.setIfInBounds_toArray, List.set_cons_succ, List.set_cons_zero])
                refine wpAnyH_take (i := 5) (oi := ⟨some 69, _, _, _, _, _⟩) (v := ?_) rfl (by kernel_rfl) (by kernel_rfl) (by kernel_rfl) (fun _ _ _ h => h) (Or.inl ⟨by kernel_rfl, ?_⟩) (by assumption) ?_
                rotate_left 1
                · (intro w hSw; (try dsimp only at hSw); go_simp) <;> (with_reducible rfl)
                (try simp only [Act.put, List.setIfInBounds_toArray, List.set_cons_succ, List.set_cons_zero])
                refine wpAnyH_take (i := 6) (oi := ⟨some 70, _, _, _, _, _⟩) (v := ?_) rfl (by kernel_rfl) (by kernel_rfl) (by kernel_rfl) (fun _ _ _ h => h) (Or.inl ⟨by kernel_rfl, ?_⟩) (by assumption) ?_
                rotate_left 1
                · (intro w hSw; (try dsimp only at hSw); go_simp) <;> (with_reducible rfl)
                (try simp only [Act.put, List.setIfInBounds_toArray, List.set_cons_succ, List.set_cons_zero])
                refine wpAnyH_take (i := 7) (oi := ⟨some 71, _, _, _, _, _⟩) (v := ?_) rfl (by kernel_rfl) (by kernel_rfl) (by kernel_rfl) (fun _ _ _ h => h) (Or.inl ⟨by kernel_rfl, ?_⟩) (by assumption) ?_
                rotate_left 1
                · (intro w hSw; (try dsimp only at hSw); go_simp) <;> (with_reducible rfl)
                (try simp only [Act.put, List.setIfInBounds_toArray, List.set_cons_succ, List.set_cons_zero])
                refine wpAnyH_take (i := 8) (oi := ⟨some 72, _, _, _, _, _⟩) (v := ?_) rfl (by kernel_rfl) (by kernel_rfl) (by kernel_rfl) (fun _ _ _ h => h) (Or.inl ⟨by kernel_rfl, ?_⟩) (by assumption) ?_
                rotate_left 1
                · (intro w hSw; (try dsimp only at hSw); go_simp) <;> (with_reducible rfl)
                (try simp only [Act.put, List.setIfInBounds_toArray, List.set_cons_succ, List.set_cons_zero])
                refine wpAnyH_take (i := 9) (oi := ⟨some 73, _, _, _, _, _⟩) (v := ?_) rfl (by kernel_rfl) (by kernel_rfl) (by kernel_rfl) (fun _ _ _ h => h) (Or.inl ⟨by kernel_rfl, ?_⟩) (by assumption) ?_
                rotate_left 1
                · (intro w hSw; (try dsimp only at hSw); go_simp) <;> (with_reducible rfl)
                (try simp only [Act.put, List.setIfInBounds_toArray, List.set_cons_succ, List.set_cons_zero])
                refine wpAnyH_take (i := 10) (oi := ⟨some 74, _, _, _, _, _⟩) (v := ?_) rfl (by kernel_rfl) (by kernel_rfl) (by kernel_rfl) (fun _ _ _ h => h) (Or.inl ⟨by kernel_rfl, ?_⟩) (by assumption) ?_
                rotate_left 1
                · (intro w hSw; (try dsimp only at hSw); go_simp) <;> (with_reducible rfl)
                (try simp only [Act.put, List.setIfInBounds_toArray, List.set_cons_succ, List.set_cons_zero])
                refine wpAnyH_take (i := 11) (oi := ⟨some 75, _, _, _, _, _⟩) (v := ?_) rfl (by kernel_rfl) (by kernel_rfl) (by kernel_rfl) (fun _ _ _ h => h) (Or.inl ⟨by kernel_rfl, ?_⟩) (by assumption) ?_
                rotate_left 1
                · (intro w hSw; (try dsimp only at hSw); go_simp) <;> (with_reducible rfl)
                (try simp only [Act.put, List.setIfInBounds_toArray, List.set_cons_succ, List.set_cons_zero])
                refine wpAnyH_take (i := 12) (oi := ⟨some 76, _, _, _, _, _⟩) (v := ?_) rfl (by kernel_rfl) (by kernel_rfl) (by kernel_rfl) (fun _ _ _ h => h) (Or.inl ⟨by kernel_rfl, ?_⟩) (by assumption) ?_
                rotate_left 1
                · (intro w hSw; (try dsimp only at hSw); go_simp) <;> (with_reducible rfl)
                (try simp only [Act.put, List.setIfInBounds_toArray, List.set_cons_succ, List.set_cons_zero])
                refine wpAnyH_take (i := 13) (oi := ⟨some 77, _, _, _, _, _⟩) (v := ?_) rfl (by kernel_rfl) (by kernel_rfl) (by kernel_rfl) (fun _ _ _ h => h) (Or.inl ⟨by kernel_rfl, ?_⟩) (by assumption) ?_
                rotate_left 1
                · (intro w hSw; (try dsimp only at hSw); go_simp) <;> (with_reducible rfl)
                (try simp only [Act.put, List.setIfInBounds_toArray, List.set_cons_succ, List.set_cons_zero])
                refine wpAnyH_ready (rs := [14]) (by kernel_rfl) (by simp) ?_
                refine AllReadyH.cons (o := _) rfl (fun K' hK => ?_) AllReadyH.nil
                go_simp
                refine (CB.out _ (brefl _)).mono ?_
                rintro e w3 ⟨v3, rfl, hob, hb3⟩
                obtain ⟨A3, d3, rfl⟩ := hob.form
                have HO := hide hob
                have CL3 := hide (CLD.out.on hb3)
                clear hob hb3
                obtain ⟨gb', cb', hvb, hcap, ⟨y, hy⟩, hfr, hkp35, hset⟩ := CL3.out.setB (by rw [LEN.out]; exact hn) HO.out
                have SET := hide hset
                injection hvb with hv1 hv2 hv3
                injection hv1 with hv1
                injection hv1 with hv1
                subst hv1
                clear hset hkp35 hcap hv2 hv3
                refine hK.out _ _ ?_ (fun hHeld => ?_)
                · exact CE.out _ _ CL3.out
                clear hK K'
                (try simp only [Act.put, List.setIfInBounds_toArray, List.set_cons_succ, List.set_cons_zero])
                refine wpAnyH_take (i := 15) (oi := ⟨some 79, _, _, _, _, _⟩) (v := ?_) rfl (by kernel_rfl) (by kernel_rfl) (by kernel_rfl) (fun _ _ _ h => h) (Or.inl ⟨by kernel_rfl, ?_⟩) (by assumption) ?_
                rotate_left 1
                · (intro w hSw; (try dsimp only at hSw); go_simp) <;> (with_reducible rfl)
                (try simp only [Act.put, List.setIfInBounds_toArray, List.set_cons_succ, List.set_cons_zero])
                refine wpAnyH_ready (rs := [16]) (by kernel_rfl) (by simp) ?_
                refine AllReadyH.cons (o := _) rfl (fun K' hK => ?_) AllReadyH.nil
                go_simp
                refine hK.out _ _ ?_ (fun hHeld => ?_)
                · exact CE.out _ _ SET.out
                clear hK K'
                (try simp only [Act.put, List.setIfInBounds_toArray, List.set_cons_succ, List.set_cons_zero])
                refine wpAnyH_done (by kernel_rfl) ?_ _
                refine NoPanic.normal ?_
                go_wp2
                go_roundw
                case rel => exact ⟨k + 1, by omega, by go_num, by rw [HM.out]; go_num, hide (by rw [HM.out, CK.out]; exact SET.out)⟩
                case measure => simp [intOf]; omega
              | false =>
                rw [hb] at PK
                have CK := hide (show crK ps C D.bl (m + 1) = crK ps C D.bl m by
                  show (if ps.getD m false then (crK ps C D.bl m).set (cAt C m).1.toNat (cAt C m).2 else crK ps C D.bl m) = _
                  rw [hb]; rfl)
                have PKh := hide PK
                clear hb PK
                go_wp2_with fail
                refine PKh.out.mono ?_
                rintro e w9 ⟨rfl, rfl⟩
                go_wp2
                go_roundw
                case rel => exact ⟨k + 1, by omega, by go_num, by rw [HM.out]; go_num, hide (by rw [HM.out, CK.out]; exact CL.out)⟩
                case measure => simp [intOf]; omega
            · have HM := hide (show (losK D.ca D.qu (k + 1)).length = (losK D.ca D.qu k).length by rw [losK_miss hlt hq])
              have hd : ((qAt D.qu k).2.1 == 2) = false := by simpa using hq
              generalize (losK D.ca D.qu k).length = m at *
              go_wp2
              go_roundw
              case rel => exact ⟨k + 1, by omega, by go_num, by rw [HM.out], hide (by rw [HM.out]; exact CL.out)⟩
              case measure => simp [intOf]; omega
          · obtain rfl : k = D.qu.length := by omega
            rw [← HCl.out] at CL ⊢
            obtain ⟨o0, o1, o2, o3, o4⟩ := box5_cells (W' := wr) CL.out.out
            obtain ⟨r0, r1, r2, r3, r4⟩ := box5_cells (W' := wr) CL.out.res
            have LEN := hide (crK_len ps C D.bl C.length)
            have fo3 := CL.out.out.frozen 3
            have fo4 := CL.out.out.frozen 4
            have f0 := CL.out.res.frozen 0
            have f1 := CL.out.res.frozen 1
            have f2 := CL.out.res.frozen 2
            have f3 := CL.out.res.frozen 3
            have f4 := CL.out.res.frozen 4
            go_wp2
            have R1 := hide (((CL.out.res.far (i := 3) hor (.slice none 0 0)).far (i := 4) hor (.slice none 0 0)))
            have KK := hide ((Kp.boxset (B := w.heap.size) CL.out.out hwo 3 (.slice none 0 0)).trans (Kp.boxset (B := w.heap.size) (CL.out.out.put 3 (.slice none 0 0)) hwo 4 (.slice none 0 0)))
            have KS := hide (KK.out.trans (kp_set5 (B := w.heap.size) R1.out (Nat.le_succ _) (.int .i64 D.dep) (.int .i64 D.nxt) (.slice (some ⟨gb, 0, none⟩) D.bl.length g1) (.slice none 0 0) (.slice none 0 0)))
            exact ret_d2 Try.results29 rfl rfl rfl (R1.out.set5 _ _ _ _ _) ⟨_, rfl, ⟨_, _, _, rfl, CL.out.ob.kp KS.out (by decide) (by decide), OwnC.nil _ _, OwnQ.nil _ _⟩, CL.out.below.trans KS.out.below⟩
  · rw [if_neg e1]
    have hd : (chk D != 0) = true := by simpa using e1
    generalize chk D = er at *
    clear e1 hW0 hB
    generalize D.nxt = nxt at *
    generalize D.dep = dep at *
    go_enter Try.func29, Try.ntmps29
    go_wp2_with fail
    rw [← HW.out]
    refine (C1.out _ (brefl _)).mono ?_
    rintro e w1 ⟨rfl, hb⟩
    have K := hide hb
    clear hb
    have Y1 := hide (Y.out.below K.out)
    obtain ⟨r0, r1, r2, r3, r4⟩ := box5_cells (W' := w1) Y1.out
    have f0 := Y1.out.frozen 0
    have f1 := Y1.out.frozen 1
    have f2 := Y1.out.frozen 2
    have f3 := Y1.out.frozen 3
    have f4 := Y1.out.frozen 4
    go_wp2
    have KS := hide (kp_set5 (B := w.heap.size) Y1.out (Nat.le_succ _) (.int .i64 0) (.int .i64 0) (.slice none 0 0) (.slice none 0 0) (.slice none 0 0))
    exact ret_d2 Try.results29 rfl rfl rfl (Y1.out.set5 _ _ _ _ _) ⟨_, rfl, DevOwn.zero _ _, (btrans K0.out K.out).trans KS.out.below⟩
end Go.Proofs.Ytnegigcjeoenmaa.Dv
