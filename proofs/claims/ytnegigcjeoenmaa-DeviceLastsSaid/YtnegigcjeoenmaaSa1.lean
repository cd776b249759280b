import Derived.Test.YtnegigcjeoenmaaCp1
namespace Go.Proofs.Ytnegigcjeoenmaa.Dv
open Go Go.RowKit
set_option linter.unusedVariables false
theorem IsBs.nm {w : World} {A : Option Addr} {n c : Nat} {l : By} (h : IsBs w (.slice A n c) l) : n = l.length ∧ Bs w A l := by
  obtain ⟨A', c', e, _, hb⟩ := h
  injection e with e1 e2 e3
  subst e1
  exact ⟨e2, hb⟩
theorem sbs {v1 v2 : Value} {l : By} {w : World} (h1 : IsBs w v1 l) (h2 : IsBs w v2 l) (hn : l.length ≤ 9223372036854775807) :
    Calls Try.prog 18 #[v1, v2] w fun e w' => e = .returned (.bool true) ∧ Below w.heap.size w w' := by
  obtain ⟨A1, c1, rfl, _, b1⟩ := h1
  obtain ⟨A2, c2, rfl, _, b2⟩ := h2
  exact sbytes A1 A2 c1 c2 l w b1 b2 hn
set_option maxHeartbeats 1000000 in
theorem srq (i k b : Int) (v1 v2 : Value) (l : By) (w : World) (h1 : IsBs w v1 l) (h2 : IsBs w v2 l) (hn : l.length ≤ 9223372036854775807) :
    Calls Try.prog 27 #[.agg #[.int .i64 i, .int .i64 k, .int .i64 b, v1], .agg #[.int .i64 i, .int .i64 k, .int .i64 b, v2]] w fun e w' => e = .returned (.bool true) ∧ Below w.heap.size w w' := by
  have K := hide (bal (bal (brefl w) (.cells #[.int .i64 i, .int .i64 k, .int .i64 b, v1] 39)) (.cells #[.int .i64 i, .int .i64 k, .int .i64 b, v2] 39))
  have C := hide (sbs (h1.below K.out) (h2.below K.out) hn)
  clear h1 h2
  go_enter Try.func27, Try.ntmps27
  go_wp2_with fail
  refine C.out.mono ?_
  rintro e w1 ⟨rfl, hb⟩
  have K2 := hide hb
  clear hb
  go_wp2
  go_ret
  exact ⟨rfl, btrans K.out K2.out⟩
set_option maxHeartbeats 8000000 in
set_option maxRecDepth 100000 in
theorem same_dev (v1 v2 : Value) (D : Dev) (w : World) (h1 : DevIn w v1 D) (h2 : DevIn w v2 D) (hB : Big D) :
    Calls Try.prog 15 #[v1, v2] w fun e w' => e = .returned (.bool true) ∧ Below w.heap.size w w' := by
  obtain ⟨Ab1, cb1, Ac1, cc1, Aq1, cq1, rfl, _, _, _, rb1, rc1, rq1⟩ := h1
  obtain ⟨Ab2, cb2, Ac2, cc2, Aq2, cq2, rfl, _, _, _, rb2, rc2, rq2⟩ := h2
  obtain ⟨W0, hW0⟩ : ∃ W0, W0 = (w.alloc (.cells #[.int .i64 D.dep, .int .i64 D.nxt, .slice Ab1 D.bl.length cb1, .slice Ac1 D.ca.length cc1, .slice Aq1 D.qu.length cq1] 28)).alloc (.cells #[.int .i64 D.dep, .int .i64 D.nxt, .slice Ab2 D.bl.length cb2, .slice Ac2 D.ca.length cc2, .slice Aq2 D.qu.length cq2] 28) := ⟨_, rfl⟩
  have K0 := hide (show Below w.heap.size w W0 by rw [hW0]; exact bal (bal (brefl w) _) _)
  have X := hide (show Box W0 w.heap.size 28 #[.int .i64 D.dep, .int .i64 D.nxt, .slice Ab1 D.bl.length cb1, .slice Ac1 D.ca.length cc1, .slice Aq1 D.qu.length cq1] by rw [hW0]; exact (Box.new w 28 _).more _)
  have Y := hide (show Box W0 (w.heap.size + 1) 28 #[.int .i64 D.dep, .int .i64 D.nxt, .slice Ab2 D.bl.length cb2, .slice Ac2 D.ca.length cc2, .slice Aq2 D.qu.length cq2] by rw [hW0]; exact Box.new2 _ _ _ _)
  have RB1 := hide (rb1.below K0.out)
  have RC1 := hide (rc1.below K0.out)
  have RQ1 := hide (rq1.below K0.out)
  have RB2 := hide (rb2.below K0.out)
  have RC2 := hide (rc2.below K0.out)
  have RQ2 := hide (rq2.below K0.out)
  have HB := hide hB
  have lb := hB.bl
  have lc := hB.ca
  have lq := hB.qu
  clear rb1 rc1 rq1 rb2 rc2 rq2 hB
  go_enter Try.func15, Try.ntmps15
  go_wp2
  rw [← hW0]
  clear hW0
  go_loopw [5] (fun i wr => ∃ k : Nat, k ≤ D.bl.length ∧ i = .int .i64 k ∧ Hid (Below W0.heap.size W0 wr)) (fun i _ => D.bl.length - (intOf i).toNat)
  case atStart => exact ⟨0, Nat.zero_le _, rfl, hide (brefl _)⟩
  case round =>
    obtain ⟨k, hk, rfl, K⟩ := hrel
    have s1 := (X.out.below K.out).cell 2
    have s2 := (Y.out.below K.out).cell 2
    simp at s1 s2
    by_cases hlt : k < D.bl.length
    · obtain ⟨b1, o1, u1, rfl, hl1, c1, hv1⟩ := RB1.out.cells K.out hlt
      obtain ⟨b2, o2, u2, rfl, hl2, c2, hv2⟩ := RB2.out.cells K.out hlt
      have hlen := HB.out.bb _ (bAt_mem hlt)
      obtain ⟨A1, d1, rfl⟩ := hv1.form
      obtain ⟨A2, d2, rfl⟩ := hv2.form
      have C := hide (fun W (hb : Below wr.heap.size wr W) => sbs (hv1.below hb) (hv2.below hb) hlen)
      generalize (bAt D.bl k).length = n1 at *
      clear hlen
      have KK := hide (below_drew (brefl wr))
      have CE := hide (fun (W : World) (h : Below wr.heap.size wr W) => (⟨(h.cell (p := ⟨w.heap.size, 2, none⟩) (Nat.lt_of_lt_of_le X.out.lt K.out.size)).trans s1, (h.cell (p := ⟨w.heap.size + 1, 2, none⟩) (Nat.lt_of_lt_of_le Y.out.lt K.out.size)).trans s2, (h.cell (p := ⟨b1, o1 + k, none⟩) (Nat.lt_of_lt_of_le hl1 K.out.size)).trans c1, (h.cell (p := ⟨b2, o2 + k, none⟩) (Nat.lt_of_lt_of_le hl2 K.out.size)).trans c2⟩ : W.cell? ⟨w.heap.size, 2, none⟩ = some (.slice (some ⟨b1, o1, none⟩) D.bl.length cb1) ∧ W.cell? ⟨w.heap.size + 1, 2, none⟩ = some (.slice (some ⟨b2, o2, none⟩) D.bl.length cb2) ∧ W.cell? ⟨b1, o1 + k, none⟩ = some (.slice A1 n1 d1) ∧ W.cell? ⟨b2, o2 + k, none⟩ = some (.slice A2 n1 d2)))
      have H := hide (And.intro hv1 hv2)
      clear hv1 hv2
      go_wp2
      refine wp_region_noPanic ?_
      refine wp_region_held_drew (S := (fun W => W.cell? ⟨w.heap.size, 2, none⟩ = some (.slice (some ⟨b1, o1, none⟩) D.bl.length cb1) ∧ W.cell? ⟨w.heap.size + 1, 2, none⟩ = some (.slice (some ⟨b2, o2, none⟩) D.bl.length cb2) ∧ W.cell? ⟨b1, o1 + k, none⟩ = some (.slice A1 n1 d1) ∧ W.cell? ⟨b2, o2 + k, none⟩ = some (.slice A2 n1 d2))) (by kernel_rfl) ?_ (fun hHeld => ?_)
      · exact CE.out _ KK.out
      refine wpAnyH_take (i := 0) (oi := ⟨some 54, _, _, _, _, _⟩) (v := ?_) rfl (by kernel_rfl) (by kernel_rfl) (by kernel_rfl) (fun _ _ _ h => h) (Or.inl ⟨by kernel_rfl, ?_⟩) (by assumption) ?_
      rotate_left 1
      · (intro w hSw; (try dsimp only at hSw); go_simp) <;> (with_reducible rfl)
      (try simp only [Act.put, List.setIfInBounds_toArray, List.set_cons_succ, List.set_cons_zero])
      refine wpAnyH_take (i := 1) (oi := ⟨some 55, _, _, _, _, _⟩) (v := ?_) rfl (by kernel_rfl) (by kernel_rfl) (by kernel_rfl) (fun _ _ _ h => h) (Or.inl ⟨by kernel_rfl, ?_⟩) (by assumption) ?_
      rotate_left 1
      · (intro w hSw; (try dsimp only at hSw); go_simp) <;> (with_reducible rfl)
      (try simp only [Act.put, List.setIfInBounds_toArray, List.set_cons_succ, List.set_cons_zero])
      refine wpAnyH_take (i := 2) (oi := ⟨some 56, _, _, _, _, _⟩) (v := ?_) rfl (by kernel_rfl) (by kernel_rfl) (by kernel_rfl) (fun _ _ _ h => h) (Or.inl ⟨by kernel_rfl, ?_⟩) (by assumption) ?_
      rotate_left 1
      · (intro w hSw; (try dsimp only at hSw); go_simp) <;> (with_reducible rfl)
      (try simp only [Act.put, List.setIfInBounds_toArray, List.set_cons_succ, List.set_cons_zero])
      refine wpAnyH_take (i := 3) (oi := ⟨some 57, _, _, _, _, _⟩) (v := ?_) rfl (by kernel_rfl) (by kernel_rfl) (by kernel_rfl) (fun _ _ _ h => h) (Or.inl ⟨by kernel_rfl, ?_⟩) (by assumption) ?_
      rotate_left 1
      · (intro w hSw; (try dsimp only at hSw); go_simp) <;> (with_reducible rfl)
      (try simp only [Act.put, List.setIfInBounds_toArray, List.set_cons_succ, List.set_cons_zero])
      refine wpAnyH_take (i := 4) (oi := ⟨some 58, _, _, _, _, _⟩) (v := ?_) rfl (by kernel_rfl) (by kernel_rfl) (by kernel_rfl) (fun _ _ _ h => h) (Or.inl ⟨by kernel_rfl, ?_⟩) (by assumption) ?_
      rotate_left 1
      · (intro w hSw; (try dsimp only at hSw); go_simp) <;> (with_reducible rfl)
      (try simp only [Act.put, List.setIfInBounds_toArray, List.set_cons_succ, List.set_cons_zero])
      refine wpAnyH_take (i := 5) (oi := ⟨some 59, _, _, _, _, _⟩) (v := ?_) rfl (by kernel_rfl) (by kernel_rfl) (by kernel_rfl) (fun _ _ _ h => h) (Or.inl ⟨by kernel_rfl, ?_⟩) (by assumption) ?_
      rotate_left 1
      · (intro w hSw; (try dsimp only at hSw); go_simp) <;> (with_reducible rfl)
      (try simp only [Act.put, List.setIfInBounds_toArray, List.set_cons_succ, List.set_cons_zero])
      refine wpAnyH_take (i := 6) (oi := ⟨some 60, _, _, _, _, _⟩) (v := ?_) rfl (by kernel_rfl) (by kernel_rfl) (by kernel_rfl) (fun _ _ _ h => h) (Or.inl ⟨by kernel_rfl, ?_⟩) (by assumption) ?_
      rotate_left 1
      · (intro w hSw; (try dsimp only at hSw); go_simp) <;> (with_reducible rfl)
      (try simp only [Act.put, List.setIfInBounds_toArray, List.set_cons_succ, List.set_cons_zero])
      refine wpAnyH_take (i := 7) (oi := ⟨some 61, _, _, _, _, _⟩) (v := ?_) rfl (by kernel_rfl) (by kernel_rfl) (by kernel_rfl) (fun _ _ _ h => h) (Or.inl ⟨by kernel_rfl, ?_⟩) (by assumption) ?_
      rotate_left 1
      · (intro w hSw; (try dsimp only at hSw); go_simp) <;> (with_reducible rfl)
      (try simp only [Act.put, List.setIfInBounds_toArray, List.set_cons_succ, List.set_cons_zero])
      refine wpAnyH_take (i := 8) (oi := ⟨some 62, _, _, _, _, _⟩) (v := ?_) rfl (by kernel_rfl) (by kernel_rfl) (by kernel_rfl) (fun _ _ _ h => h) (Or.inl ⟨by kernel_rfl, ?_⟩) (by assumption) ?_
      rotate_left 1
      · (intro w hSw; (try dsimp only at hSw); go_simp) <;> (with_reducible rfl)
      (try simp only [Act.put, List.setIfInBounds_toArray, List.set_cons_succ, List.set_cons_zero])
      refine wpAnyH_take (i := 9) (oi := ⟨some 63, _, _, _, _, _⟩) (v := ?_) rfl (by kernel_rfl) (by kernel_rfl) (by kernel_rfl) (fun _ _ _ h => h) (Or.inl ⟨by kernel_rfl, ?_⟩) (by assumption) ?_
      rotate_left 1
      · (intro w hSw; (try dsimp only at hSw); go_simp) <;> (with_reducible rfl)
      (try simp only [Act.put, List.setIfInBounds_toArray, List.set_cons_succ, List.set_cons_zero])
      refine wpAnyH_ready (rs := [10]) (by kernel_rfl) (by simp) ?_
      refine AllReadyH.cons (o := _) rfl (fun K' hK => ?_) AllReadyH.nil
      go_simp
      refine (C.out _ KK.out).mono ?_
      rintro e wk ⟨rfl, hbk⟩
      replace KK := hide (btrans KK.out hbk)
      clear hbk
      refine hK.out _ _ ?_ (fun hHeld => ?_)
      · exact CE.out _ KK.out
      clear hK K'
      (try simp only [Act.put, List.setIfInBounds_toArray, List.set_cons_succ, List.set_cons_zero])
      refine wpAnyH_take (i := 11) (oi := ⟨some 65, _, _, _, _, _⟩) (v := ?_) rfl (by kernel_rfl) (by kernel_rfl) (by kernel_rfl) (fun _ _ _ h => h) (Or.inl ⟨by kernel_rfl, ?_⟩) (by assumption) ?_
      rotate_left 1
      · (intro w hSw; (try dsimp only at hSw); go_simp) <;> (with_reducible rfl)
      (try simp only [Act.put, List.setIfInBounds_toArray, List.set_cons_succ, List.set_cons_zero])
      refine wpAnyH_done (by kernel_rfl) ?_ _
      refine NoPanic.normal ?_
      go_wp2
      go_roundw
      case rel => exact ⟨k + 1, by omega, by go_num, hide (btrans K.out KK.out)⟩
      case measure => simp [intOf]; omega
    · go_wp2
      clear s1 s2
      go_loopw [6] (fun i wr => ∃ k : Nat, k ≤ D.ca.length ∧ i = .int .i64 k ∧ Hid (Below W0.heap.size W0 wr)) (fun i _ => D.ca.length - (intOf i).toNat)
      case atStart => exact ⟨0, Nat.zero_le _, rfl, K⟩
      case round =>
        clear K; obtain ⟨k, hk, rfl, K⟩ := hrel
        have s1 := (X.out.below K.out).cell 3
        have s2 := (Y.out.below K.out).cell 3
        simp at s1 s2
        by_cases hlt : k < D.ca.length
        · obtain ⟨b1, o1, u1, rfl, hl1, c1, e1, hv1⟩ := RC1.out.cells K.out hlt
          obtain ⟨b2, o2, u2, rfl, hl2, c2, e2, hv2⟩ := RC2.out.cells K.out hlt
          have hlen := HB.out.cb _ (cAt_mem hlt)
          obtain ⟨A1, d1, rfl⟩ := hv1.form
          obtain ⟨A2, d2, rfl⟩ := hv2.form
          have C := hide (fun W (hb : Below wr.heap.size wr W) => sbs (hv1.below hb) (hv2.below hb) hlen)
          generalize (cAt D.ca k).2.length = n1 at *
          generalize (cAt D.ca k).1 = z at *
          clear hlen
          have KK := hide (below_drew (brefl wr))
          have CE := hide (fun (W : World) (h : Below wr.heap.size wr W) => (⟨(h.cell (p := ⟨w.heap.size, 3, none⟩) (Nat.lt_of_lt_of_le X.out.lt K.out.size)).trans s1, (h.cell (p := ⟨w.heap.size + 1, 3, none⟩) (Nat.lt_of_lt_of_le Y.out.lt K.out.size)).trans s2, (h.cell (p := ⟨b1, o1 + k * 2, none⟩) (Nat.lt_of_lt_of_le hl1 K.out.size)).trans c1, (h.cell (p := ⟨b2, o2 + k * 2, none⟩) (Nat.lt_of_lt_of_le hl2 K.out.size)).trans c2, (h.cell (p := ⟨b1, o1 + k * 2 + 1, none⟩) (Nat.lt_of_lt_of_le hl1 K.out.size)).trans e1, (h.cell (p := ⟨b2, o2 + k * 2 + 1, none⟩) (Nat.lt_of_lt_of_le hl2 K.out.size)).trans e2⟩ : W.cell? ⟨w.heap.size, 3, none⟩ = some (.slice (some ⟨b1, o1, none⟩) D.ca.length cc1) ∧ W.cell? ⟨w.heap.size + 1, 3, none⟩ = some (.slice (some ⟨b2, o2, none⟩) D.ca.length cc2) ∧ W.cell? ⟨b1, o1 + k * 2, none⟩ = some (.int .i64 z) ∧ W.cell? ⟨b2, o2 + k * 2, none⟩ = some (.int .i64 z) ∧ W.cell? ⟨b1, o1 + k * 2 + 1, none⟩ = some (.slice A1 n1 d1) ∧ W.cell? ⟨b2, o2 + k * 2 + 1, none⟩ = some (.slice A2 n1 d2)))
          have H := hide (And.intro hv1 hv2)
          clear hv1 hv2
          go_wp2
          refine wp_region_noPanic ?_
          refine wp_region_held_drew (S := (fun W => W.cell? ⟨w.heap.size, 3, none⟩ = some (.slice (some ⟨b1, o1, none⟩) D.ca.length cc1) ∧ W.cell? ⟨w.heap.size + 1, 3, none⟩ = some (.slice (some ⟨b2, o2, none⟩) D.ca.length cc2) ∧ W.cell? ⟨b1, o1 + k * 2, none⟩ = some (.int .i64 z) ∧ W.cell? ⟨b2, o2 + k * 2, none⟩ = some (.int .i64 z) ∧ W.cell? ⟨b1, o1 + k * 2 + 1, none⟩ = some (.slice A1 n1 d1) ∧ W.cell? ⟨b2, o2 + k * 2 + 1, none⟩ = some (.slice A2 n1 d2))) (by kernel_rfl) ?_ (fun hHeld => ?_)
          · exact CE.out _ KK.out
          refine wpAnyH_take (i := 0) (oi := ⟨some 73, _, _, _, _, _⟩) (v := ?_) rfl (by kernel_rfl) (by kernel_rfl) (by kernel_rfl) (fun _ _ _ h => h) (Or.inl ⟨by kernel_rfl, ?_⟩) (by assumption) ?_
          rotate_left 1
          · (intro w hSw; (try dsimp only at hSw); go_simp) <;> (with_reducible rfl)
          (try simp only [Act.put, List.setIfInBounds_toArray, List.set_cons_succ, List.set_cons_zero])
          refine wpAnyH_take (i := 1) (oi := ⟨some 74, _, _, _, _, _⟩) (v := ?_) rfl (by kernel_rfl) (by kernel_rfl) (by kernel_rfl) (fun _ _ _ h => h) (Or.inl ⟨by kernel_rfl, ?_⟩) (by assumption) ?_
          rotate_left 1
          · (intro w hSw; (try dsimp only at hSw); go_simp) <;> (with_reducible rfl)
          (try simp only [Act.put, List.setIfInBounds_toArray, List.set_cons_succ, List.set_cons_zero])
          refine wpAnyH_take (i := 2) (oi := ⟨some 75, _, _, _, _, _⟩) (v := ?_) rfl (by kernel_rfl) (by kernel_rfl) (by kernel_rfl) (fun _ _ _ h => h) (Or.inl ⟨by kernel_rfl, ?_⟩) (by assumption) ?_
          rotate_left 1
          · (intro w hSw; (try dsimp only at hSw); go_simp) <;> (with_reducible rfl)
          (try simp only [Act.put, List.setIfInBounds_toArray, List.set_cons_succ, List.set_cons_zero])
          refine wpAnyH_take (i := 3) (oi := ⟨some 76, _, _, _, _, _⟩) (v := ?_) rfl (by kernel_rfl) (by kernel_rfl) (by kernel_rfl) (fun _ _ _ h => h) (Or.inl ⟨by kernel_rfl, ?_⟩) (by assumption) ?_
          rotate_left 1
          · (intro w hSw; (try dsimp only at hSw); go_simp) <;> (with_reducible rfl)
          (try simp only [Act.put, List.setIfInBounds_toArray, List.set_cons_succ, List.set_cons_zero])
          refine wpAnyH_take (i := 4) (oi := ⟨some 77, _, _, _, _, _⟩) (v := ?_) rfl (by kernel_rfl) (by kernel_rfl) (by kernel_rfl) (fun _ _ _ h => h) (Or.inl ⟨by kernel_rfl, ?_⟩) (by assumption) ?_
          rotate_left 1
          · (intro w hSw; (try dsimp only at hSw); go_simp) <;> (with_reducible rfl)
          (try simp only [Act.put, List.setIfInBounds_toArray, List.set_cons_succ, List.set_cons_zero])
          refine wpAnyH_take (i := 5) (oi := ⟨some 78, _, _, _, _, _⟩) (v := ?_) rfl (by kernel_rfl) (by kernel_rfl) (by kernel_rfl) (fun _ _ _ h => h) (Or.inl ⟨by kernel_rfl, ?_⟩) (by assumption) ?_
          rotate_left 1
          · (intro w hSw; (try dsimp only at hSw); go_simp) <;> (with_reducible rfl)
          (try simp only [Act.put, List.setIfInBounds_toArray, List.set_cons_succ, List.set_cons_zero])
          refine wpAnyH_take (i := 6) (oi := ⟨some 79, _, _, _, _, _⟩) (v := ?_) rfl (by kernel_rfl) (by kernel_rfl) (by kernel_rfl) (fun _ _ _ h => h) (Or.inl ⟨by kernel_rfl, ?_⟩) (by assumption) ?_
          rotate_left 1
          · (intro w hSw; (try dsimp only at hSw); go_simp) <;> (with_reducible rfl)
          (try simp only [Act.put, List.setIfInBounds_toArray, List.set_cons_succ, List.set_cons_zero])
          refine wpAnyH_take (i := 7) (oi := ⟨some 80, _, _, _, _, _⟩) (v := ?_) rfl (by kernel_rfl) (by kernel_rfl) (by kernel_rfl) (fun _ _ _ h => h) (Or.inl ⟨by kernel_rfl, ?_⟩) (by assumption) ?_
          rotate_left 1
          · (intro w hSw; (try dsimp only at hSw); go_simp) <;> (with_reducible rfl)
          (try simp only [Act.put, List.setIfInBounds_toArray, List.set_cons_succ, List.set_cons_zero])
          refine wpAnyH_take (i := 8) (oi := ⟨some 81, _, _, _, _, _⟩) (v := ?_) rfl (by kernel_rfl) (by kernel_rfl) (by kernel_rfl) (fun _ _ _ h => h) (Or.inl ⟨by kernel_rfl, ?_⟩) (by assumption) ?_
          rotate_left 1
          · (intro w hSw; (try dsimp only at hSw); go_simp) <;> (with_reducible rfl)
          (try simp only [Act.put, List.setIfInBounds_toArray, List.set_cons_succ, List.set_cons_zero])
          refine wpAnyH_take (i := 9) (oi := ⟨some 82, _, _, _, _, _⟩) (v := ?_) rfl (by kernel_rfl) (by kernel_rfl) (by kernel_rfl) (fun _ _ _ h => h) (Or.inl ⟨by kernel_rfl, ?_⟩) (by assumption) ?_
          rotate_left 1
          · (intro w hSw; (try dsimp only at hSw); go_simp) <;> (with_reducible rfl)
          (try simp only [Act.put, List.setIfInBounds_toArray, List.set_cons_succ, List.set_cons_zero])
          refine wpAnyH_take (i := 10) (oi := ⟨some 83, _, _, _, _, _⟩) (v := ?_) rfl (by kernel_rfl) (by kernel_rfl) (by kernel_rfl) (fun _ _ _ h => h) (Or.inl ⟨by kernel_rfl, ?_⟩) (by assumption) ?_
          rotate_left 1
          · (intro w hSw; (try dsimp only at hSw); go_simp) <;> (with_reducible rfl)
          (try simp only [Act.put, List.setIfInBounds_toArray, List.set_cons_succ, List.set_cons_zero])
          refine wpAnyH_take (i := 11) (oi := ⟨some 84, _, _, _, _, _⟩) (v := ?_) rfl (by kernel_rfl) (by kernel_rfl) (by kernel_rfl) (fun _ _ _ h => h) (Or.inl ⟨by kernel_rfl, ?_⟩) (by assumption) ?_
          rotate_left 1
          · (intro w hSw; (try dsimp only at hSw); go_simp) <;> (with_reducible rfl)
          (try simp only [Act.put, List.setIfInBounds_toArray, List.set_cons_succ, List.set_cons_zero])
          refine wpAnyH_take (i := 12) (oi := ⟨some 85, _, _, _, _, _⟩) (v := ?_) rfl (by kernel_rfl) (by kernel_rfl) (by kernel_rfl) (fun _ _ _ h => h) (Or.inl ⟨by kernel_rfl, ?_⟩) (by assumption) ?_
          rotate_left 1
          · (intro w hSw; (try dsimp only at hSw); go_simp) <;> (with_reducible rfl)
          (try simp only [Act.put, List.setIfInBounds_toArray, List.set_cons_succ, List.set_cons_zero])
          refine wpAnyH_take (i := 13) (oi := ⟨some 86, _, _, _, _, _⟩) (v := ?_) rfl (by kernel_rfl) (by kernel_rfl) (by kernel_rfl) (fun _ _ _ h => h) (Or.inl ⟨by kernel_rfl, ?_⟩) (by assumption) ?_
          rotate_left 1
          · (intro w hSw; (try dsimp only at hSw); go_simp) <;> (with_reducible rfl)
          (try simp only [Act.put, List.setIfInBounds_toArray, List.set_cons_succ, List.set_cons_zero])
          refine wpAnyH_take (i := 14) (oi := ⟨some 87, _, _, _, _, _⟩) (v := ?_) rfl (by kernel_rfl) (by kernel_rfl) (by kernel_rfl) (fun _ _ _ h => h) (Or.inl ⟨by kernel_rfl, ?_⟩) (by assumption) ?_
          rotate_left 1
          · (intro w hSw; (try dsimp only at hSw); go_simp) <;> (with_reducible rfl)
          (try simp only [Act.put, List.setIfInBounds_toArray, List.set_cons_succ, List.set_cons_zero])
          refine wpAnyH_take (i := 15) (oi := ⟨some 88, _, _, _, _, _⟩) (v := ?_) rfl (by kernel_rfl) (by kernel_rfl) (by kernel_rfl) (fun _ _ _ h => h) (Or.inl ⟨by kernel_rfl, ?_⟩) (by assumption) ?_
          rotate_left 1
          · (intro w hSw; (try dsimp only at hSw); go_simp) <;> (with_reducible rfl)
          (try simp only [Act.put, List.setIfInBounds_toArray, List.set_cons_succ, List.set_cons_zero])
          refine wpAnyH_take (i := 16) (oi := ⟨some 89, _, _, _, _, _⟩) (v := ?_) rfl (by kernel_rfl) (by kernel_rfl) (by kernel_rfl) (fun _ _ _ h => h) (Or.inl ⟨by kernel_rfl, ?_⟩) (by assumption) ?_
          rotate_left 1
          · (intro w hSw; (try dsimp only at hSw); go_simp) <;> (with_reducible rfl)
          (try simp only [Act.put, List.setIfInBounds_toArray, List.set_cons_succ, List.set_cons_zero])
          refine wpAnyH_take (i := 17) (oi := ⟨some 90, _, _, _, _, _⟩) (v := ?_) rfl (by kernel_rfl) (by kernel_rfl) (by kernel_rfl) (fun _ _ _ h => h) (Or.inl ⟨by kernel_rfl, ?_⟩) (by assumption) ?_
          rotate_left 1
          · (intro w hSw; (try dsimp only at hSw); go_simp) <;> (with_reducible rfl)
          (try simp only [Act.put, List.setIfInBounds_toArray, List.set_cons_succ, List.set_cons_zero])
          refine wpAnyH_take (i := 18) (oi := ⟨some 91, _, _, _, _, _⟩) (v := ?_) rfl (by kernel_rfl) (by kernel_rfl) (by kernel_rfl) (fun _ _ _ h => h) (Or.inl ⟨by kernel_rfl, ?_⟩) (by assumption) ?_
          rotate_left 1
          · (intro w hSw; (try dsimp only at hSw); go_simp) <;> (with_reducible rfl)
          (try simp only [Act.put, List.setIfInBounds_toArray, List.set_cons_succ, List.set_cons_zero])
          refine wpAnyH_take (i := 19) (oi := ⟨some 92, _, _, _, _, _⟩) (v := ?_) rfl (by kernel_rfl) (by kernel_rfl) (by kernel_rfl) (fun _ _ _ h => h) (Or.inl ⟨by kernel_rfl, ?_⟩) (by assumption) ?_
          rotate_left 1
          · (intro w hSw; (try dsimp only at hSw); go_simp) <;> (with_reducible rfl)
          (try simp only [Act.put, List.setIfInBounds_toArray, List.set_cons_succ, List.set_cons_zero])
          refine wpAnyH_take (i := 20) (oi := ⟨some 93, _, _, _, _, _⟩) (v := ?_) rfl (by kernel_rfl) (by kernel_rfl) (by kernel_rfl) (fun _ _ _ h => h) (Or.inl ⟨by kernel_rfl, ?_⟩) (by assumption) ?_
          rotate_left 1
          · (intro w hSw; (try dsimp only at hSw); go_simp) <;> (with_reducible rfl)
          (try simp only [Act.put, List.setIfInBounds_toArray, List.set_cons_succ, List.set_cons_zero])
          refine wpAnyH_take (i := 21) (oi := ⟨some 94, _, _, _, _, _⟩) (v := ?_) rfl (by kernel_rfl) (by kernel_rfl) (by kernel_rfl) (fun _ _ _ h => h) (Or.inl ⟨by kernel_rfl, ?_⟩) (by assumption) ?_
          rotate_left 1
          · (intro w hSw; (try dsimp only at hSw); go_simp) <;> (with_reducible rfl)
          (try simp only [Act.put, List.setIfInBounds_toArray, List.set_cons_succ, List.set_cons_zero])
          refine wpAnyH_take (i := 22) (oi := ⟨some 95, _, _, _, _, _⟩) (v := ?_) rfl (by kernel_rfl) (by kernel_rfl) (by kernel_rfl) (fun _ _ _ h => h) (Or.inl ⟨by kernel_rfl, ?_⟩) (by assumption) ?_
          rotate_left 1
          · (intro w hSw; (try dsimp only at hSw); go_simp) <;> (with_reducible rfl)
          (try simp only [Act.put, List.setIfInBounds_toArray, List.set_cons_succ, List.set_cons_zero])
          refine wpAnyH_take (i := 23) (oi := ⟨some 96, _, _, _, _, _⟩) (v := ?_) rfl (by kernel_rfl) (by kernel_rfl) (by kernel_rfl) (fun _ _ _ h => h) (Or.inl ⟨by kernel_rfl, ?_⟩) (by assumption) ?_
          rotate_left 1
          · (intro w hSw; (try dsimp only at hSw); go_simp) <;> (with_reducible rfl)
          (try simp only [Act.put, List.setIfInBounds_toArray, List.set_cons_succ, List.set_cons_zero])
          refine wpAnyH_take (i := 24) (oi := ⟨some 97, _, _, _, _, _⟩) (v := ?_) rfl (by kernel_rfl) (by kernel_rfl) (by kernel_rfl) (fun _ _ _ h => h) (Or.inl ⟨by kernel_rfl, ?_⟩) (by assumption) ?_
          rotate_left 1
          · (intro w hSw; (try dsimp only at hSw); go_simp) <;> (with_reducible rfl)
          (try simp only [Act.put, List.setIfInBounds_toArray, List.set_cons_succ, List.set_cons_zero])
          refine wpAnyH_take (i := 25) (oi := ⟨some 98, _, _, _, _, _⟩) (v := ?_) rfl (by kernel_rfl) (by kernel_rfl) (by kernel_rfl) (fun _ _ _ h => h) (Or.inl ⟨by kernel_rfl, ?_⟩) (by assumption) ?_
          rotate_left 1
          · (intro w hSw; (try dsimp only at hSw); go_simp) <;> (with_reducible rfl)
          (try simp only [Act.put, List.setIfInBounds_toArray, List.set_cons_succ, List.set_cons_zero])
          refine wpAnyH_ready (rs := [26]) (by kernel_rfl) (by simp) ?_
          refine AllReadyH.cons (o := _) rfl (fun K' hK => ?_) AllReadyH.nil
          go_simp
          refine (C.out _ KK.out).mono ?_
          rintro e wk ⟨rfl, hbk⟩
          replace KK := hide (btrans KK.out hbk)
          clear hbk
          refine hK.out _ _ ?_ (fun hHeld => ?_)
          · exact CE.out _ KK.out
          clear hK K'
          (try simp only [Act.put, List.setIfInBounds_toArray, List.set_cons_succ, List.set_cons_zero])
          refine wpAnyH_take (i := 27) (oi := ⟨some 100, _, _, _, _, _⟩) (v := ?_) rfl (by kernel_rfl) (by kernel_rfl) (by kernel_rfl) (fun _ _ _ h => h) (Or.inl ⟨by kernel_rfl, ?_⟩) (by assumption) ?_
          rotate_left 1
          · (intro w hSw; (try dsimp only at hSw); go_simp) <;> (with_reducible rfl)
          (try simp only [Act.put, List.setIfInBounds_toArray, List.set_cons_succ, List.set_cons_zero])
          refine wpAnyH_take (i := 28) (oi := ⟨some 101, _, _, _, _, _⟩) (v := ?_) rfl (by kernel_rfl) (by kernel_rfl) (by kernel_rfl) (fun _ _ _ h => h) (Or.inl ⟨by kernel_rfl, ?_⟩) (by assumption) ?_
          rotate_left 1
          · (intro w hSw; (try dsimp only at hSw); go_simp) <;> (with_reducible rfl)
          (try simp only [Act.put, List.setIfInBounds_toArray, List.set_cons_succ, List.set_cons_zero])
          refine wpAnyH_done (by kernel_rfl) ?_ _
          refine NoPanic.normal ?_
          go_wp2
          go_roundw
          case rel => exact ⟨k + 1, by omega, by go_num, hide (btrans K.out KK.out)⟩
          case measure => simp [intOf]; omega
        · go_wp2
          clear s1 s2
          go_loopw [7] (fun i wr => ∃ k : Nat, k ≤ D.qu.length ∧ i = .int .i64 k ∧ Hid (Below W0.heap.size W0 wr)) (fun i _ => D.qu.length - (intOf i).toNat)
          case atStart => exact ⟨0, Nat.zero_le _, rfl, K⟩
          case round =>
            clear K; obtain ⟨k, hk, rfl, K⟩ := hrel
            have s1 := (X.out.below K.out).cell 4
            have s2 := (Y.out.below K.out).cell 4
            simp at s1 s2
            by_cases hlt : k < D.qu.length
            · obtain ⟨b1, o1, u1, rfl, hl1, c1, e1, f1, g1, hv1⟩ := RQ1.out.cells K.out hlt
              obtain ⟨b2, o2, u2, rfl, hl2, c2, e2, f2, g2, hv2⟩ := RQ2.out.cells K.out hlt
              have hlen := HB.out.qb _ (qAt_mem hlt)
              obtain ⟨A1, d1, rfl⟩ := hv1.form
              obtain ⟨A2, d2, rfl⟩ := hv2.form
              have C := hide (fun W (hb : Below wr.heap.size wr W) => srq (qAt D.qu k).1 (qAt D.qu k).2.1 (qAt D.qu k).2.2.1 _ _ _ W (hv1.below hb) (hv2.below hb) hlen)
              generalize (qAt D.qu k).2.2.2.length = n1 at *
              generalize (qAt D.qu k).1 = z0 at *
              generalize (qAt D.qu k).2.1 = z1 at *
              generalize (qAt D.qu k).2.2.1 = z2 at *
              clear hlen
              have KK := hide (below_drew (brefl wr))
              have CE := hide (fun (W : World) (h : Below wr.heap.size wr W) => (⟨(h.cell (p := ⟨w.heap.size, 4, none⟩) (Nat.lt_of_lt_of_le X.out.lt K.out.size)).trans s1, (h.cell (p := ⟨w.heap.size + 1, 4, none⟩) (Nat.lt_of_lt_of_le Y.out.lt K.out.size)).trans s2, (h.cell (p := ⟨b1, o1 + k * 4, none⟩) (Nat.lt_of_lt_of_le hl1 K.out.size)).trans c1, (h.cell (p := ⟨b1, o1 + k * 4 + 1, none⟩) (Nat.lt_of_lt_of_le hl1 K.out.size)).trans e1, (h.cell (p := ⟨b1, o1 + k * 4 + 2, none⟩) (Nat.lt_of_lt_of_le hl1 K.out.size)).trans f1, (h.cell (p := ⟨b1, o1 + k * 4 + 3, none⟩) (Nat.lt_of_lt_of_le hl1 K.out.size)).trans g1, (h.cell (p := ⟨b2, o2 + k * 4, none⟩) (Nat.lt_of_lt_of_le hl2 K.out.size)).trans c2, (h.cell (p := ⟨b2, o2 + k * 4 + 1, none⟩) (Nat.lt_of_lt_of_le hl2 K.out.size)).trans e2, (h.cell (p := ⟨b2, o2 + k * 4 + 2, none⟩) (Nat.lt_of_lt_of_le hl2 K.out.size)).trans f2, (h.cell (p := ⟨b2, o2 + k * 4 + 3, none⟩) (Nat.lt_of_lt_of_le hl2 K.out.size)).trans g2⟩ : W.cell? ⟨w.heap.size, 4, none⟩ = some (.slice (some ⟨b1, o1, none⟩) D.qu.length cq1) ∧ W.cell? ⟨w.heap.size + 1, 4, none⟩ = some (.slice (some ⟨b2, o2, none⟩) D.qu.length cq2) ∧ W.cell? ⟨b1, o1 + k * 4, none⟩ = some (.int .i64 z0) ∧ W.cell? ⟨b1, o1 + k * 4 + 1, none⟩ = some (.int .i64 z1) ∧ W.cell? ⟨b1, o1 + k * 4 + 2, none⟩ = some (.int .i64 z2) ∧ W.cell? ⟨b1, o1 + k * 4 + 3, none⟩ = some (.slice A1 n1 d1) ∧ W.cell? ⟨b2, o2 + k * 4, none⟩ = some (.int .i64 z0) ∧ W.cell? ⟨b2, o2 + k * 4 + 1, none⟩ = some (.int .i64 z1) ∧ W.cell? ⟨b2, o2 + k * 4 + 2, none⟩ = some (.int .i64 z2) ∧ W.cell? ⟨b2, o2 + k * 4 + 3, none⟩ = some (.slice A2 n1 d2)))
              have H := hide (And.intro hv1 hv2)
              clear hv1 hv2
              go_wp2
              refine wp_region_noPanic ?_
              refine wp_region_held_drew (S := (fun W => W.cell? ⟨w.heap.size, 4, none⟩ = some (.slice (some ⟨b1, o1, none⟩) D.qu.length cq1) ∧ W.cell? ⟨w.heap.size + 1, 4, none⟩ = some (.slice (some ⟨b2, o2, none⟩) D.qu.length cq2) ∧ W.cell? ⟨b1, o1 + k * 4, none⟩ = some (.int .i64 z0) ∧ W.cell? ⟨b1, o1 + k * 4 + 1, none⟩ = some (.int .i64 z1) ∧ W.cell? ⟨b1, o1 + k * 4 + 2, none⟩ = some (.int .i64 z2) ∧ W.cell? ⟨b1, o1 + k * 4 + 3, none⟩ = some (.slice A1 n1 d1) ∧ W.cell? ⟨b2, o2 + k * 4, none⟩ = some (.int .i64 z0) ∧ W.cell? ⟨b2, o2 + k * 4 + 1, none⟩ = some (.int .i64 z1) ∧ W.cell? ⟨b2, o2 + k * 4 + 2, none⟩ = some (.int .i64 z2) ∧ W.cell? ⟨b2, o2 + k * 4 + 3, none⟩ = some (.slice A2 n1 d2))) (by kernel_rfl) ?_ (fun hHeld => ?_)
              · exact CE.out _ KK.out
              refine wpAnyH_take (i := 0) (oi := ⟨some 109, _, _, _, _, _⟩) (v := ?_) rfl (by kernel_rfl) (by kernel_rfl) (by kernel_rfl) (fun _ _ _ h => h) (Or.inl ⟨by kernel_rfl, ?_⟩) (by assumption) ?_
              rotate_left 1
              · (intro w hSw; (try dsimp only at hSw); go_simp) <;> (with_reducible rfl)
              (try simp only [Act.put, List.setIfInBounds_toArray, List.set_cons_succ, List.set_cons_zero])
              refine wpAnyH_take (i := 1) (oi := ⟨some 110, _, _, _, _, _⟩) (v := ?_) rfl (by kernel_rfl) (by kernel_rfl) (by kernel_rfl) (fun _ _ _ h => h) (Or.inl ⟨by kernel_rfl, ?_⟩) (by assumption) ?_
              rotate_left 1
              · (intro w hSw; (try dsimp only at hSw); go_simp) <;> (with_reducible rfl)
              (try simp only [Act.put, List.setIfInBounds_toArray, List.set_cons_succ, List.set_cons_zero])
              refine wpAnyH_take (i := 2) (oi := ⟨some 111, _, _, _, _, _⟩) (v := ?_) rfl (by kernel_rfl) (by kernel_rfl) (by kernel_rfl) (fun _ _ _ h => h) (Or.inl ⟨by kernel_rfl, ?_⟩) (by assumption) ?_
              rotate_left 1
              · (intro w hSw; (try dsimp only at hSw); go_simp) <;> (with_reducible rfl)
              (try simp only [Act.put, List.setIfInBounds_toArray, List.set_cons_succ, List.set_cons_zero])
              refine wpAnyH_take (i := 3) (oi := ⟨some 112, _, _, _, _, _⟩) (v := ?_) rfl (by kernel_rfl) (by kernel_rfl) (by kernel_rfl) (fun _ _ _ h => h) (Or.inl ⟨by kernel_rfl, ?_⟩) (by assumption) ?_
              rotate_left 1
              · (intro w hSw; (try dsimp only at hSw); go_simp) <;> (with_reducible rfl)
              (try simp only [Act.put, List.setIfInBounds_toArray, List.set_cons_succ, List.set_cons_zero])
              refine wpAnyH_take (i := 4) (oi := ⟨some 113, _, _, _, _, _⟩) (v := ?_) rfl (by kernel_rfl) (by kernel_rfl) (by kernel_rfl) (fun _ _ _ h => h) (Or.inl ⟨by kernel_rfl, ?_⟩) (by assumption) ?_
              rotate_left 1
              · (intro w hSw; (try dsimp only at hSw); go_simp) <;> (with_reducible rfl)
              (try simp only [Act.put, List.setIfInBounds_toArray, List.set_cons_succ, List.set_cons_zero])
              refine wpAnyH_take (i := 5) (oi := ⟨some 114, _, _, _, _, _⟩) (v := ?_) rfl (by kernel_rfl) (by kernel_rfl) (by kernel_rfl) (fun _ _ _ h => h) (Or.inl ⟨by kernel_rfl, ?_⟩) (by assumption) ?_
              rotate_left 1
              · (intro w hSw; (try dsimp only at hSw); go_simp) <;> (with_reducible rfl)
              (try simp only [Act.put, List.setIfInBounds_toArray, List.set_cons_succ, List.set_cons_zero])
              refine wpAnyH_take (i := 6) (oi := ⟨some 115, _, _, _, _, _⟩) (v := ?_) rfl (by kernel_rfl) (by kernel_rfl) (by kernel_rfl) (fun _ _ _ h => h) (Or.inl ⟨by kernel_rfl, ?_⟩) (by assumption) ?_
              rotate_left 1
              · (intro w hSw; (try dsimp only at hSw); go_simp) <;> (with_reducible rfl)
              (try simp only [Act.put, List.setIfInBounds_toArray, List.set_cons_succ, List.set_cons_zero])
              refine wpAnyH_take (i := 7) (oi := ⟨some 116, _, _, _, _, _⟩) (v := ?_) rfl (by kernel_rfl) (by kernel_rfl) (by kernel_rfl) (fun _ _ _ h => h) (Or.inl ⟨by kernel_rfl, ?_⟩) (by assumption) ?_
              rotate_left 1
              · (intro w hSw; (try dsimp only at hSw); go_simp) <;> (with_reducible rfl)
              (try simp only [Act.put, List.setIfInBounds_toArray, List.set_cons_succ, List.set_cons_zero])
              refine wpAnyH_take (i := 8) (oi := ⟨some 117, _, _, _, _, _⟩) (v := ?_) rfl (by kernel_rfl) (by kernel_rfl) (by kernel_rfl) (fun _ _ _ h => h) (Or.inl ⟨by kernel_rfl, ?_⟩) (by assumption) ?_
              rotate_left 1
              · (intro w hSw; (try dsimp only at hSw); go_simp) <;> (with_reducible rfl)
              (try simp only [Act.put, List.setIfInBounds_toArray, List.set_cons_succ, List.set_cons_zero])
              refine wpAnyH_take (i := 9) (oi := ⟨some 118, _, _, _, _, _⟩) (v := ?_) rfl (by kernel_rfl) (by kernel_rfl) (by kernel_rfl) (fun _ _ _ h => h) (Or.inl ⟨by kernel_rfl, ?_⟩) (by assumption) ?_
              rotate_left 1
              · (intro w hSw; (try dsimp only at hSw); go_simp) <;> (with_reducible rfl)
              (try simp only [Act.put, List.setIfInBounds_toArray, List.set_cons_succ, List.set_cons_zero])
              refine wpAnyH_ready (rs := [10]) (by kernel_rfl) (by simp) ?_
              refine AllReadyH.cons (o := _) rfl (fun K' hK => ?_) AllReadyH.nil
              go_simp
              refine (C.out _ KK.out).mono ?_
              rintro e wk ⟨rfl, hbk⟩
              replace KK := hide (btrans KK.out hbk)
              clear hbk
              refine hK.out _ _ ?_ (fun hHeld => ?_)
              · exact CE.out _ KK.out
              clear hK K'
              (try simp only [Act.put, List.setIfInBounds_toArray, List.set_cons_succ, List.set_cons_zero])
              refine wpAnyH_take (i := 11) (oi := ⟨some 120, _, _, _, _, _⟩) (v := ?_) rfl (by kernel_rfl) (by kernel_rfl) (by kernel_rfl) (fun _ _ _ h => h) (Or.inl ⟨by kernel_rfl, ?_⟩) (by assumption) ?_
              rotate_left 1
              · (intro w hSw; (try dsimp only at hSw); go_simp) <;> (with_reducible rfl)
              (try simp only [Act.put, List.setIfInBounds_toArray, List.set_cons_succ, List.set_cons_zero])
              refine wpAnyH_done (by kernel_rfl) ?_ _
              refine NoPanic.normal ?_
              go_wp2
              go_roundw
              case rel => exact ⟨k + 1, by omega, by go_num, hide (btrans K.out KK.out)⟩
              case measure => simp [intOf]; omega
            · go_wp2
              clear s1 s2
              go_ret
              exact ⟨rfl, btrans K0.out K.out⟩
end Go.Proofs.Ytnegigcjeoenmaa.Dv
