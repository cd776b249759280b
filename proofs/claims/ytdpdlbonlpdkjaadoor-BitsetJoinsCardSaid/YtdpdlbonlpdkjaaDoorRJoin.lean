import Derived.Test.YtdpdlbonlpdkjaaDoorLMorgan
namespace Go.Proofs.YtdpdlbonlpdkjaaDoor.Bs
open Go Go.RowKit
set_option linter.unusedVariables false
theorem bits_join {ws zs : List Nat} {S : Nat} {v : Nat → Bool} (h : putAll ws zs v S) (hc : chk (S : Int) ws = 0) (hv : ∀ i, S ≤ i → v i = false) : bitsAre ws.length zs v :=
  (bits_of_put h hc).congr fun i _ => by
    by_cases c : i < S
    · simp [c]
    · simp [c, hv i (by omega)]

theorem rcand_bad (s t e0 : Int) (A B : Option Addr) (xs ys : List Nat) (c d : Nat) (w : World) (ha : Wd w A xs) (hb : Wd w B ys) (hx : ∀ x ∈ xs, x < 2 ^ 64) (hy : ∀ x ∈ ys, x < 2 ^ 64) (he : bothE s t xs ys = e0) (h : (e0 == 0) = false) :
    Calls Tryd.prog 28 #[.agg #[.int .i64 s, .slice A xs.length c], .agg #[.int .i64 t, .slice B ys.length d]] w (BitsMine 0 [] e0 w) := by
  obtain ⟨W0, hW0⟩ : ∃ W0 : World, W0 = ((w.alloc (.cells #[.int .i64 s, .slice A xs.length c] 24)).alloc (.cells #[.int .i64 t, .slice B ys.length d] 24)).alloc (.cells #[.int .i64 0, .slice none 0 0] 24) := ⟨_, rfl⟩
  have hb0 : Below w.heap.size w W0 := by rw [hW0]; exact bal (bal (bal (brefl _) _) _) _
  have HC := both_any s t _ _ A B xs ys c d W0 (ha.below hb0) (hb.below hb0) hx hy rfl rfl
  rw [he, hW0] at HC
  have HA := hide HC
  have h2 : (e0 != 0) = true := by rw [bne, h]; rfl
  clear HC ha hb hx hy hb0 hW0 he
  clear W0
  go_enter Tryd.func28, Tryd.ntmps28
  go_wp2_with (go_at_call 47; refine HA.out.mono ?_; rintro e w1 ⟨rfl, hb1⟩; obtain ⟨hc1, hf1⟩ := bcell hb1)
  have hbw := btrans (bal (bal (bal (brefl w) (.cells #[.int .i64 s, .slice A xs.length c] 24)) (.cells #[.int .i64 t, .slice B ys.length d] 24)) (.cells #[.int .i64 0, .slice none 0 0] 24)) hb1
  refine bodyPost_ret (v := .tuple #[.agg #[.int .i64 0, .slice none 0 0], .int .i64 e0]) (by simp [results, Tryd.results28, go_sem, hc1]) rfl (bitsMine_err ⟨rfl, ?_⟩)
  repeat (first | exact hbw | refine bset ?_ (by show w.heap.size ≤ w.heap.size + 1 + 1; omega) _)
set_option maxHeartbeats 8000000 in
theorem rcand_good (S : Nat) (A B : Option Addr) (xs ys : List Nat) (c d : Nat) (w : World) (ha : Wd w A xs) (hb : Wd w B ys) (hx : ∀ x ∈ xs, x < 2 ^ 64) (hy : ∀ x ∈ ys, x < 2 ^ 64) (h1 : chk (S : Int) xs = 0) (h2 : chk (S : Int) ys = 0) :
    Calls Tryd.prog 28 #[.agg #[.int .i64 S, .slice A xs.length c], .agg #[.int .i64 S, .slice B ys.length d]] w fun e w' => ∃ A' c' zs, e = .returned (.tuple #[.agg #[.int .i64 S, .slice A' xs.length c'], .int .i64 0]) ∧ bitsAre xs.length zs (candV xs ys) ∧ Mine w.heap.size w' A' zs ∧ Below w.heap.size w w' := by
  obtain ⟨v1, p2, p3, p4⟩ := valid_len h1
  obtain ⟨v2, q2, q3, q4⟩ := valid_len h2
  have hS1 : S ≤ 64 * xs.length := by omega
  have hS3 : S ≤ 64 * ys.length := by omega
  have hS2 : S ≤ 4096 := by omega
  obtain ⟨W0, hW0⟩ : ∃ W0 : World, W0 = ((w.alloc (.cells #[.int .i64 S, .slice A xs.length c] 24)).alloc (.cells #[.int .i64 S, .slice B ys.length d] 24)).alloc (.cells #[.int .i64 0, .slice none 0 0] 24) := ⟨_, rfl⟩
  have hb0 : Below w.heap.size w W0 := by rw [hW0]; exact bal (bal (bal (brefl _) _) _) _
  have bb0 : BoxIs W0 w.heap.size S (.slice A xs.length c) := by rw [hW0]; exact ((BoxIs.new w S _).alloc _).alloc _
  have bb1 : BoxIs W0 (w.heap.size + 1) S (.slice B ys.length d) := by
    rw [hW0]
    have := (BoxIs.new (w.alloc (.cells #[.int .i64 S, .slice A xs.length c] 24)) S (.slice B ys.length d)).alloc (.cells #[.int .i64 0, .slice none 0 0] 24)
    simpa using this
  have bb2 : BoxIs W0 (w.heap.size + 1 + 1) 0 (.slice none 0 0) := by
    rw [hW0]
    have := BoxIs.new ((w.alloc (.cells #[.int .i64 S, .slice A xs.length c] 24)).alloc (.cells #[.int .i64 S, .slice B ys.length d] 24)) 0 (.slice none 0 0)
    simpa using this
  have hz0 : W0.heap.size = w.heap.size + 1 + 1 + 1 := by rw [hW0]; simp
  have hr1 := ha.below hb0
  have hr2 := hb.below hb0
  have HC := both_any S S _ _ A B xs ys c d W0 hr1 hr2 hx hy rfl rfl
  rw [show bothE S S xs ys = 0 by unfold bothE; rw [if_pos h1, if_pos h2, if_pos rfl]] at HC
  have HK : ∀ W, Below W0.heap.size W0 W → Calls Tryd.prog 36 #[.agg #[.int .i64 S, .slice A xs.length c]] W fun e w' => ∃ A' c', e = .returned (.agg #[.int .i64 S, .slice A' xs.length c']) ∧ Mine W.heap.size w' A' xs ∧ Below W.heap.size W w' := fun W hW => copy_any S A xs c W (hr1.below hW) v1
  have HT1 : ∀ (k : Nat), k < S → ∀ W, Below W0.heap.size W0 W → Calls Tryd.prog 35 #[.agg #[.int .i64 S, .slice A xs.length c], .int .i64 k] W fun e w' => e = .returned (.bool (bitAt xs k)) ∧ Below W.heap.size W w' := fun k hk W hW => bit_any S A xs c k W (hr1.below hW) hx v1 (by omega)
  have HT2 : ∀ (k : Nat), k < S → ∀ W, Below W0.heap.size W0 W → Calls Tryd.prog 35 #[.agg #[.int .i64 S, .slice B ys.length d], .int .i64 k] W fun e w' => e = .returned (.bool (bitAt ys k)) ∧ Below W.heap.size W w' := fun k hk W hW => bit_any S B ys d k W (hr2.below hW) hy v2 (by omega)
  have HA := hide HC
  have HKK := hide HK
  have HB1 := hide HT1
  have HB2 := hide HT2
  have HX := hide hx
  have HE := hide (And.intro h1 h2)
  have HZ0 := hide hz0
  have HO0 := hide hb0
  have G0 := hide bb0
  have G1 := hide bb1
  have G2 := hide bb2
  clear HC HK HT1 HT2 ha hb hx hy hb0 h1 h2 hz0 hr1 hr2 bb0 bb1 bb2 p2 p3 p4 q2 q3 q4
  go_enter Tryd.func28, Tryd.ntmps28
  go_wp2_with fail
  rw [← hW0]
  clear hW0
  refine HA.out.mono ?_
  rintro e w1 ⟨rfl, hb1⟩
  have K1 := hide hb1
  have p0 := (G0.out.below hb1).c0
  have p1 := (G0.out.below hb1).c1
  clear hb1
  go_wp2_with fail
  refine (HKK.out _ K1.out).mono ?_
  rintro e w3 ⟨A3, c3, rfl, hm3, hb3⟩
  have hm0 : Mine W0.heap.size w3 A3 xs := hm3.mono K1.out.size
  have K3 := hide (btrans K1.out hb3)
  obtain ⟨g, hgB, hgne, hgo⟩ := mine_row hm0 K3.out.size
  have HGO := hide hgo
  clear hb3 hm3 hm0 p0 p1 HA HKK hgo
  go_wp2_with fail
  go_loopw [8] (fun i wr => ∃ (k : Nat) (zs : List Nat), k ≤ S ∧ i = .int .i64 k ∧ putAll xs zs (candV xs ys) k ∧ (xs ≠ [] → Own wr g zs) ∧ (w3.alloc (.cells #[.int .i64 (S : Int), .slice A3 xs.length c3] 24)).grownBy wr (some g)) (fun i _ => S - (intOf i).toNat)
  case atStart => exact ⟨0, xs, by omega, rfl, putAll_start HX.out, fun h => (HGO.out h).2.alloc _, grefl _ _⟩
  case round =>
    obtain ⟨k, zs, hk2, rfl, hfl, hown, hgr⟩ := hrel
    have hbx : BoxIs wr w3.heap.size S (.slice A3 xs.length c3) := (BoxIs.new w3 S (.slice A3 xs.length c3)).grown hgr (by intro e; injection e with e; exact hgne e.symm)
    have hbw : Below W0.heap.size W0 wr := (K3.out.alloc K3.out.size _).trans (gbelow hgr hgB (by have := K3.out.size; simp; omega))
    have HXC := hide hbx
    have HBW := hide hbw
    have d0 := hbx.c0
    have d1 := hbx.c1
    have c0 := (G0.out.below hbw).c0
    have c1 := (G0.out.below hbw).c1
    have e0 := (G1.out.below hbw).c0
    have e1 := (G1.out.below hbw).c1
    have HF := hide hfl
    have HG := hide hgr
    have HO := hide hown
    clear hfl hgr hown hbx hbw
    by_cases hlt : k < S
    · have hne : xs ≠ [] := by rintro rfl; simp at hS1; omega
      obtain ⟨e3, _⟩ := HGO.out hne
      subst e3
      have ht1 := HB1.out k hlt
      have ht2 := HB2.out k hlt
      have hpt : ∀ W, Below wr.heap.size wr W → Calls Tryd.prog 37 #[.agg #[.int .i64 S, .slice (some ⟨g, 0, none⟩) xs.length c3], .int .i64 k, .bool (bitAt xs k && bitAt ys k)] W fun e w' => e = .returned (.tuple #[]) ∧ Own w' g (zs.set (k / 64) (putW (bitAt xs k && bitAt ys k) (zs.getD (k / 64) 0) (k % 64))) ∧ W.grownBy w' (some g) := fun W hW =>
        put_any (S : Int) xs.length k g c3 zs _ W ((HO.out hne).below hW (HO.out hne).lt) HF.out.2.1 (by rw [HF.out.1]; omega) HF.out.1.symm v1
      have hst : putAll xs (zs.set (k / 64) (putW (bitAt xs k && bitAt ys k) (zs.getD (k / 64) 0) (k % 64))) (candV xs ys) (k + 1) := putAll_step (v := candV xs ys) HF.out (k := k) (by omega)
      obtain ⟨va, hva⟩ : ∃ v, v = bitAt xs k := ⟨_, rfl⟩
      obtain ⟨vb, hvb⟩ : ∃ v, v = bitAt ys k := ⟨_, rfl⟩
      rw [← hva] at ht1 hpt hst
      rw [← hvb] at ht2 hpt hst
      clear hva hvb hne
      have K := hide (brefl wr)
      cases va
      · have HT1 := hide ht1
        have HT2 := hide ht2
        have HST := hide hst
        simp only [Bool.false_and] at hpt
        have HPT := hide hpt
        clear ht1 ht2 hpt hst
        go_wp2_with fail
        (first | (go_region_with (first
          | (go_at_call_of 35 (Value.agg #[Value.int IntKind.i64 (S : Int), Value.slice A xs.length c]); refine (HT1.out _ (by first | exact btrans HBW.out K.out | exact below_drewN (btrans HBW.out K.out) _)).mono ?_; rintro e wk ⟨rfl, hbk⟩; replace K : Hid (Below wr.heap.size wr wk) := hide (by first | exact btrans K.out hbk | exact btrans (below_drewN K.out _) hbk); have p0 := (G0.out.below (btrans HBW.out K.out)).c0; have p1 := (G0.out.below (btrans HBW.out K.out)).c1; have p4 := (HXC.out.below K.out).c0; have p5 := (HXC.out.below K.out).c1; clear hbk)
          | (go_at_call 37; refine (HPT.out _ (by first | exact K.out | exact below_drewN K.out _)).mono ?_; rintro e w4 ⟨rfl, ho4, hg4⟩; have hgg : wr.grownBy w4 (some g) := (by first | exact gtrans (gob K.out) hg4 | exact gtrans (gdrewN (gob K.out) _) hg4); have HO4 := hide ho4; have HG4 := hide hgg; clear ho4 hg4 hgg))) | fail)
        all_goals
          go_wp2
          go_roundw
          case rel => exact ⟨k + 1, _, by omega, by go_num, HST.out, fun _ => HO4.out, gtrans HG.out HG4.out⟩
          case measure => simp [intOf]; omega
      · have HT1 := hide ht1
        have HT2 := hide ht2
        have HST := hide hst
        simp only [Bool.true_and] at hpt
        have HPT := hide hpt
        clear ht1 ht2 hpt hst
        go_wp2_with fail
        (first | (go_region_held3 (fun w' => w'.cell? ⟨w.heap.size, 0, none⟩ = some (.int .i64 S) ∧ w'.cell? ⟨w.heap.size, 1, none⟩ = some (.slice A xs.length c) ∧ w'.cell? ⟨w.heap.size + 1, 0, none⟩ = some (.int .i64 S) ∧ w'.cell? ⟨w.heap.size + 1, 1, none⟩ = some (.slice B ys.length d) ∧ w'.cell? ⟨w3.heap.size, 0, none⟩ = some (.int .i64 S) ∧ w'.cell? ⟨w3.heap.size, 1, none⟩ = some (.slice (some ⟨g, 0, none⟩) xs.length c3))
          (first
            | exact ⟨(G0.out.below (btrans HBW.out K.out)).c0, (G0.out.below (btrans HBW.out K.out)).c1, (by simpa [HZ0.out] using (G1.out.below (btrans HBW.out K.out)).c0), (G1.out.below (btrans HBW.out K.out)).c1, (HXC.out.below K.out).c0, (HXC.out.below K.out).c1⟩
            | exact ⟨(G0.out.below KP.out).c0, (G0.out.below KP.out).c1, (G1.out.below KP.out).c0, (G1.out.below KP.out).c1, KQ.out.c0, KQ.out.c1⟩)
          (first
          | (go_at_call_of 35 (Value.agg #[Value.int IntKind.i64 (S : Int), Value.slice A xs.length c]); refine (HT1.out _ (by first | exact btrans HBW.out K.out | exact below_drewN (btrans HBW.out K.out) _)).mono ?_; rintro e wk ⟨rfl, hbk⟩; replace K : Hid (Below wr.heap.size wr wk) := hide (by first | exact btrans K.out hbk | exact btrans (below_drewN K.out _) hbk); clear hbk)
          | (go_at_call_of 35 (Value.agg #[Value.int IntKind.i64 (S : Int), Value.slice B ys.length d]); refine (HT2.out _ (by first | exact btrans HBW.out K.out | exact below_drewN (btrans HBW.out K.out) _)).mono ?_; rintro e wl ⟨rfl, hbk⟩; replace K : Hid (Below wr.heap.size wr wl) := hide (by first | exact btrans K.out hbk | exact btrans (below_drewN K.out _) hbk); clear hbk)
          | (go_at_call 37; refine (HPT.out _ (by first | exact K.out | exact below_drewN K.out _)).mono ?_; rintro e w4 ⟨rfl, ho4, hg4⟩; have hgg : wr.grownBy w4 (some g) := (by first | exact gtrans (gob K.out) hg4 | exact gtrans (gdrewN (gob K.out) _) hg4); have KP := hide (HBW.out.trans (gbelow hgg hgB HBW.out.size)); have KQ := hide (HXC.out.grown hgg (by intro e; injection e with e; exact hgne e.symm)); have HO4 := hide ho4; have HG4 := hide hgg; clear ho4 hg4 hgg))) | fail)
        all_goals
          go_wp2
          go_roundw
          case rel => exact ⟨k + 1, _, by omega, by go_num, HST.out, fun _ => HO4.out, gtrans HG.out HG4.out⟩
          case measure => simp [intOf]; omega
    · obtain rfl : k = S := by omega
      have f0 := G2.out.below HBW.out
      have m0 := f0.c0
      have m1 := f0.c1
      have m2 := f0.free 0
      have m3 := f0.free 1
      clear f0
      go_wp2
      refine bodyPost_ret (v := .tuple #[.agg #[.int .i64 k, .slice A3 xs.length c3], .int .i64 0]) (by simp [results, Tryd.results28, go_sem, m0, m1]) rfl ⟨A3, c3, zs, rfl, bits_join HF.out HE.out.1 (fun i hi => by unfold candV; rw [no_bit HE.out.1 i hi]; first | rfl | (rw [no_bit HE.out.2 i hi]; rfl)), ?_, ?_⟩
      · intro hn
        have hne : xs ≠ [] := by rintro rfl; have := HF.out.1; simp at this; exact hn this
        have hz0 := HZ0.out
        exact ⟨g, (HGO.out hne).1, by omega, ((HO.out hne).far (by show g ≠ w.heap.size + 1 + 1; omega) _).far (by show g ≠ w.heap.size + 1 + 1; omega) _⟩
      · exact bset (bset (btrans HO0.out HBW.out) (by show w.heap.size ≤ w.heap.size + 1 + 1; omega) _) (by show w.heap.size ≤ w.heap.size + 1 + 1; omega) _
theorem rcor_bad (s t e0 : Int) (A B : Option Addr) (xs ys : List Nat) (c d : Nat) (w : World) (ha : Wd w A xs) (hb : Wd w B ys) (hx : ∀ x ∈ xs, x < 2 ^ 64) (hy : ∀ x ∈ ys, x < 2 ^ 64) (he : bothE s t xs ys = e0) (h : (e0 == 0) = false) :
    Calls Tryd.prog 30 #[.agg #[.int .i64 s, .slice A xs.length c], .agg #[.int .i64 t, .slice B ys.length d]] w (BitsMine 0 [] e0 w) := by
  obtain ⟨W0, hW0⟩ : ∃ W0 : World, W0 = ((w.alloc (.cells #[.int .i64 s, .slice A xs.length c] 24)).alloc (.cells #[.int .i64 t, .slice B ys.length d] 24)).alloc (.cells #[.int .i64 0, .slice none 0 0] 24) := ⟨_, rfl⟩
  have hb0 : Below w.heap.size w W0 := by rw [hW0]; exact bal (bal (bal (brefl _) _) _) _
  have HC := both_any s t _ _ A B xs ys c d W0 (ha.below hb0) (hb.below hb0) hx hy rfl rfl
  rw [he, hW0] at HC
  have HA := hide HC
  have h2 : (e0 != 0) = true := by rw [bne, h]; rfl
  clear HC ha hb hx hy hb0 hW0 he
  clear W0
  go_enter Tryd.func30, Tryd.ntmps30
  go_wp2_with (go_at_call 47; refine HA.out.mono ?_; rintro e w1 ⟨rfl, hb1⟩; obtain ⟨hc1, hf1⟩ := bcell hb1)
  have hbw := btrans (bal (bal (bal (brefl w) (.cells #[.int .i64 s, .slice A xs.length c] 24)) (.cells #[.int .i64 t, .slice B ys.length d] 24)) (.cells #[.int .i64 0, .slice none 0 0] 24)) hb1
  refine bodyPost_ret (v := .tuple #[.agg #[.int .i64 0, .slice none 0 0], .int .i64 e0]) (by simp [results, Tryd.results30, go_sem, hc1]) rfl (bitsMine_err ⟨rfl, ?_⟩)
  repeat (first | exact hbw | refine bset ?_ (by show w.heap.size ≤ w.heap.size + 1 + 1; omega) _)
set_option maxHeartbeats 8000000 in
theorem rcor_good (S : Nat) (A B : Option Addr) (xs ys : List Nat) (c d : Nat) (w : World) (ha : Wd w A xs) (hb : Wd w B ys) (hx : ∀ x ∈ xs, x < 2 ^ 64) (hy : ∀ x ∈ ys, x < 2 ^ 64) (h1 : chk (S : Int) xs = 0) (h2 : chk (S : Int) ys = 0) :
    Calls Tryd.prog 30 #[.agg #[.int .i64 S, .slice A xs.length c], .agg #[.int .i64 S, .slice B ys.length d]] w fun e w' => ∃ A' c' zs, e = .returned (.tuple #[.agg #[.int .i64 S, .slice A' xs.length c'], .int .i64 0]) ∧ bitsAre xs.length zs (corV xs ys) ∧ Mine w.heap.size w' A' zs ∧ Below w.heap.size w w' := by
  obtain ⟨v1, p2, p3, p4⟩ := valid_len h1
  obtain ⟨v2, q2, q3, q4⟩ := valid_len h2
  have hS1 : S ≤ 64 * xs.length := by omega
  have hS3 : S ≤ 64 * ys.length := by omega
  have hS2 : S ≤ 4096 := by omega
  obtain ⟨W0, hW0⟩ : ∃ W0 : World, W0 = ((w.alloc (.cells #[.int .i64 S, .slice A xs.length c] 24)).alloc (.cells #[.int .i64 S, .slice B ys.length d] 24)).alloc (.cells #[.int .i64 0, .slice none 0 0] 24) := ⟨_, rfl⟩
  have hb0 : Below w.heap.size w W0 := by rw [hW0]; exact bal (bal (bal (brefl _) _) _) _
  have bb0 : BoxIs W0 w.heap.size S (.slice A xs.length c) := by rw [hW0]; exact ((BoxIs.new w S _).alloc _).alloc _
  have bb1 : BoxIs W0 (w.heap.size + 1) S (.slice B ys.length d) := by
    rw [hW0]
    have := (BoxIs.new (w.alloc (.cells #[.int .i64 S, .slice A xs.length c] 24)) S (.slice B ys.length d)).alloc (.cells #[.int .i64 0, .slice none 0 0] 24)
    simpa using this
  have bb2 : BoxIs W0 (w.heap.size + 1 + 1) 0 (.slice none 0 0) := by
    rw [hW0]
    have := BoxIs.new ((w.alloc (.cells #[.int .i64 S, .slice A xs.length c] 24)).alloc (.cells #[.int .i64 S, .slice B ys.length d] 24)) 0 (.slice none 0 0)
    simpa using this
  have hz0 : W0.heap.size = w.heap.size + 1 + 1 + 1 := by rw [hW0]; simp
  have hr1 := ha.below hb0
  have hr2 := hb.below hb0
  have HC := both_any S S _ _ A B xs ys c d W0 hr1 hr2 hx hy rfl rfl
  rw [show bothE S S xs ys = 0 by unfold bothE; rw [if_pos h1, if_pos h2, if_pos rfl]] at HC
  have HK : ∀ W, Below W0.heap.size W0 W → Calls Tryd.prog 36 #[.agg #[.int .i64 S, .slice A xs.length c]] W fun e w' => ∃ A' c', e = .returned (.agg #[.int .i64 S, .slice A' xs.length c']) ∧ Mine W.heap.size w' A' xs ∧ Below W.heap.size W w' := fun W hW => copy_any S A xs c W (hr1.below hW) v1
  have HT1 : ∀ (k : Nat), k < S → ∀ W, Below W0.heap.size W0 W → Calls Tryd.prog 35 #[.agg #[.int .i64 S, .slice A xs.length c], .int .i64 k] W fun e w' => e = .returned (.bool (bitAt xs k)) ∧ Below W.heap.size W w' := fun k hk W hW => bit_any S A xs c k W (hr1.below hW) hx v1 (by omega)
  have HT2 : ∀ (k : Nat), k < S → ∀ W, Below W0.heap.size W0 W → Calls Tryd.prog 35 #[.agg #[.int .i64 S, .slice B ys.length d], .int .i64 k] W fun e w' => e = .returned (.bool (bitAt ys k)) ∧ Below W.heap.size W w' := fun k hk W hW => bit_any S B ys d k W (hr2.below hW) hy v2 (by omega)
  have HA := hide HC
  have HKK := hide HK
  have HB1 := hide HT1
  have HB2 := hide HT2
  have HX := hide hx
  have HE := hide (And.intro h1 h2)
  have HZ0 := hide hz0
  have HO0 := hide hb0
  have G0 := hide bb0
  have G1 := hide bb1
  have G2 := hide bb2
  clear HC HK HT1 HT2 ha hb hx hy hb0 h1 h2 hz0 hr1 hr2 bb0 bb1 bb2 p2 p3 p4 q2 q3 q4
  go_enter Tryd.func30, Tryd.ntmps30
  go_wp2_with fail
  rw [← hW0]
  clear hW0
  refine HA.out.mono ?_
  rintro e w1 ⟨rfl, hb1⟩
  have K1 := hide hb1
  have p0 := (G0.out.below hb1).c0
  have p1 := (G0.out.below hb1).c1
  clear hb1
  go_wp2_with fail
  refine (HKK.out _ K1.out).mono ?_
  rintro e w3 ⟨A3, c3, rfl, hm3, hb3⟩
  have hm0 : Mine W0.heap.size w3 A3 xs := hm3.mono K1.out.size
  have K3 := hide (btrans K1.out hb3)
  obtain ⟨g, hgB, hgne, hgo⟩ := mine_row hm0 K3.out.size
  have HGO := hide hgo
  clear hb3 hm3 hm0 p0 p1 HA HKK hgo
  go_wp2_with fail
  go_loopw [8] (fun i wr => ∃ (k : Nat) (zs : List Nat), k ≤ S ∧ i = .int .i64 k ∧ putAll xs zs (corV xs ys) k ∧ (xs ≠ [] → Own wr g zs) ∧ (w3.alloc (.cells #[.int .i64 (S : Int), .slice A3 xs.length c3] 24)).grownBy wr (some g)) (fun i _ => S - (intOf i).toNat)
  case atStart => exact ⟨0, xs, by omega, rfl, putAll_start HX.out, fun h => (HGO.out h).2.alloc _, grefl _ _⟩
  case round =>
    obtain ⟨k, zs, hk2, rfl, hfl, hown, hgr⟩ := hrel
    have hbx : BoxIs wr w3.heap.size S (.slice A3 xs.length c3) := (BoxIs.new w3 S (.slice A3 xs.length c3)).grown hgr (by intro e; injection e with e; exact hgne e.symm)
    have hbw : Below W0.heap.size W0 wr := (K3.out.alloc K3.out.size _).trans (gbelow hgr hgB (by have := K3.out.size; simp; omega))
    have HXC := hide hbx
    have HBW := hide hbw
    have d0 := hbx.c0
    have d1 := hbx.c1
    have c0 := (G0.out.below hbw).c0
    have c1 := (G0.out.below hbw).c1
    have e0 := (G1.out.below hbw).c0
    have e1 := (G1.out.below hbw).c1
    have HF := hide hfl
    have HG := hide hgr
    have HO := hide hown
    clear hfl hgr hown hbx hbw
    by_cases hlt : k < S
    · have hne : xs ≠ [] := by rintro rfl; simp at hS1; omega
      obtain ⟨e3, _⟩ := HGO.out hne
      subst e3
      have ht1 := HB1.out k hlt
      have ht2 := HB2.out k hlt
      have hpt : ∀ W, Below wr.heap.size wr W → Calls Tryd.prog 37 #[.agg #[.int .i64 S, .slice (some ⟨g, 0, none⟩) xs.length c3], .int .i64 k, .bool (bitAt xs k || bitAt ys k)] W fun e w' => e = .returned (.tuple #[]) ∧ Own w' g (zs.set (k / 64) (putW (bitAt xs k || bitAt ys k) (zs.getD (k / 64) 0) (k % 64))) ∧ W.grownBy w' (some g) := fun W hW =>
        put_any (S : Int) xs.length k g c3 zs _ W ((HO.out hne).below hW (HO.out hne).lt) HF.out.2.1 (by rw [HF.out.1]; omega) HF.out.1.symm v1
      have hst : putAll xs (zs.set (k / 64) (putW (bitAt xs k || bitAt ys k) (zs.getD (k / 64) 0) (k % 64))) (corV xs ys) (k + 1) := putAll_step (v := corV xs ys) HF.out (k := k) (by omega)
      obtain ⟨va, hva⟩ : ∃ v, v = bitAt xs k := ⟨_, rfl⟩
      obtain ⟨vb, hvb⟩ : ∃ v, v = bitAt ys k := ⟨_, rfl⟩
      rw [← hva] at ht1 hpt hst
      rw [← hvb] at ht2 hpt hst
      clear hva hvb hne
      have K := hide (brefl wr)
      cases va
      · have HT1 := hide ht1
        have HT2 := hide ht2
        have HST := hide hst
        simp only [Bool.false_or] at hpt
        have HPT := hide hpt
        clear ht1 ht2 hpt hst
        go_wp2_with fail
        (first | (go_region_held3 (fun w' => w'.cell? ⟨w.heap.size, 0, none⟩ = some (.int .i64 S) ∧ w'.cell? ⟨w.heap.size, 1, none⟩ = some (.slice A xs.length c) ∧ w'.cell? ⟨w.heap.size + 1, 0, none⟩ = some (.int .i64 S) ∧ w'.cell? ⟨w.heap.size + 1, 1, none⟩ = some (.slice B ys.length d) ∧ w'.cell? ⟨w3.heap.size, 0, none⟩ = some (.int .i64 S) ∧ w'.cell? ⟨w3.heap.size, 1, none⟩ = some (.slice (some ⟨g, 0, none⟩) xs.length c3))
          (first
            | exact ⟨(G0.out.below (btrans HBW.out K.out)).c0, (G0.out.below (btrans HBW.out K.out)).c1, (by simpa [HZ0.out] using (G1.out.below (btrans HBW.out K.out)).c0), (G1.out.below (btrans HBW.out K.out)).c1, (HXC.out.below K.out).c0, (HXC.out.below K.out).c1⟩
            | exact ⟨(G0.out.below KP.out).c0, (G0.out.below KP.out).c1, (G1.out.below KP.out).c0, (G1.out.below KP.out).c1, KQ.out.c0, KQ.out.c1⟩)
          (first
          | (go_at_call_of 35 (Value.agg #[Value.int IntKind.i64 (S : Int), Value.slice A xs.length c]); refine (HT1.out _ (by first | exact btrans HBW.out K.out | exact below_drewN (btrans HBW.out K.out) _)).mono ?_; rintro e wk ⟨rfl, hbk⟩; replace K : Hid (Below wr.heap.size wr wk) := hide (by first | exact btrans K.out hbk | exact btrans (below_drewN K.out _) hbk); clear hbk)
          | (go_at_call_of 35 (Value.agg #[Value.int IntKind.i64 (S : Int), Value.slice B ys.length d]); refine (HT2.out _ (by first | exact btrans HBW.out K.out | exact below_drewN (btrans HBW.out K.out) _)).mono ?_; rintro e wl ⟨rfl, hbk⟩; replace K : Hid (Below wr.heap.size wr wl) := hide (by first | exact btrans K.out hbk | exact btrans (below_drewN K.out _) hbk); clear hbk)
          | (go_at_call 37; refine (HPT.out _ (by first | exact K.out | exact below_drewN K.out _)).mono ?_; rintro e w4 ⟨rfl, ho4, hg4⟩; have hgg : wr.grownBy w4 (some g) := (by first | exact gtrans (gob K.out) hg4 | exact gtrans (gdrewN (gob K.out) _) hg4); have KP := hide (HBW.out.trans (gbelow hgg hgB HBW.out.size)); have KQ := hide (HXC.out.grown hgg (by intro e; injection e with e; exact hgne e.symm)); have HO4 := hide ho4; have HG4 := hide hgg; clear ho4 hg4 hgg))) | fail)
        all_goals
          go_wp2
          go_roundw
          case rel => exact ⟨k + 1, _, by omega, by go_num, HST.out, fun _ => HO4.out, gtrans HG.out HG4.out⟩
          case measure => simp [intOf]; omega
      · have HT1 := hide ht1
        have HT2 := hide ht2
        have HST := hide hst
        simp only [Bool.true_or] at hpt
        have HPT := hide hpt
        clear ht1 ht2 hpt hst
        go_wp2_with fail
        (first | (go_region_with (first
          | (go_at_call_of 35 (Value.agg #[Value.int IntKind.i64 (S : Int), Value.slice A xs.length c]); refine (HT1.out _ (by first | exact btrans HBW.out K.out | exact below_drewN (btrans HBW.out K.out) _)).mono ?_; rintro e wk ⟨rfl, hbk⟩; replace K : Hid (Below wr.heap.size wr wk) := hide (by first | exact btrans K.out hbk | exact btrans (below_drewN K.out _) hbk); have p0 := (G0.out.below (btrans HBW.out K.out)).c0; have p1 := (G0.out.below (btrans HBW.out K.out)).c1; have p4 := (HXC.out.below K.out).c0; have p5 := (HXC.out.below K.out).c1; clear hbk)
          | (go_at_call 37; refine (HPT.out _ (by first | exact K.out | exact below_drewN K.out _)).mono ?_; rintro e w4 ⟨rfl, ho4, hg4⟩; have hgg : wr.grownBy w4 (some g) := (by first | exact gtrans (gob K.out) hg4 | exact gtrans (gdrewN (gob K.out) _) hg4); have HO4 := hide ho4; have HG4 := hide hgg; clear ho4 hg4 hgg))) | fail)
        all_goals
          go_wp2
          go_roundw
          case rel => exact ⟨k + 1, _, by omega, by go_num, HST.out, fun _ => HO4.out, gtrans HG.out HG4.out⟩
          case measure => simp [intOf]; omega
    · obtain rfl : k = S := by omega
      have f0 := G2.out.below HBW.out
      have m0 := f0.c0
      have m1 := f0.c1
      have m2 := f0.free 0
      have m3 := f0.free 1
      clear f0
      go_wp2
      refine bodyPost_ret (v := .tuple #[.agg #[.int .i64 k, .slice A3 xs.length c3], .int .i64 0]) (by simp [results, Tryd.results30, go_sem, m0, m1]) rfl ⟨A3, c3, zs, rfl, bits_join HF.out HE.out.1 (fun i hi => by unfold corV; rw [no_bit HE.out.1 i hi]; first | rfl | (rw [no_bit HE.out.2 i hi]; rfl)), ?_, ?_⟩
      · intro hn
        have hne : xs ≠ [] := by rintro rfl; have := HF.out.1; simp at this; exact hn this
        have hz0 := HZ0.out
        exact ⟨g, (HGO.out hne).1, by omega, ((HO.out hne).far (by show g ≠ w.heap.size + 1 + 1; omega) _).far (by show g ≠ w.heap.size + 1 + 1; omega) _⟩
      · exact bset (bset (btrans HO0.out HBW.out) (by show w.heap.size ≤ w.heap.size + 1 + 1; omega) _) (by show w.heap.size ≤ w.heap.size + 1 + 1; omega) _
end Go.Proofs.YtdpdlbonlpdkjaaDoor.Bs
