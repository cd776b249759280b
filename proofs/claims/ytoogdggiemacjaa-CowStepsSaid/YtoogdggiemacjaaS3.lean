import Derived.Test.YtoogdggiemacjaaG13
import Derived.Test.YtoogdggiemacjaaG14
import Derived.Test.YtoogdggiemacjaaG5
import Derived.Test.YtoogdggiemacjaaG4
import Derived.Test.YtoogdggiemacjaaL8
namespace Go.Proofs.Ytoogdggiemacjaa.Cw
open Go Go.RowKit
set_option linter.unusedVariables false
set_option linter.unusedSimpArgs false
/-- what a machine of the laws is -/
def Good (M : Cow) : Prop := chE M = 0 ∨ M = zeroM
theorem big_zero : Big zeroM := ⟨by decide, by decide, fun k hk => absurd hk (Nat.not_lt_zero _)⟩
theorem Good.big {M : Cow} (h : Good M) : Big M := by
  rcases h with h | rfl
  · exact big_of h
  · exact big_zero
theorem err_play (M : Cow) (k s p x : Int) (h : (plG M k s p x).2.2 ≠ 0) : (plG M k s p x).1 = zeroM ∨ (plG M k s p x).1 = M := by
  unfold plG at h ⊢
  split
  · left
    rw [if_pos (by assumption)] at h
    revert h
    unfold wrG1
    split
    · intro _; rfl
    · unfold wrM
      split
      · intro h; exact absurd rfl h
      · split
        · intro _; rfl
        · intro h; exact absurd rfl h
  · rw [if_neg (by assumption)] at h
    split
    · left
      rw [if_pos (by assumption)] at h
      revert h
      unfold fkG
      split
      · intro _; rfl
      · split
        · intro _; rfl
        · intro h; exact absurd rfl h
    · rw [if_neg (by assumption)] at h
      split
      · left
        rw [if_pos (by assumption)] at h
        exact if_pos h
      · rw [if_neg (by assumption)] at h
        split
        · left
          rw [if_pos (by assumption)] at h
          exact if_pos h
        · right; rfl
theorem Good.play0 {M : Cow} (h : Good M) {k s p x : Int} (he : (plG M k s p x).2.2 = 0) : Good (plG M k s p x).1 := by
  by_cases hk : k = 0 ∨ k = 1 ∨ k = 2 ∨ k = 3
  · exact .inl (val_play he hk).1
  · have e : plG M k s p x = (M, rdV M s p, cpE M s p) := by unfold plG; rw [if_neg (by omega), if_neg (by omega), if_neg (by omega), if_neg (by omega)]
    rw [e]; exact h
theorem Good.play {M : Cow} (h : Good M) (k s p x : Int) : Big (plG M k s p x).1 := by
  by_cases he : (plG M k s p x).2.2 = 0
  · exact (h.play0 he).big
  · rcases err_play M k s p x he with e | e
    · rw [e]; exact big_zero
    · rw [e]; exact h.big
theorem good_new (f s : Int) : Good (nwG f s).1 := by
  by_cases h : (1 ≤ f ∧ f ≤ 256) ∧ 1 ≤ s ∧ s ≤ 512
  · obtain ⟨a, b, _⟩ := new_val h.1 h.2
    rw [a]; exact .inl b
  · exact .inr (by rw [show nwG f s = (zeroM, 2) from if_neg h])
set_option maxRecDepth 100000 in
set_option maxHeartbeats 16000000 in
theorem law_steps (a b : Int) (A : Option Addr) (c : Nat) (L : List (Int × Int × Int × Int)) (w : World) (h : RdOp w A L) (hn : L.length ≤ 9223372036854775807) : Calls Try.prog 3 #[.agg #[.int .i64 a, .int .i64 b], .slice A L.length c] w fun e w' => e = .returned (.bool true) ∧ Below w.heap.size w w' := by
  have K := hide (bal (brefl w) (.cells #[.int .i64 a, .int .i64 b] 22))
  have X2 := hide (Box.new w 22 #[.int .i64 a, .int .i64 b])
  by_cases h1 : (40 : Int) < (L.length : Int)
  · clear h
    go_enter Try.func3, Try.ntmps3
    go_upto_region 1 with fail
    obtain ⟨g2, hg2⟩ : ∃ gg, gg = w.heap.size := ⟨_, rfl⟩
    rw [← hg2] at X2 ⊢
    clear hg2
    generalize w.alloc (.cells #[.int .i64 a, .int .i64 b] 22) = w0 at *
    go_wp2_with fail
    refine (awake_any _).mono ?_
    rintro e w1 ⟨rfl, hb⟩
    replace X2 := hide (X2.out.below hb)
    replace K := hide (btrans K.out hb)
    clear hb
    obtain ⟨x0, x1⟩ := box2 X2.out
    go_wp2_with fail
    refine (awake_any _).mono ?_
    rintro e w2 ⟨rfl, hb⟩
    replace K := hide (btrans K.out hb)
    clear hb
    go_wp2
    go_ret
    exact ⟨rfl, K.out⟩
  by_cases h2 : (30 : Int) < a
  · clear h
    go_enter Try.func3, Try.ntmps3
    go_upto_region 1 with fail
    obtain ⟨g2, hg2⟩ : ∃ gg, gg = w.heap.size := ⟨_, rfl⟩
    rw [← hg2] at X2 ⊢
    clear hg2
    generalize w.alloc (.cells #[.int .i64 a, .int .i64 b] 22) = w0 at *
    go_wp2_with fail
    refine (awake_any _).mono ?_
    rintro e w1 ⟨rfl, hb⟩
    replace X2 := hide (X2.out.below hb)
    replace K := hide (btrans K.out hb)
    clear hb
    obtain ⟨x0, x1⟩ := box2 X2.out
    go_wp2_with fail
    refine (awake_any _).mono ?_
    rintro e w2 ⟨rfl, hb⟩
    replace K := hide (btrans K.out hb)
    clear hb
    go_wp2
    go_ret
    exact ⟨rfl, K.out⟩
  by_cases h3 : (10 : Int) < b
  · clear h
    go_enter Try.func3, Try.ntmps3
    go_upto_region 1 with fail
    obtain ⟨g2, hg2⟩ : ∃ gg, gg = w.heap.size := ⟨_, rfl⟩
    rw [← hg2] at X2 ⊢
    clear hg2
    generalize w.alloc (.cells #[.int .i64 a, .int .i64 b] 22) = w0 at *
    go_wp2_with fail
    refine (awake_any _).mono ?_
    rintro e w1 ⟨rfl, hb⟩
    replace X2 := hide (X2.out.below hb)
    replace K := hide (btrans K.out hb)
    clear hb
    obtain ⟨x0, x1⟩ := box2 X2.out
    go_wp2_with fail
    refine (awake_any _).mono ?_
    rintro e w2 ⟨rfl, hb⟩
    replace K := hide (btrans K.out hb)
    clear hb
    go_wp2
    go_ret
    exact ⟨rfl, K.out⟩
  have HR := hide (fun w' (hb : Below w.heap.size w w') k (hk : k < L.length) => h.cells hb hk)
  clear h
  have CN := hide (fun w => new_any a b w)
  have RN := hide (fun w => rnew_any a b w)
  have GM := hide (good_new a b)
  obtain ⟨⟨M0, e0⟩, hM0⟩ : ∃ q, q = nwG a b := ⟨_, rfl⟩
  rw [← hM0] at CN RN GM
  clear hM0
  dsimp only at CN RN GM
  unfold Res cwA at CN RN
  go_enter Try.func3, Try.ntmps3
  go_upto_region 1 with fail
  obtain ⟨g2, hg2⟩ : ∃ gg, gg = w.heap.size := ⟨_, rfl⟩
  rw [← hg2] at X2 ⊢
  clear hg2
  generalize w.alloc (.cells #[.int .i64 a, .int .i64 b] 22) = w0 at *
  go_wp2_with fail
  refine (awake_any _).mono ?_
  rintro e w1 ⟨rfl, hb⟩
  replace X2 := hide (X2.out.below hb)
  replace K := hide (btrans K.out hb)
  clear hb
  obtain ⟨x0, x1⟩ := box2 X2.out
  go_wp2_with fail
  refine (CN.out _).mono ?_
  rintro e wn ⟨A5, c5, F5, f5, rfl, hin, hb⟩
  replace X2 := hide (X2.out.below hb)
  replace K := hide (btrans K.out hb)
  have I5 := hide hin
  clear hb hin CN
  have MA := bal (brefl wn) (.cells #[.int .i64 M0.sz, .slice A5 M0.sp.length c5, .slice F5 M0.fr.length f5, .int .i64 M0.cp] 28)
  have X5 := hide (Box.new wn 28 #[.int .i64 M0.sz, .slice A5 M0.sp.length c5, .slice F5 M0.fr.length f5, .int .i64 M0.cp])
  replace X2 := hide (X2.out.below MA)
  replace I5 := hide (I5.out.below MA)
  have HG5 := hide (show w.heap.size ≤ wn.heap.size from K.out.size)
  replace K := hide (btrans K.out MA)
  clear MA
  go_upto_region 4 with fail
  clear x0 x1
  obtain ⟨g5, hg⟩ : ∃ gg, gg = wn.heap.size := ⟨_, rfl⟩
  rw [← hg] at X5 HG5 ⊢
  clear hg
  generalize wn.alloc (.cells #[.int .i64 M0.sz, .slice A5 M0.sp.length c5, .slice F5 M0.fr.length f5, .int .i64 M0.cp] 28) = wm5 at *
  obtain ⟨x0, x1⟩ := box2 X2.out
  go_wp2_with fail
  refine (RN.out _).mono ?_
  rintro e wn ⟨A7, c7, F7, f7, rfl, hin, hb⟩
  replace X2 := hide (X2.out.below hb)
  replace X5 := hide (X5.out.below hb)
  replace I5 := hide (I5.out.below hb)
  replace K := hide (btrans K.out hb)
  have I7 := hide hin
  clear hb hin RN
  have MA := bal (brefl wn) (.cells #[.int .i64 M0.sz, .slice A7 M0.sp.length c7, .slice F7 M0.fr.length f7, .int .i64 M0.cp] 28)
  have X7 := hide (Box.new wn 28 #[.int .i64 M0.sz, .slice A7 M0.sp.length c7, .slice F7 M0.fr.length f7, .int .i64 M0.cp])
  replace X2 := hide (X2.out.below MA)
  replace X5 := hide (X5.out.below MA)
  replace I5 := hide (I5.out.below MA)
  replace I7 := hide (I7.out.below MA)
  have HG7 := hide (show w.heap.size ≤ wn.heap.size from K.out.size)
  replace K := hide (btrans K.out MA)
  clear MA
  go_upto_region 5 with fail
  clear x0 x1
  obtain ⟨g7, hg⟩ : ∃ gg, gg = wn.heap.size := ⟨_, rfl⟩
  rw [← hg] at X7 HG7 ⊢
  clear hg
  generalize wn.alloc (.cells #[.int .i64 M0.sz, .slice A7 M0.sp.length c7, .slice F7 M0.fr.length f7, .int .i64 M0.cp] 28) = wm7 at *
  have SM := hide (same_any M0 A5 F5 c5 f5 A7 F7 c7 f7 wm7 I5.out I7.out GM.out.big)
  unfold cwA at SM
  obtain ⟨x0, x1, x2, x3⟩ := box4 X5.out
  obtain ⟨y0, y1, y2, y3⟩ := box4 X7.out
  go_wp2_with fail
  refine SM.out.mono ?_
  rintro e w8 ⟨rfl, hb⟩
  replace X7 := hide (X7.out.below hb)
  replace I7 := hide (I7.out.below hb)
  replace K := hide (btrans K.out hb)
  clear hb SM x0 x1 x2 x3 y0 y1 y2 y3 X5 I5 X2
  have HG := HG7
  go_wp2
  go_loopw [62] (fun i wr => ∃ (k : Nat) (M : Cow) (As : Option Addr) (cs : Nat) (Af : Option Addr) (cf : Nat), k ≤ L.length ∧ i = .int .i64 k ∧ Hid (Box wr g7 28 #[.int .i64 M.sz, .slice As M.sp.length cs, .slice Af M.fr.length cf, .int .i64 M.cp]) ∧ Hid (CwIn wr M As cs Af cf) ∧ Hid (Good M) ∧ Hid (Below w.heap.size w wr)) (fun i _ => L.length - (intOf i).toNat)
  case atStart => exact ⟨0, M0, A7, c7, F7, f7, Nat.zero_le _, rfl, X7, I7, GM, K⟩
  case round =>
    clear X7 I7 GM K
    obtain ⟨k, M, As, cs, Af, cf, hk, rfl, X7, I1, GM, K⟩ := hrel
    by_cases hlt : k < L.length
    · have hl2 : (k : Int) < (L.length : Int) := by omega
      have hk0 : (0 : Int) ≤ (k : Int) := by omega
      obtain ⟨b0, off, rfl, hbl, y0, y1, y2, y3⟩ := HR.out _ K.out k hlt
      rcases hop : opA L k with ⟨kd, s, p, x⟩
      rw [hop] at y0 y1 y2 y3
      dsimp only at y0 y1 y2 y3
      clear hop
      have X9 := hide (Box.new wr 33 #[.int .i64 kd, .int .i64 s, .int .i64 p, .int .i64 x])
      have M9 := bal (brefl wr) (.cells #[.int .i64 kd, .int .i64 s, .int .i64 p, .int .i64 x] 33)
      replace X7 := hide (X7.out.below M9)
      replace I1 := hide (I1.out.below M9)
      replace K := hide (btrans K.out M9)
      clear M9
      go_upto_region 10 with fail
      generalize hg9 : wr.heap.size = g9 at *
      clear hg9 y0 y1 y2 y3
      generalize wr.alloc (.cells #[.int .i64 kd, .int .i64 s, .int .i64 p, .int .i64 x] 33) = w4 at *
      have C := hide (fun w h => play_any M As Af cs cf kd s p x w h GM.out.big)
      have R := hide (fun w h => rplay_any M As Af cs cf kd s p x w h GM.out.big)
      have GA := hide (GM.out.play kd s p x)
      have GP := hide (GM.out.play0 (k := kd) (s := s) (p := p) (x := x))
      obtain ⟨⟨M2, nr, er⟩, hpl⟩ : ∃ q, q = plG M kd s p x := ⟨_, rfl⟩
      rw [← hpl] at C R GA GP
      clear hpl
      dsimp only at C R GA GP
      unfold Res3 at C R
      unfold cwA at C R
      obtain ⟨x0, x1, x2, x3⟩ := box4 X7.out
      obtain ⟨y0, y1, y2, y3⟩ := box4 X9.out
      go_wp2_with fail
      refine (C.out _ I1.out).mono ?_
      rintro e wn ⟨As2, cs2, Af2, cf2, rfl, hin, hb⟩
      replace X7 := hide (X7.out.below hb)
      replace X9 := hide (X9.out.below hb)
      replace I1 := hide (I1.out.below hb)
      replace K := hide (btrans K.out hb)
      have I2 := hide hin
      clear hb hin C x0 x1 x2 x3 y0 y1 y2 y3
      have MA := bal (brefl wn) (.cells #[.int .i64 M2.sz, .slice As2 M2.sp.length cs2, .slice Af2 M2.fr.length cf2, .int .i64 M2.cp] 28)
      have XA := hide (Box.new wn 28 #[.int .i64 M2.sz, .slice As2 M2.sp.length cs2, .slice Af2 M2.fr.length cf2, .int .i64 M2.cp])
      replace X7 := hide (X7.out.below MA)
      replace X9 := hide (X9.out.below MA)
      replace I1 := hide (I1.out.below MA)
      replace I2 := hide (I2.out.below MA)
      replace K := hide (btrans K.out MA)
      clear MA
      go_upto_region 11 with fail
      generalize hg : wn.heap.size = gA at *
      clear hg
      generalize wn.alloc (.cells #[.int .i64 M2.sz, .slice As2 M2.sp.length cs2, .slice Af2 M2.fr.length cf2, .int .i64 M2.cp] 28) = wpgA at *
      obtain ⟨x0, x1, x2, x3⟩ := box4 X7.out
      obtain ⟨y0, y1, y2, y3⟩ := box4 X9.out
      go_wp2_with fail
      refine (R.out _ I1.out).mono ?_
      rintro e wn ⟨As3, cs3, Af3, cf3, rfl, hin, hb⟩
      replace X7 := hide (X7.out.below hb)
      replace X9 := hide (X9.out.below hb)
      replace I1 := hide (I1.out.below hb)
      replace XA := hide (XA.out.below hb)
      replace I2 := hide (I2.out.below hb)
      replace K := hide (btrans K.out hb)
      have I3 := hide hin
      clear hb hin R x0 x1 x2 x3 y0 y1 y2 y3
      have MA := bal (brefl wn) (.cells #[.int .i64 M2.sz, .slice As3 M2.sp.length cs3, .slice Af3 M2.fr.length cf3, .int .i64 M2.cp] 28)
      have XB := hide (Box.new wn 28 #[.int .i64 M2.sz, .slice As3 M2.sp.length cs3, .slice Af3 M2.fr.length cf3, .int .i64 M2.cp])
      replace X7 := hide (X7.out.below MA)
      replace X9 := hide (X9.out.below MA)
      replace I1 := hide (I1.out.below MA)
      replace XA := hide (XA.out.below MA)
      replace I2 := hide (I2.out.below MA)
      replace I3 := hide (I3.out.below MA)
      replace K := hide (btrans K.out MA)
      clear MA
      go_upto_region 12 with fail
      generalize hg : wn.heap.size = gB at *
      clear hg
      generalize wn.alloc (.cells #[.int .i64 M2.sz, .slice As3 M2.sp.length cs3, .slice Af3 M2.fr.length cf3, .int .i64 M2.cp] 28) = wpgB at *
      generalize wpgB = w3 at *
      have CE := hide (show ∀ w', Below w3.heap.size w3 w' → (fun w => (w.cell? ⟨gA, 0, none⟩ = some (.int .i64 M2.sz) ∧ w.cell? ⟨gA, 1, none⟩ = some (.slice As2 M2.sp.length cs2) ∧ w.cell? ⟨gA, 2, none⟩ = some (.slice Af2 M2.fr.length cf2) ∧ w.cell? ⟨gA, 3, none⟩ = some (.int .i64 M2.cp)) ∧ (w.cell? ⟨gB, 0, none⟩ = some (.int .i64 M2.sz) ∧ w.cell? ⟨gB, 1, none⟩ = some (.slice As3 M2.sp.length cs3) ∧ w.cell? ⟨gB, 2, none⟩ = some (.slice Af3 M2.fr.length cf3) ∧ w.cell? ⟨gB, 3, none⟩ = some (.int .i64 M2.cp)) ∧ (w.cell? ⟨g7, 0, none⟩ = some (.int .i64 M.sz) ∧ w.cell? ⟨g7, 1, none⟩ = some (.slice As M.sp.length cs) ∧ w.cell? ⟨g7, 2, none⟩ = some (.slice Af M.fr.length cf) ∧ w.cell? ⟨g7, 3, none⟩ = some (.int .i64 M.cp))) w' from fun w' hb => ⟨box4 (XA.out.below hb), box4 (XB.out.below hb), box4 (X7.out.below hb)⟩)
      have SM := hide (fun w' (hb : Below w3.heap.size w3 w') => same_any M2 As2 Af2 cs2 cf2 As3 Af3 cs3 cf3 w' (I2.out.below hb) (I3.out.below hb) GA.out)
      have CU := hide (fun w' (hb : Below w3.heap.size w3 w') => used_any M As Af cs cf w' (I1.out.below hb) GM.out.big)
      have CR := hide (fun w' (hb : Below w3.heap.size w3 w') => rused_any M As Af cs cf w' (I1.out.below hb) GM.out.big)
      unfold cwA at SM CU CR
      obtain ⟨us, hus⟩ : ∃ us, us = usE M := ⟨_, rfl⟩
      rw [← hus] at CU CR
      clear hus
      refine wp_region_noPanic ?_
      refine wp_region_held_drew (S := (fun w => (w.cell? ⟨gA, 0, none⟩ = some (.int .i64 M2.sz) ∧ w.cell? ⟨gA, 1, none⟩ = some (.slice As2 M2.sp.length cs2) ∧ w.cell? ⟨gA, 2, none⟩ = some (.slice Af2 M2.fr.length cf2) ∧ w.cell? ⟨gA, 3, none⟩ = some (.int .i64 M2.cp)) ∧ (w.cell? ⟨gB, 0, none⟩ = some (.int .i64 M2.sz) ∧ w.cell? ⟨gB, 1, none⟩ = some (.slice As3 M2.sp.length cs3) ∧ w.cell? ⟨gB, 2, none⟩ = some (.slice Af3 M2.fr.length cf3) ∧ w.cell? ⟨gB, 3, none⟩ = some (.int .i64 M2.cp)) ∧ (w.cell? ⟨g7, 0, none⟩ = some (.int .i64 M.sz) ∧ w.cell? ⟨g7, 1, none⟩ = some (.slice As M.sp.length cs) ∧ w.cell? ⟨g7, 2, none⟩ = some (.slice Af M.fr.length cf) ∧ w.cell? ⟨g7, 3, none⟩ = some (.int .i64 M.cp)))) (by kernel_rfl) ?_ (fun hHeld => ?_)
      · exact CE.out _ (below_drewN (brefl w3) 1)
      have KK := hide (below_drewN (brefl w3) 1)
      change Hid (Below w3.heap.size w3 w3.drew) at KK
      generalize w3.drew = w4 at *
      refine wpAnyH_take (i := 0) (oi := ⟨some 80, _, _, _, _, _⟩) (v := ?_) rfl (by kernel_rfl) (by kernel_rfl) (by kernel_rfl) (fun _ _ _ h => h) (Or.inl ⟨by kernel_rfl, ?_⟩) (by assumption) ?_
      rotate_left 1
      · (intro w hSw; (try dsimp only at hSw); go_simp) <;> (with_reducible rfl)
      (try simp only [Act.put, List.setIfInBounds_toArray, List.set_cons_succ, List.set_cons_zero])
      refine wpAnyH_take (i := 1) (oi := ⟨some 81, _, _, _, _, _⟩) (v := ?_) rfl (by kernel_rfl) (by kernel_rfl) (by kernel_rfl) (fun _ _ _ h => h) (Or.inl ⟨by kernel_rfl, ?_⟩) (by assumption) ?_
      rotate_left 1
      · (intro w hSw; (try dsimp only at hSw); go_simp) <;> (with_reducible rfl)
      (try simp only [Act.put, List.setIfInBounds_toArray, List.set_cons_succ, List.set_cons_zero])
      refine wpAnyH_take (i := 2) (oi := ⟨some 82, _, _, _, _, _⟩) (v := ?_) rfl (by kernel_rfl) (by kernel_rfl) (by kernel_rfl) (fun _ _ _ h => h) (Or.inl ⟨by kernel_rfl, ?_⟩) (by assumption) ?_
      rotate_left 1
      · (intro w hSw; (try dsimp only at hSw); go_simp) <;> (with_reducible rfl)
      (try simp only [Act.put, List.setIfInBounds_toArray, List.set_cons_succ, List.set_cons_zero])
      refine wpAnyH_take (i := 3) (oi := ⟨some 83, _, _, _, _, _⟩) (v := ?_) rfl (by kernel_rfl) (by kernel_rfl) (by kernel_rfl) (fun _ _ _ h => h) (Or.inl ⟨by kernel_rfl, ?_⟩) (by assumption) ?_
      rotate_left 1
      · (intro w hSw; (try dsimp only at hSw); go_simp) <;> (with_reducible rfl)
      (try simp only [Act.put, List.setIfInBounds_toArray, List.set_cons_succ, List.set_cons_zero])
      refine wpAnyH_take (i := 4) (oi := ⟨some 84, _, _, _, _, _⟩) (v := ?_) rfl (by kernel_rfl) (by kernel_rfl) (by kernel_rfl) (fun _ _ _ h => h) (Or.inl ⟨by kernel_rfl, ?_⟩) (by assumption) ?_
      rotate_left 1
      · (intro w hSw; (try dsimp only at hSw); go_simp) <;> (with_reducible rfl)
      (try simp only [Act.put, List.setIfInBounds_toArray, List.set_cons_succ, List.set_cons_zero])
      refine wpAnyH_take (i := 5) (oi := ⟨some 85, _, _, _, _, _⟩) (v := ?_) rfl (by kernel_rfl) (by kernel_rfl) (by kernel_rfl) (fun _ _ _ h => h) (Or.inl ⟨by kernel_rfl, ?_⟩) (by assumption) ?_
      rotate_left 1
      · (intro w hSw; (try dsimp only at hSw); go_simp) <;> (with_reducible rfl)
      (try simp only [Act.put, List.setIfInBounds_toArray, List.set_cons_succ, List.set_cons_zero])
      refine wpAnyH_take (i := 6) (oi := ⟨some 86, _, _, _, _, _⟩) (v := ?_) rfl (by kernel_rfl) (by kernel_rfl) (by kernel_rfl) (fun _ _ _ h => h) (Or.inl ⟨by kernel_rfl, ?_⟩) (by assumption) ?_
      rotate_left 1
      · (intro w hSw; (try dsimp only at hSw); go_simp) <;> (with_reducible rfl)
      (try simp only [Act.put, List.setIfInBounds_toArray, List.set_cons_succ, List.set_cons_zero])
      refine wpAnyH_take (i := 7) (oi := ⟨some 87, _, _, _, _, _⟩) (v := ?_) rfl (by kernel_rfl) (by kernel_rfl) (by kernel_rfl) (fun _ _ _ h => h) (Or.inl ⟨by kernel_rfl, ?_⟩) (by assumption) ?_
      rotate_left 1
      · (intro w hSw; (try dsimp only at hSw); go_simp) <;> (with_reducible rfl)
      (try simp only [Act.put, List.setIfInBounds_toArray, List.set_cons_succ, List.set_cons_zero])
      refine wpAnyH_take (i := 8) (oi := ⟨some 88, _, _, _, _, _⟩) (v := ?_) rfl (by kernel_rfl) (by kernel_rfl) (by kernel_rfl) (fun _ _ _ h => h) (Or.inl ⟨by kernel_rfl, ?_⟩) (by assumption) ?_
      rotate_left 1
      · (intro w hSw; (try dsimp only at hSw); go_simp) <;> (with_reducible rfl)
      (try simp only [Act.put, List.setIfInBounds_toArray, List.set_cons_succ, List.set_cons_zero])
      refine wpAnyH_take (i := 9) (oi := ⟨some 89, _, _, _, _, _⟩) (v := ?_) rfl (by kernel_rfl) (by kernel_rfl) (by kernel_rfl) (fun _ _ _ h => h) (Or.inl ⟨by kernel_rfl, ?_⟩) (by assumption) ?_
      rotate_left 1
      · (intro w hSw; (try dsimp only at hSw); go_simp) <;> (with_reducible rfl)
      (try simp only [Act.put, List.setIfInBounds_toArray, List.set_cons_succ, List.set_cons_zero])
      refine wpAnyH_take (i := 10) (oi := ⟨some 90, _, _, _, _, _⟩) (v := ?_) rfl (by kernel_rfl) (by kernel_rfl) (by kernel_rfl) (fun _ _ _ h => h) (Or.inl ⟨by kernel_rfl, ?_⟩) (by assumption) ?_
      rotate_left 1
      · (intro w hSw; (try dsimp only at hSw); go_simp) <;> (with_reducible rfl)
      (try simp only [Act.put, List.setIfInBounds_toArray, List.set_cons_succ, List.set_cons_zero])
      refine wpAnyH_ready (rs := [11]) (by kernel_rfl) (by simp) ?_
      refine AllReadyH.cons (o := ⟨some 91, _, _, _, _, _⟩) rfl (fun K' hK => ?_) AllReadyH.nil
      go_simp
      refine (SM.out _ KK.out).mono ?_
      rintro e wn ⟨rfl, hb⟩
      replace KK := hide (btrans KK.out hb)
      clear hb
      refine hK.out _ _ ?_ (fun hHeld => ?_)
      · exact CE.out _ KK.out
      clear hK K'
      (try simp only [Act.put, List.setIfInBounds_toArray, List.set_cons_succ, List.set_cons_zero])
      refine wpAnyH_take (i := 12) (oi := ⟨some 92, _, _, _, _, _⟩) (v := ?_) rfl (by kernel_rfl) (by kernel_rfl) (by kernel_rfl) (fun _ _ _ h => h) (Or.inl ⟨by kernel_rfl, ?_⟩) (by assumption) ?_
      rotate_left 1
      · (intro w hSw; (try dsimp only at hSw); go_simp) <;> (with_reducible rfl)
      (try simp only [Act.put, List.setIfInBounds_toArray, List.set_cons_succ, List.set_cons_zero])
      refine wpAnyH_take (i := 13) (oi := ⟨some 93, _, _, _, _, _⟩) (v := ?_) rfl (by kernel_rfl) (by kernel_rfl) (by kernel_rfl) (fun _ _ _ h => h) (Or.inl ⟨by kernel_rfl, ?_⟩) (by assumption) ?_
      rotate_left 1
      · (intro w hSw; (try dsimp only at hSw); go_simp) <;> (with_reducible rfl)
      (try simp only [Act.put, List.setIfInBounds_toArray, List.set_cons_succ, List.set_cons_zero])
      refine wpAnyH_take (i := 14) (oi := ⟨some 94, _, _, _, _, _⟩) (v := ?_) rfl (by kernel_rfl) (by kernel_rfl) (by kernel_rfl) (fun _ _ _ h => h) (Or.inl ⟨by kernel_rfl, ?_⟩) (by assumption) ?_
      rotate_left 1
      · (intro w hSw; (try dsimp only at hSw); go_simp) <;> (with_reducible rfl)
      (try simp only [Act.put, List.setIfInBounds_toArray, List.set_cons_succ, List.set_cons_zero])
      refine wpAnyH_take (i := 15) (oi := ⟨some 95, _, _, _, _, _⟩) (v := ?_) rfl (by kernel_rfl) (by kernel_rfl) (by kernel_rfl) (fun _ _ _ h => h) (Or.inl ⟨by kernel_rfl, ?_⟩) (by assumption) ?_
      rotate_left 1
      · (intro w hSw; (try dsimp only at hSw); go_simp) <;> (with_reducible rfl)
      (try simp only [Act.put, List.setIfInBounds_toArray, List.set_cons_succ, List.set_cons_zero])
      refine wpAnyH_take (i := 17) (oi := ⟨some 97, _, _, _, _, _⟩) (v := ?_) rfl (by kernel_rfl) (by kernel_rfl) (by kernel_rfl) (fun _ _ _ h => h) (Or.inl ⟨by kernel_rfl, ?_⟩) (by assumption) ?_
      rotate_left 1
      · (intro w hSw; (try dsimp only at hSw); go_simp) <;> (with_reducible rfl)
      (try simp only [Act.put, List.setIfInBounds_toArray, List.set_cons_succ, List.set_cons_zero])
      refine wpAnyH_ready (rs := [16]) (by kernel_rfl) (by simp) ?_
      refine AllReadyH.cons (o := ⟨some 96, _, _, _, _, _⟩) rfl (fun K' hK => ?_) AllReadyH.nil
      go_simp
      refine (CU.out _ KK.out).mono ?_
      rintro e wn ⟨rfl, hb⟩
      replace KK := hide (btrans KK.out hb)
      clear hb
      refine hK.out _ _ ?_ (fun hHeld => ?_)
      · exact CE.out _ KK.out
      clear hK K'
      (try simp only [Act.put, List.setIfInBounds_toArray, List.set_cons_succ, List.set_cons_zero])
      refine wpAnyH_ready (rs := [18]) (by kernel_rfl) (by simp) ?_
      refine AllReadyH.cons (o := ⟨some 98, _, _, _, _, _⟩) rfl (fun K' hK => ?_) AllReadyH.nil
      go_simp
      refine (CR.out _ KK.out).mono ?_
      rintro e wn ⟨rfl, hb⟩
      replace KK := hide (btrans KK.out hb)
      clear hb
      refine hK.out _ _ ?_ (fun hHeld => ?_)
      · exact CE.out _ KK.out
      clear hK K'
      (try simp only [Act.put, List.setIfInBounds_toArray, List.set_cons_succ, List.set_cons_zero])
      refine wpAnyH_take (i := 19) (oi := ⟨some 99, _, _, _, _, _⟩) (v := ?_) rfl (by kernel_rfl) (by kernel_rfl) (by kernel_rfl) (fun _ _ _ h => h) (Or.inl ⟨by kernel_rfl, ?_⟩) (by assumption) ?_
      rotate_left 1
      · (intro w hSw; (try dsimp only at hSw); go_simp) <;> (with_reducible rfl)
      (try simp only [Act.put, List.setIfInBounds_toArray, List.set_cons_succ, List.set_cons_zero])
      refine wpAnyH_take (i := 20) (oi := ⟨some 100, _, _, _, _, _⟩) (v := ?_) rfl (by kernel_rfl) (by kernel_rfl) (by kernel_rfl) (fun _ _ _ h => h) (Or.inl ⟨by kernel_rfl, ?_⟩) (by assumption) ?_
      rotate_left 1
      · (intro w hSw; (try dsimp only at hSw); go_simp) <;> (with_reducible rfl)
      (try simp only [Act.put, List.setIfInBounds_toArray, List.set_cons_succ, List.set_cons_zero])
      refine wpAnyH_done (by kernel_rfl) ?_ _
      refine NoPanic.normal ?_
      replace X7 := hide (X7.out.below KK.out)
      replace XB := hide (XB.out.below KK.out)
      replace I1 := hide (I1.out.below KK.out)
      replace I3 := hide (I3.out.below KK.out)
      replace K := hide (btrans K.out KK.out)
      clear KK CE SM CU CR
      by_cases he : er = 0
      · have d0 : (er == 0) = true := by simp [he]
        have GN := hide (GP.out he)
        clear he GP
        obtain ⟨z0, z1, z2, z3⟩ := box4 XB.out
        obtain ⟨q0, q1, q2, q3⟩ := box4 X7.out
        have f0 := X7.out.frozen 0
        have f1 := X7.out.frozen 1
        have f2 := X7.out.frozen 2
        have f3 := X7.out.frozen 3
        have XN := hide (box4s X7.out (a' := .int .i64 M2.sz) (b' := .slice As3 M2.sp.length cs3) (c' := .slice Af3 M2.fr.length cf3) (d' := .int .i64 M2.cp))
        have IN := hide (I3.out.far4 X7.out (.int .i64 M2.sz) (.slice As3 M2.sp.length cs3) (.slice Af3 M2.fr.length cf3) (.int .i64 M2.cp))
        have KN := hide (below4 K.out HG.out (.int .i64 M2.sz) (.slice As3 M2.sp.length cs3) (.slice Af3 M2.fr.length cf3) (.int .i64 M2.cp))
        go_upto_region 16 with fail
        clear z0 z1 z2 z3 q0 q1 q2 q3 f0 f1 f2 f3 X7 I1 K
        generalize World.setCell _ ⟨g7, 3, none⟩ (.int .i64 M2.cp) = w9 at *
        go_wp2
        go_roundw
        case rel => first | exact ⟨k + 1, M2, As3, cs3, Af3, cf3, by omega, by go_num, XN, IN, GN, KN⟩ | ((repeat apply Exists.intro); exact ⟨⟨k + 1, M2, As3, cs3, Af3, cf3, by omega, by go_num, XN, IN, GN, KN⟩, rfl⟩)
        case measure => simp [intOf]; omega
      · have d0 : (er == 0) = false := by simp [he]
        clear he GP
        go_wp2
        go_roundw
        case rel => first | exact ⟨k + 1, M, As, cs, Af, cf, by omega, by go_num, X7, I1, GM, K⟩ | ((repeat apply Exists.intro); exact ⟨⟨k + 1, M, As, cs, Af, cf, by omega, by go_num, X7, I1, GM, K⟩, rfl⟩)
        case measure => simp [intOf]; omega
    · obtain rfl : k = L.length := by omega
      go_wp2
      go_ret
      exact ⟨rfl, K.out⟩
end Go.Proofs.Ytoogdggiemacjaa.Cw
