import Derived.Test.YtoogdggiemacjaaG4
namespace Go.Proofs.Ytoogdggiemacjaa.Cw
open Go Go.RowKit
set_option linter.unusedVariables false
set_option linter.unusedSimpArgs false
theorem k2w {a w : World} (h : Below a.heap.size a w) {g : Nat} (hp : a.heap.size ≤ g) (u v : Value) : Below a.heap.size a ((w.setCell ⟨g, 0, none⟩ u).setCell ⟨g, 1, none⟩ v) := bset (bset h (p := ⟨g, 0, none⟩) hp u) (p := ⟨g, 1, none⟩) hp v
theorem Box.set2 {W : World} {g : Nat} {x y : Value} {t : TypeId} (h : Box W g t #[x, y]) (a b : Value) : Box ((W.setCell ⟨g, 0, none⟩ a).setCell ⟨g, 1, none⟩ b) g t #[a, b] := by
  have := (h.put 0 a).put 1 b
  simpa using this
set_option maxRecDepth 100000 in
set_option maxHeartbeats 8000000 in
theorem same_any (M : Cow) (As Af : Option Addr) (cs cf : Nat) (Bs Bf : Option Addr) (ds df : Nat) (w : World) (h : CwIn w M As cs Af cf) (h' : CwIn w M Bs ds Bf df) (hB : Big M) : Calls Try.prog 13 #[.agg (cwA M As cs Af cf), .agg (cwA M Bs ds Bf df)] w fun e w' => e = .returned (.bool true) ∧ Below w.heap.size w w' := by
  have K := hide (bal (bal (brefl w) (.cells (cwA M As cs Af cf) 28)) (.cells (cwA M Bs ds Bf df) 28))
  have X2 := hide ((Box.new w 28 (cwA M As cs Af cf)).more (.cells (cwA M Bs ds Bf df) 28))
  have X3 := hide (Box.new2 w (.cells (cwA M As cs Af cf) 28) 28 (cwA M Bs ds Bf df))
  have W0 := hide h
  have W1 := hide h'
  have hs9 := hB.sp
  have hf9 := hB.fr
  have PL := hide hB.pg
  clear h h' hB
  unfold cwA at K X2 X3 ⊢
  go_enter Try.func13, Try.ntmps13
  go_upto_region 1 with fail
  generalize hg3 : w.heap.size + 1 = g3 at *
  obtain ⟨g2, hg2⟩ : ∃ g, g = w.heap.size := ⟨_, rfl⟩
  rw [← hg2] at X2 ⊢
  clear hg2 hg3
  generalize (w.alloc (.cells #[.int .i64 M.sz, .slice As M.sp.length cs, .slice Af M.fr.length cf, .int .i64 M.cp] 28)).alloc (.cells #[.int .i64 M.sz, .slice Bs M.sp.length ds, .slice Bf M.fr.length df, .int .i64 M.cp] 28) = w1 at *
  obtain ⟨x0, x1, x2, x3⟩ := box4 X2.out
  obtain ⟨y0, y1, y2, y3⟩ := box4 X3.out
  go_wp2
  clear x0 x1 x2 x3 y0 y1 y2 y3
  go_loopw [5] (fun q wr => ∃ i : Nat, i ≤ M.sp.length ∧ q = .int .i64 i ∧ Hid (Box wr g2 28 #[.int .i64 M.sz, .slice As M.sp.length cs, .slice Af M.fr.length cf, .int .i64 M.cp]) ∧ Hid (Box wr g3 28 #[.int .i64 M.sz, .slice Bs M.sp.length ds, .slice Bf M.fr.length df, .int .i64 M.cp]) ∧ Hid (Below w.heap.size w wr)) (fun q _ => M.sp.length - (intOf q).toNat)
  case atStart => exact ⟨0, Nat.zero_le _, rfl, X2, X3, K⟩
  case round =>
    clear X2 X3 K
    obtain ⟨i, hk, rfl, X2, X3, K⟩ := hrel
    obtain ⟨x0, x1, x2, x3⟩ := box4 X2.out
    obtain ⟨y0, y1, y2, y3⟩ := box4 X3.out
    by_cases hlt : i < M.sp.length
    · have hl2 : (i : Int) < (M.sp.length : Int) := by omega
      have hk0 : (0 : Int) ≤ (i : Int) := by omega
      obtain ⟨b1, o1, u1, rfl, hb1, s0, s1, P1, c1, rfl, _, hR1⟩ := W0.out.rs.cells K.out hlt
      obtain ⟨b2, o2, u2, rfl, hb2, t0, t1, P2, c2, rfl, _, hR2⟩ := W1.out.rs.cells K.out hlt
      have PN := hide (PL.out i hlt)
      generalize (sAt M.sp i).1 = lv at *
      generalize (sAt M.sp i).2 = Ls at *
      obtain ⟨n, hn⟩ : ∃ n, Ls.length = n := ⟨_, rfl⟩
      have HN := hide hn
      rw [hn] at s1 t1 PN
      have R1 := hide hR1
      have R2 := hide hR2
      clear hR1 hR2 hn
      have h1 := Nat.lt_of_lt_of_le hb1 K.out.size
      have h2 := Nat.lt_of_lt_of_le hb2 K.out.size
      go_upto_region 6 with fail
      generalize wr = w3 at *
      have CE := hide (fun (w' : World) (hb : Below w3.heap.size w3 w') => (⟨⟨(X2.out.below hb).cell 1, (X3.out.below hb).cell 1⟩, ⟨(hb.cell (p := ⟨b1, _, none⟩) h1).trans s0, (hb.cell (p := ⟨b1, _, none⟩) h1).trans s1⟩, (hb.cell (p := ⟨b2, _, none⟩) h2).trans t0, (hb.cell (p := ⟨b2, _, none⟩) h2).trans t1⟩ : (w'.cell? ⟨g2, 1, none⟩ = some (.slice (some ⟨b1, o1, none⟩) M.sp.length cs) ∧ w'.cell? ⟨g3, 1, none⟩ = some (.slice (some ⟨b2, o2, none⟩) M.sp.length ds)) ∧ (w'.cell? ⟨b1, o1 + i * 2, none⟩ = some (.bool lv) ∧ w'.cell? ⟨b1, o1 + i * 2 + 1, none⟩ = some (.slice P1 n c1)) ∧ (w'.cell? ⟨b2, o2 + i * 2, none⟩ = some (.bool lv) ∧ w'.cell? ⟨b2, o2 + i * 2 + 1, none⟩ = some (.slice P2 n c2))))
      clear x0 x1 x2 x3 y0 y1 y2 y3 s0 s1 t0 t1
      refine wp_region_noPanic ?_
      refine wp_region_held_drew (S := (fun w => (w.cell? ⟨g2, 1, none⟩ = some (.slice (some ⟨b1, o1, none⟩) M.sp.length cs) ∧ w.cell? ⟨g3, 1, none⟩ = some (.slice (some ⟨b2, o2, none⟩) M.sp.length ds)) ∧ (w.cell? ⟨b1, o1 + i * 2, none⟩ = some (.bool lv) ∧ w.cell? ⟨b1, o1 + i * 2 + 1, none⟩ = some (.slice P1 n c1)) ∧ (w.cell? ⟨b2, o2 + i * 2, none⟩ = some (.bool lv) ∧ w.cell? ⟨b2, o2 + i * 2 + 1, none⟩ = some (.slice P2 n c2)))) (by kernel_rfl) ?_ (fun hHeld => ?_)
      · exact CE.out _ (below_drewN (brefl w3) 1)
      have KK := hide (below_drewN (brefl w3) 1)
      change Hid (Below w3.heap.size w3 w3.drew) at KK
      generalize w3.drew = v0 at *
      refine wpAnyH_take (i := 0) (oi := ⟨some 47, _, _, _, _, _⟩) (v := ?_) rfl (by kernel_rfl) (by kernel_rfl) (by kernel_rfl) (fun _ _ _ h => h) (Or.inl ⟨by kernel_rfl, ?_⟩) (by assumption) ?_
      rotate_left 1
      · (intro w hSw; (try dsimp only at hSw); go_simp) <;> (with_reducible rfl)
      (try simp only [Act.put, List.setIfInBounds_toArray, List.set_cons_succ, List.set_cons_zero])
      refine wpAnyH_take (i := 1) (oi := ⟨some 48, _, _, _, _, _⟩) (v := ?_) rfl (by kernel_rfl) (by kernel_rfl) (by kernel_rfl) (fun _ _ _ h => h) (Or.inl ⟨by kernel_rfl, ?_⟩) (by assumption) ?_
      rotate_left 1
      · (intro w hSw; (try dsimp only at hSw); go_simp) <;> (with_reducible rfl)
      (try simp only [Act.put, List.setIfInBounds_toArray, List.set_cons_succ, List.set_cons_zero])
      refine wpAnyH_take (i := 2) (oi := ⟨some 49, _, _, _, _, _⟩) (v := ?_) rfl (by kernel_rfl) (by kernel_rfl) (by kernel_rfl) (fun _ _ _ h => h) (Or.inl ⟨by kernel_rfl, ?_⟩) (by assumption) ?_
      rotate_left 1
      · (intro w hSw; (try dsimp only at hSw); go_simp) <;> (with_reducible rfl)
      (try simp only [Act.put, List.setIfInBounds_toArray, List.set_cons_succ, List.set_cons_zero])
      refine wpAnyH_take (i := 3) (oi := ⟨some 50, _, _, _, _, _⟩) (v := ?_) rfl (by kernel_rfl) (by kernel_rfl) (by kernel_rfl) (fun _ _ _ h => h) (Or.inl ⟨by kernel_rfl, ?_⟩) (by assumption) ?_
      rotate_left 1
      · (intro w hSw; (try dsimp only at hSw); go_simp) <;> (with_reducible rfl)
      (try simp only [Act.put, List.setIfInBounds_toArray, List.set_cons_succ, List.set_cons_zero])
      refine wpAnyH_take (i := 4) (oi := ⟨some 51, _, _, _, _, _⟩) (v := ?_) rfl (by kernel_rfl) (by kernel_rfl) (by kernel_rfl) (fun _ _ _ h => h) (Or.inl ⟨by kernel_rfl, ?_⟩) (by assumption) ?_
      rotate_left 1
      · (intro w hSw; (try dsimp only at hSw); go_simp) <;> (with_reducible rfl)
      (try simp only [Act.put, List.setIfInBounds_toArray, List.set_cons_succ, List.set_cons_zero])
      refine wpAnyH_take (i := 5) (oi := ⟨some 52, _, _, _, _, _⟩) (v := ?_) rfl (by kernel_rfl) (by kernel_rfl) (by kernel_rfl) (fun _ _ _ h => h) (Or.inl ⟨by kernel_rfl, ?_⟩) (by assumption) ?_
      rotate_left 1
      · (intro w hSw; (try dsimp only at hSw); go_simp) <;> (with_reducible rfl)
      (try simp only [Act.put, List.setIfInBounds_toArray, List.set_cons_succ, List.set_cons_zero])
      refine wpAnyH_take (i := 6) (oi := ⟨some 53, _, _, _, _, _⟩) (v := ?_) rfl (by kernel_rfl) (by kernel_rfl) (by kernel_rfl) (fun _ _ _ h => h) (Or.inl ⟨by kernel_rfl, ?_⟩) (by assumption) ?_
      rotate_left 1
      · (intro w hSw; (try dsimp only at hSw); go_simp) <;> (with_reducible rfl)
      (try simp only [Act.put, List.setIfInBounds_toArray, List.set_cons_succ, List.set_cons_zero])
      refine wpAnyH_take (i := 7) (oi := ⟨some 54, _, _, _, _, _⟩) (v := ?_) rfl (by kernel_rfl) (by kernel_rfl) (by kernel_rfl) (fun _ _ _ h => h) (Or.inl ⟨by kernel_rfl, ?_⟩) (by assumption) ?_
      rotate_left 1
      · (intro w hSw; (try dsimp only at hSw); go_simp) <;> (with_reducible rfl)
      (try simp only [Act.put, List.setIfInBounds_toArray, List.set_cons_succ, List.set_cons_zero])
      refine wpAnyH_take (i := 8) (oi := ⟨some 55, _, _, _, _, _⟩) (v := ?_) rfl (by kernel_rfl) (by kernel_rfl) (by kernel_rfl) (fun _ _ _ h => h) (Or.inl ⟨by kernel_rfl, ?_⟩) (by assumption) ?_
      rotate_left 1
      · (intro w hSw; (try dsimp only at hSw); go_simp) <;> (with_reducible rfl)
      (try simp only [Act.put, List.setIfInBounds_toArray, List.set_cons_succ, List.set_cons_zero])
      refine wpAnyH_take (i := 9) (oi := ⟨some 56, _, _, _, _, _⟩) (v := ?_) rfl (by kernel_rfl) (by kernel_rfl) (by kernel_rfl) (fun _ _ _ h => h) (Or.inl ⟨by kernel_rfl, ?_⟩) (by assumption) ?_
      rotate_left 1
      · (intro w hSw; (try dsimp only at hSw); go_simp) <;> (with_reducible rfl)
      (try simp only [Act.put, List.setIfInBounds_toArray, List.set_cons_succ, List.set_cons_zero])
      refine wpAnyH_ready (rs := [10, 11]) (by kernel_rfl) (by simp) ?_
      refine AllReadyH.cons (o := ⟨some 6, _, _, _, _, _⟩) rfl (fun K' hK => ?_) ?_
      · go_simp
        have hb := bal (brefl v0) (.cells #[.bool false, .slice none 0 0] 62)
        have XA := hide (Box.new v0 62 #[.bool false, .slice none 0 0])
        have GA := hide (show w3.heap.size ≤ v0.heap.size from KK.out.size)
        replace KK := hide (btrans KK.out hb)
        clear hb
        obtain ⟨gA, hg⟩ : ∃ g, g = v0.heap.size := ⟨_, rfl⟩
        have LA := hide (show gA < (v0.alloc (.cells #[.bool false, .slice none 0 0] 62)).heap.size by rw [alloc_size', hg]; omega)
        have NA := hide (show ∀ gg, gg < v0.heap.size → gg ≠ gA from fun gg h1 h2 => by omega)
        rw [← hg] at XA GA ⊢
        clear hg
        generalize v0.alloc (.cells #[.bool false, .slice none 0 0] 62) = v1 at *
        have XAlt := hide (XA.out.lt)
        refine hK.out _ _ ?_ (fun hHeld => ?_)
        · first | exact CE.out _ KK.out | exact CE.out _ KY.out | exact CE.out _ KZ.out
        clear hK K'
        (try simp only [Act.put, List.setIfInBounds_toArray, List.set_cons_succ, List.set_cons_zero])
        refine wpAnyH_ready (rs := [11]) (by kernel_rfl) (by simp) ?_
        refine AllReadyH.cons (o := ⟨some 7, _, _, _, _, _⟩) rfl (fun K' hK => ?_) AllReadyH.nil
        go_simp
        have hb := bal (brefl v1) (.cells #[.bool false, .slice none 0 0] 62)
        replace XA := hide (Box.below XA.out hb)
        have XB := hide (Box.new v1 62 #[.bool false, .slice none 0 0])
        have GB := hide (show w3.heap.size ≤ v1.heap.size from KK.out.size)
        replace KK := hide (btrans KK.out hb)
        clear hb
        obtain ⟨gB, hg⟩ : ∃ g, g = v1.heap.size := ⟨_, rfl⟩
        have LB := hide (show gB < (v1.alloc (.cells #[.bool false, .slice none 0 0] 62)).heap.size by rw [alloc_size', hg]; omega)
        have NB := hide (show ∀ gg, gg < v1.heap.size → gg ≠ gB from fun gg h1 h2 => by omega)
        have NE := hide (NB.out gA XAlt.out)
        rw [← hg] at XB GB ⊢
        clear hg
        generalize v1.alloc (.cells #[.bool false, .slice none 0 0] 62) = v2 at *
        have XBlt := hide (XB.out.lt)
        refine hK.out _ _ ?_ (fun hHeld => ?_)
        · first | exact CE.out _ KK.out | exact CE.out _ KY.out | exact CE.out _ KZ.out
        clear hK K'
        (try simp only [Act.put, List.setIfInBounds_toArray, List.set_cons_succ, List.set_cons_zero])
        refine wpAnyH_ready (rs := [12]) (by kernel_rfl) (by simp) ?_
        refine AllReadyH.cons (o := ⟨none, _, _, _, _, _⟩) rfl (fun K' hK => ?_) AllReadyH.nil
        obtain ⟨xc0, xc1⟩ := box2 XA.out
        have xf0 := XA.out.frozen 0
        have xf1 := XA.out.frozen 1
        go_simp
        have XA2 := hide (XA.out.set2 (.bool lv) (.slice P1 n c1))
        have XB2 := hide (((XB.out.far (b := gA) (i := 0) (NE.out.symm) (.bool lv)).far (b := gA) (i := 1) (NE.out.symm) (.slice P1 n c1)))
        have KY := hide (k2w KK.out GA.out (.bool lv) (.slice P1 n c1))
        clear xc0 xc1 xf0 xf1 XA XB KK
        generalize (v2.setCell ⟨gA, 0, none⟩ (.bool lv)).setCell ⟨gA, 1, none⟩ (.slice P1 n c1) = v3 at *
        refine hK.out _ _ ?_ (fun hHeld => ?_)
        · first | exact CE.out _ KK.out | exact CE.out _ KY.out | exact CE.out _ KZ.out
        clear hK K'
        (try simp only [Act.put, List.setIfInBounds_toArray, List.set_cons_succ, List.set_cons_zero])
        refine wpAnyH_ready (rs := [13]) (by kernel_rfl) (by simp) ?_
        refine AllReadyH.cons (o := ⟨none, _, _, _, _, _⟩) rfl (fun K' hK => ?_) AllReadyH.nil
        obtain ⟨xc0, xc1⟩ := box2 XB2.out
        have xf0 := XB2.out.frozen 0
        have xf1 := XB2.out.frozen 1
        go_simp
        have XB3 := hide (XB2.out.set2 (.bool lv) (.slice P2 n c2))
        have XA3 := hide (((XA2.out.far (b := gB) (i := 0) (NE.out) (.bool lv)).far (b := gB) (i := 1) (NE.out) (.slice P2 n c2)))
        have KZ := hide (k2w KY.out GB.out (.bool lv) (.slice P2 n c2))
        clear xc0 xc1 xf0 xf1 XA2 XB2 KY
        generalize (v3.setCell ⟨gB, 0, none⟩ (.bool lv)).setCell ⟨gB, 1, none⟩ (.slice P2 n c2) = v4 at *
        refine hK.out _ _ ?_ (fun hHeld => ?_)
        · first | exact CE.out _ KK.out | exact CE.out _ KY.out | exact CE.out _ KZ.out
        clear hK K'
        (try simp only [Act.put, List.setIfInBounds_toArray, List.set_cons_succ, List.set_cons_zero])
        refine wpAnyH_done (by kernel_rfl) ?_ _
        refine NoPanic.normal ?_
        replace X2 := hide (X2.out.below KZ.out)
        replace X3 := hide (X3.out.below KZ.out)
        replace K := hide (btrans K.out KZ.out)
        have RA := hide (R1.out.below KZ.out)
        have RB := hide (R2.out.below KZ.out)
        clear KZ CE R1 R2 GA GB NE NA NB XAlt XBlt LA LB
        have pn := PN.out
        obtain ⟨y0, y1⟩ := box2 XA3.out
        obtain ⟨z0, z1⟩ := box2 XB3.out
        have KO := hide (brefl v4)
        go_wp2
        clear y0 y1 z0 z1
        go_loopw [8] (fun q wr => ∃ j : Nat, j ≤ n ∧ q = .int .i64 j ∧ Hid (Box wr g2 28 #[.int .i64 M.sz, .slice (some ⟨b1, o1, none⟩) M.sp.length cs, .slice Af M.fr.length cf, .int .i64 M.cp]) ∧ Hid (Box wr g3 28 #[.int .i64 M.sz, .slice (some ⟨b2, o2, none⟩) M.sp.length ds, .slice Bf M.fr.length df, .int .i64 M.cp]) ∧ Hid (Box wr gA 62 #[.bool lv, .slice P1 n c1]) ∧ Hid (Box wr gB 62 #[.bool lv, .slice P2 n c2]) ∧ Hid (Below v4.heap.size v4 wr) ∧ Hid (Below w.heap.size w wr)) (fun q _ => n - (intOf q).toNat)
        case atStart => exact ⟨0, Nat.zero_le _, rfl, X2, X3, XA3, XB3, KO, K⟩
        case round =>
          clear X2 X3 XA3 XB3 KO K
          obtain ⟨j, hj, rfl, X2, X3, XA3, XB3, KO, K⟩ := hrel
          obtain ⟨y0, y1⟩ := box2 XA3.out
          obtain ⟨z0, z1⟩ := box2 XB3.out
          by_cases hjl : j < n
          · have hj2 : (j : Int) < (n : Int) := by omega
            have hj0 : (0 : Int) ≤ (j : Int) := by omega
            obtain ⟨b3, o3, rfl, hb3, p0, p1⟩ := RA.out.cells KO.out (by rw [HN.out]; exact hjl)
            obtain ⟨b4, o4, rfl, hb4, q0, q1⟩ := RB.out.cells KO.out (by rw [HN.out]; exact hjl)
            generalize (pAt Ls j).1 = pf at *
            generalize (pAt Ls j).2 = pw at *
            go_upto_region 12 with fail
            go_quiet (fail)
            go_wp2
            go_roundw
            case rel => first | exact ⟨j + 1, by omega, by go_num, hide (X2.out.below (below_drewN (brefl _) _)), hide (X3.out.below (below_drewN (brefl _) _)), hide (XA3.out.below (below_drewN (brefl _) _)), hide (XB3.out.below (below_drewN (brefl _) _)), hide (below_drewN KO.out _), hide (below_drewN K.out _)⟩ | ((repeat apply Exists.intro); exact ⟨⟨j + 1, by omega, by go_num, hide (X2.out.below (below_drewN (brefl _) _)), hide (X3.out.below (below_drewN (brefl _) _)), hide (XA3.out.below (below_drewN (brefl _) _)), hide (XB3.out.below (below_drewN (brefl _) _)), hide (below_drewN KO.out _), hide (below_drewN K.out _)⟩, rfl⟩)
            case measure => simp [intOf]; omega
          · obtain rfl : n = j := by omega
            go_wp2
            go_roundw
            case rel => first | exact ⟨i + 1, by omega, by go_num, X2, X3, K⟩ | ((repeat apply Exists.intro); exact ⟨⟨i + 1, by omega, by go_num, X2, X3, K⟩, rfl⟩)
            case measure => simp [intOf]; omega
      refine AllReadyH.cons (o := ⟨some 7, _, _, _, _, _⟩) rfl (fun K' hK => ?_) AllReadyH.nil
      go_simp
      have hb := bal (brefl v0) (.cells #[.bool false, .slice none 0 0] 62)
      have XB := hide (Box.new v0 62 #[.bool false, .slice none 0 0])
      have GB := hide (show w3.heap.size ≤ v0.heap.size from KK.out.size)
      replace KK := hide (btrans KK.out hb)
      clear hb
      obtain ⟨gB, hg⟩ : ∃ g, g = v0.heap.size := ⟨_, rfl⟩
      have LB := hide (show gB < (v0.alloc (.cells #[.bool false, .slice none 0 0] 62)).heap.size by rw [alloc_size', hg]; omega)
      have NB := hide (show ∀ gg, gg < v0.heap.size → gg ≠ gB from fun gg h1 h2 => by omega)
      rw [← hg] at XB GB ⊢
      clear hg
      generalize v0.alloc (.cells #[.bool false, .slice none 0 0] 62) = v1 at *
      have XBlt := hide (XB.out.lt)
      refine hK.out _ _ ?_ (fun hHeld => ?_)
      · first | exact CE.out _ KK.out | exact CE.out _ KY.out | exact CE.out _ KZ.out
      clear hK K'
      (try simp only [Act.put, List.setIfInBounds_toArray, List.set_cons_succ, List.set_cons_zero])
      refine wpAnyH_ready (rs := [10]) (by kernel_rfl) (by simp) ?_
      refine AllReadyH.cons (o := ⟨some 6, _, _, _, _, _⟩) rfl (fun K' hK => ?_) AllReadyH.nil
      go_simp
      have hb := bal (brefl v1) (.cells #[.bool false, .slice none 0 0] 62)
      replace XB := hide (Box.below XB.out hb)
      have XA := hide (Box.new v1 62 #[.bool false, .slice none 0 0])
      have GA := hide (show w3.heap.size ≤ v1.heap.size from KK.out.size)
      replace KK := hide (btrans KK.out hb)
      clear hb
      obtain ⟨gA, hg⟩ : ∃ g, g = v1.heap.size := ⟨_, rfl⟩
      have LA := hide (show gA < (v1.alloc (.cells #[.bool false, .slice none 0 0] 62)).heap.size by rw [alloc_size', hg]; omega)
      have NA := hide (show ∀ gg, gg < v1.heap.size → gg ≠ gA from fun gg h1 h2 => by omega)
      have NE := hide (NA.out gB XBlt.out)
      rw [← hg] at XA GA ⊢
      clear hg
      generalize v1.alloc (.cells #[.bool false, .slice none 0 0] 62) = v2 at *
      have XAlt := hide (XA.out.lt)
      refine hK.out _ _ ?_ (fun hHeld => ?_)
      · first | exact CE.out _ KK.out | exact CE.out _ KY.out | exact CE.out _ KZ.out
      clear hK K'
      (try simp only [Act.put, List.setIfInBounds_toArray, List.set_cons_succ, List.set_cons_zero])
      refine wpAnyH_ready (rs := [12]) (by kernel_rfl) (by simp) ?_
      refine AllReadyH.cons (o := ⟨none, _, _, _, _, _⟩) rfl (fun K' hK => ?_) AllReadyH.nil
      obtain ⟨xc0, xc1⟩ := box2 XA.out
      have xf0 := XA.out.frozen 0
      have xf1 := XA.out.frozen 1
      go_simp
      have XA2 := hide (XA.out.set2 (.bool lv) (.slice P1 n c1))
      have XB2 := hide (((XB.out.far (b := gA) (i := 0) (NE.out) (.bool lv)).far (b := gA) (i := 1) (NE.out) (.slice P1 n c1)))
      have KY := hide (k2w KK.out GA.out (.bool lv) (.slice P1 n c1))
      clear xc0 xc1 xf0 xf1 XA XB KK
      generalize (v2.setCell ⟨gA, 0, none⟩ (.bool lv)).setCell ⟨gA, 1, none⟩ (.slice P1 n c1) = v3 at *
      refine hK.out _ _ ?_ (fun hHeld => ?_)
      · first | exact CE.out _ KK.out | exact CE.out _ KY.out | exact CE.out _ KZ.out
      clear hK K'
      (try simp only [Act.put, List.setIfInBounds_toArray, List.set_cons_succ, List.set_cons_zero])
      refine wpAnyH_ready (rs := [13]) (by kernel_rfl) (by simp) ?_
      refine AllReadyH.cons (o := ⟨none, _, _, _, _, _⟩) rfl (fun K' hK => ?_) AllReadyH.nil
      obtain ⟨xc0, xc1⟩ := box2 XB2.out
      have xf0 := XB2.out.frozen 0
      have xf1 := XB2.out.frozen 1
      go_simp
      have XB3 := hide (XB2.out.set2 (.bool lv) (.slice P2 n c2))
      have XA3 := hide (((XA2.out.far (b := gB) (i := 0) (NE.out.symm) (.bool lv)).far (b := gB) (i := 1) (NE.out.symm) (.slice P2 n c2)))
      have KZ := hide (k2w KY.out GB.out (.bool lv) (.slice P2 n c2))
      clear xc0 xc1 xf0 xf1 XA2 XB2 KY
      generalize (v3.setCell ⟨gB, 0, none⟩ (.bool lv)).setCell ⟨gB, 1, none⟩ (.slice P2 n c2) = v4 at *
      refine hK.out _ _ ?_ (fun hHeld => ?_)
      · first | exact CE.out _ KK.out | exact CE.out _ KY.out | exact CE.out _ KZ.out
      clear hK K'
      (try simp only [Act.put, List.setIfInBounds_toArray, List.set_cons_succ, List.set_cons_zero])
      refine wpAnyH_done (by kernel_rfl) ?_ _
      refine NoPanic.normal ?_
      replace X2 := hide (X2.out.below KZ.out)
      replace X3 := hide (X3.out.below KZ.out)
      replace K := hide (btrans K.out KZ.out)
      have RA := hide (R1.out.below KZ.out)
      have RB := hide (R2.out.below KZ.out)
      clear KZ CE R1 R2 GA GB NE NA NB XAlt XBlt LA LB
      have pn := PN.out
      obtain ⟨y0, y1⟩ := box2 XA3.out
      obtain ⟨z0, z1⟩ := box2 XB3.out
      have KO := hide (brefl v4)
      go_wp2
      clear y0 y1 z0 z1
      go_loopw [8] (fun q wr => ∃ j : Nat, j ≤ n ∧ q = .int .i64 j ∧ Hid (Box wr g2 28 #[.int .i64 M.sz, .slice (some ⟨b1, o1, none⟩) M.sp.length cs, .slice Af M.fr.length cf, .int .i64 M.cp]) ∧ Hid (Box wr g3 28 #[.int .i64 M.sz, .slice (some ⟨b2, o2, none⟩) M.sp.length ds, .slice Bf M.fr.length df, .int .i64 M.cp]) ∧ Hid (Box wr gA 62 #[.bool lv, .slice P1 n c1]) ∧ Hid (Box wr gB 62 #[.bool lv, .slice P2 n c2]) ∧ Hid (Below v4.heap.size v4 wr) ∧ Hid (Below w.heap.size w wr)) (fun q _ => n - (intOf q).toNat)
      case atStart => exact ⟨0, Nat.zero_le _, rfl, X2, X3, XA3, XB3, KO, K⟩
      case round =>
        clear X2 X3 XA3 XB3 KO K
        obtain ⟨j, hj, rfl, X2, X3, XA3, XB3, KO, K⟩ := hrel
        obtain ⟨y0, y1⟩ := box2 XA3.out
        obtain ⟨z0, z1⟩ := box2 XB3.out
        by_cases hjl : j < n
        · have hj2 : (j : Int) < (n : Int) := by omega
          have hj0 : (0 : Int) ≤ (j : Int) := by omega
          obtain ⟨b3, o3, rfl, hb3, p0, p1⟩ := RA.out.cells KO.out (by rw [HN.out]; exact hjl)
          obtain ⟨b4, o4, rfl, hb4, q0, q1⟩ := RB.out.cells KO.out (by rw [HN.out]; exact hjl)
          generalize (pAt Ls j).1 = pf at *
          generalize (pAt Ls j).2 = pw at *
          go_upto_region 12 with fail
          go_quiet (fail)
          go_wp2
          go_roundw
          case rel => first | exact ⟨j + 1, by omega, by go_num, hide (X2.out.below (below_drewN (brefl _) _)), hide (X3.out.below (below_drewN (brefl _) _)), hide (XA3.out.below (below_drewN (brefl _) _)), hide (XB3.out.below (below_drewN (brefl _) _)), hide (below_drewN KO.out _), hide (below_drewN K.out _)⟩ | ((repeat apply Exists.intro); exact ⟨⟨j + 1, by omega, by go_num, hide (X2.out.below (below_drewN (brefl _) _)), hide (X3.out.below (below_drewN (brefl _) _)), hide (XA3.out.below (below_drewN (brefl _) _)), hide (XB3.out.below (below_drewN (brefl _) _)), hide (below_drewN KO.out _), hide (below_drewN K.out _)⟩, rfl⟩)
          case measure => simp [intOf]; omega
        · obtain rfl : n = j := by omega
          go_wp2
          go_roundw
          case rel => first | exact ⟨i + 1, by omega, by go_num, X2, X3, K⟩ | ((repeat apply Exists.intro); exact ⟨⟨i + 1, by omega, by go_num, X2, X3, K⟩, rfl⟩)
          case measure => simp [intOf]; omega
    · obtain rfl : M.sp.length = i := by omega
      go_wp2
      clear x0 x1 x2 x3 y0 y1 y2 y3
      go_loopw [9] (fun q wr => ∃ i : Nat, i ≤ M.fr.length ∧ q = .int .i64 i ∧ Hid (Box wr g2 28 #[.int .i64 M.sz, .slice As M.sp.length cs, .slice Af M.fr.length cf, .int .i64 M.cp]) ∧ Hid (Box wr g3 28 #[.int .i64 M.sz, .slice Bs M.sp.length ds, .slice Bf M.fr.length df, .int .i64 M.cp]) ∧ Hid (Below w.heap.size w wr)) (fun q _ => M.fr.length - (intOf q).toNat)
      case atStart => exact ⟨0, Nat.zero_le _, rfl, X2, X3, K⟩
      case round =>
        clear X2 X3 K
        obtain ⟨i, hk, rfl, X2, X3, K⟩ := hrel
        obtain ⟨x0, x1, x2, x3⟩ := box4 X2.out
        obtain ⟨y0, y1, y2, y3⟩ := box4 X3.out
        by_cases hlt : i < M.fr.length
        · have hl2 : (i : Int) < (M.fr.length : Int) := by omega
          have hk0 : (0 : Int) ≤ (i : Int) := by omega
          obtain ⟨b1, o1, rfl, hb1, s0, s1⟩ := W0.out.rf.cells K.out hlt
          obtain ⟨b2, o2, rfl, hb2, t0, t1⟩ := W1.out.rf.cells K.out hlt
          generalize (fAt M.fr i).1 = c0 at *
          generalize (fAt M.fr i).2 = c1 at *
          go_upto_region 17 with fail
          go_quiet (fail)
          go_wp2
          go_roundw
          case rel => first | exact ⟨i + 1, by omega, by go_num, hide (X2.out.below (below_drewN (brefl _) _)), hide (X3.out.below (below_drewN (brefl _) _)), hide (below_drewN K.out _)⟩ | ((repeat apply Exists.intro); exact ⟨⟨i + 1, by omega, by go_num, hide (X2.out.below (below_drewN (brefl _) _)), hide (X3.out.below (below_drewN (brefl _) _)), hide (below_drewN K.out _)⟩, rfl⟩)
          case measure => simp [intOf]; omega
        · obtain rfl : M.fr.length = i := by omega
          go_wp2
          go_ret
          exact ⟨rfl, K.out⟩
end Go.Proofs.Ytoogdggiemacjaa.Cw
