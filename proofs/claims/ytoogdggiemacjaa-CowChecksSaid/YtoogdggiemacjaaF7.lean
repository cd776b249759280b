import Derived.Test.YtoogdggiemacjaaF6
namespace Go.Proofs.Ytoogdggiemacjaa.Cw
open Go Go.RowKit
set_option linter.unusedVariables false
set_option linter.unusedSimpArgs false
theorem row_lt {base n size g : Nat} {t : TypeId} {v : Value} {xs : List Value} {w : World} (h : w.ownsRow base t size v n xs) (hv : v.ownBlock = some g) : base ≤ g ∧ g < w.heap.size := by
  obtain ⟨hl, ⟨rfl, _⟩ | ⟨g', cap, cur, e, hgb, hh, _⟩⟩ := h
  · simp [Value.ownBlock] at hv
  · subst e
    have : g' = g := by simpa [Value.ownBlock] using hv
    subst this
    exact ⟨hgb, blk_lt hh⟩
structure Cl (B : Nat) (w : World) (M : Cow) (g g2 : Nat) (As : Option Addr) (cs : Nat) (Af : Option Addr) (cf k : Nat) (T : Tb) (W : World) : Prop where
  below : Below B w W
  box : Box W g 28 (cwA M As cs Af cf)
  box2 : Box W g2 28 #[.int .i64 0, .slice none 0 0, .slice none 0 0, .int .i64 0]
  gB : B ≤ g2
  bs : B ≤ w.heap.size
  fr : W.ownsRow B 53 2 (.slice Af M.fr.length cf) M.fr.length (fcs M.fr)
  sp : W.ownsRow B 62 2 (.slice As M.sp.length cs) M.sp.length (tcs T)
  tl : T.length = M.sp.length
  lv : ∀ j, j < M.sp.length → (tAt T j).1 = (sAt M.sp j).1
  old : ∀ j, k ≤ j → j < M.sp.length → IsP w (tAt T j).2 (sAt M.sp j).2
  pg : ∀ j, j < k → W.ownsRow B 64 2 (tAt T j).2 (sAt M.sp j).2.length (pcs (sAt M.sp j).2)
  ne : ∀ i j, i < k → j < k → i ≠ j → ∀ g, (tAt T i).2.ownBlock = some g → (tAt T j).2.ownBlock ≠ some g
section
variable {B : Nat} {w : World} {M : Cow} {g g2 : Nat} {As Af : Option Addr} {cs cf k : Nat} {T : Tb} {W W' : World}
theorem Cl.on (h : Cl B w M g g2 As cs Af cf k T W) (hb : Below W.heap.size W W') : Cl B w M g g2 As cs Af cf k T W' :=
  ⟨h.below.trans (hb.mono (Nat.le_trans h.bs h.below.size)), h.box.below hb, h.box2.below hb, h.gB, h.bs, row_below h.fr hb, row_below h.sp hb, h.tl, h.lv, h.old, fun j hj => row_below (h.pg j hj) hb, h.ne⟩
theorem Cl.cell (h : Cl B w M g g2 As cs Af cf k T W) (hk : k < M.sp.length) : ∃ gs, As = some ⟨gs, 0, none⟩ ∧ W.cell? ⟨gs, k * 2 + 1, none⟩ = some (tAt T k).2 ∧ ∀ j, W.frozen? ⟨gs, j, none⟩ = false := by
  obtain ⟨gs, e, hl, hb, hx, hz⟩ := row_cell h.sp (by omega)
  have ht : k < T.length := by rw [h.tl]; exact hk
  rw [tAt_get ht]
  exact ⟨gs, e, hx _ _ (c2_odd T k ht), hz⟩
theorem Cl.step {gs c1 : Nat} {A1 : Option Addr} (h : Cl B w M g g2 (some ⟨gs, 0, none⟩) cs Af cf k T W) (hk : k < M.sp.length) (hr : W'.ownsRow W.heap.size 64 2 (.slice A1 (sAt M.sp k).2.length c1) (sAt M.sp k).2.length (pcs (sAt M.sp k).2)) (hb : Below W.heap.size W W') :
    Cl B w M g g2 (some ⟨gs, 0, none⟩) cs Af cf (k + 1) (T.set k ((sAt M.sp k).1, .slice A1 (sAt M.sp k).2.length c1)) (W'.setCell ⟨gs, k * 2 + 1, none⟩ (.slice A1 (sAt M.sp k).2.length c1)) := by
  have H := h.on hb
  have BW : B ≤ W.heap.size := Nat.le_trans h.bs h.below.size
  have ht : k < T.length := by rw [h.tl]; exact hk
  obtain ⟨hgs, cur, hbx⟩ := row_box H.sp
  have hs := row_set H.sp (k * 2 + 1) (.slice A1 (sAt M.sp k).2.length c1)
  rw [show (tcs T).set (k * 2 + 1) (.slice A1 (sAt M.sp k).2.length c1) = tcs (T.set k ((sAt M.sp k).1, .slice A1 (sAt M.sp k).2.length c1)) from c2_set1 T k ht ((sAt M.sp k).1, .slice A1 (sAt M.sp k).2.length c1) (by simp only [← h.lv k hk, tAt_get ht])] at hs
  have e28 : g ≠ gs := H.box.ne hbx (by decide)
  have e28' : g2 ≠ gs := H.box2.ne hbx (by decide)
  refine ⟨H.below.setCell hgs _, H.box.far e28 _, H.box2.far e28' _, H.gB, H.bs, row_other H.fr H.sp (by decide) _ _, hs, by simpa using h.tl, ?_, ?_, ?_, ?_⟩
  · intro j hj
    rw [tAt_set ht]
    split
    · rename_i e; subst e; rfl
    · exact h.lv j hj
  · intro j hj1 hj2
    rw [tAt_set ht, if_neg (by omega)]
    exact h.old j (by omega) hj2
  · intro j hj
    rw [tAt_set ht]
    split
    · rename_i e; subst e
      exact row_other (row_mono hr BW) H.sp (by decide) _ _
    · exact row_other (H.pg j (by omega)) H.sp (by decide) _ _
  · intro i j hi hj hij q
    rw [tAt_set ht, tAt_set ht]
    by_cases e1 : i = k
    · subst e1
      rw [if_pos rfl, if_neg (fun e => hij e.symm)]
      intro a b
      have l1 := (row_lt hr a).1
      have l2 := (row_lt (h.pg j (by omega)) b).2
      omega
    · rw [if_neg e1]
      by_cases e2 : j = k
      · subst e2
        rw [if_pos rfl]
        intro a b
        have l1 := (row_lt hr b).1
        have l2 := (row_lt (h.pg i (by omega)) a).2
        omega
      · rw [if_neg e2]
        exact h.ne i j (by omega) (by omega) hij q
theorem Cl.final (h : Cl B w M g g2 As cs Af cf M.sp.length T W) : OwM B W M As cs Af cf T := ⟨h.tl, h.fr, h.sp, h.lv, h.pg, h.ne⟩
theorem OwM.kp (h : OwM B w M As cs Af cf T) (hk : Kp B 28 w W) : OwM B W M As cs Af cf T :=
  ⟨h.tl, row_kp h.fr hk (by decide), row_kp h.sp hk (by decide), h.lv, fun k hk' => row_kp (h.pg k hk') hk (by decide), h.ne⟩
end
theorem kp4 {B : Nat} {w : World} {g : Nat} {cs : Array Value} (h : Box w g 28 cs) (hB : B ≤ g) (a b c d : Value) : Kp B 28 w ((((w.setCell ⟨g, 0, none⟩ a).setCell ⟨g, 1, none⟩ b).setCell ⟨g, 2, none⟩ c).setCell ⟨g, 3, none⟩ d) :=
  (((Kp.boxset h hB 0 a).trans (Kp.boxset (h.put 0 a) hB 1 b)).trans (Kp.boxset ((h.put 0 a).put 1 b) hB 2 c)).trans (Kp.boxset (((h.put 0 a).put 1 b).put 2 c) hB 3 d)
theorem box4s {w : World} {g : Nat} {t : TypeId} {a b c d a' b' c' d' : Value} (h : Box w g t #[a, b, c, d]) : Box ((((w.setCell ⟨g, 0, none⟩ a').setCell ⟨g, 1, none⟩ b').setCell ⟨g, 2, none⟩ c').setCell ⟨g, 3, none⟩ d') g t #[a', b', c', d'] := (((h.put 0 a').put 1 b').put 2 c').put 3 d'
theorem ret_c1 {fn : Func} {a : Act} {W : World} {g k : Nat} {x0 x1 x2 x3 : Value} {Q : Ending → World → Prop} (hr : fn.results = #[.cell k 28]) (h2 : a.tmps.getD k undef = .pointer (some ⟨g, 0, none⟩)) (hd : a.defers = [])
    (hE : Box W g 28 #[x0, x1, x2, x3]) (hq : Q (.returned (.agg #[x0, x1, x2, x3])) W) : bodyPost Try.prog fn Q .ret a W := by
  obtain ⟨c0, c1, c2, c3⟩ := box4 hE
  simp only [Array.getD_eq_getD_getElem?] at h2
  exact bodyPost_ret (v := .agg #[x0, x1, x2, x3]) (by simp [results, hr, h2, go_sem, c0, c1, c2, c3]; try rfl) hd hq
set_option maxRecDepth 100000 in
set_option maxHeartbeats 16000000 in
theorem clone_any (M : Cow) (As Af : Option Addr) (cs cf : Nat) (w : World) (h : CwIn w M As cs Af cf) (hz : szG M) (hp : ∀ k, k < M.sp.length → (sAt M.sp k).2.length ≤ 512) : Calls Try.prog 51 #[.agg (cwA M As cs Af cf)] w fun e w' => ∃ As' cs' Af' cf' T, e = .returned (.agg (cwA M As' cs' Af' cf')) ∧ OwM w.heap.size w' M As' cs' Af' cf' T ∧ Below w.heap.size w w' := by
  obtain ⟨W0, hW0⟩ : ∃ W0, W0 = (w.alloc (.cells (cwA M As cs Af cf) 28)).alloc (.cells #[.int .i64 0, .slice none 0 0, .slice none 0 0, .int .i64 0] 28) := ⟨_, rfl⟩
  have K := hide (show Below w.heap.size w W0 by rw [hW0]; exact bal (bal (brefl w) _) _)
  have X := hide (show Box W0 w.heap.size 28 (cwA M As cs Af cf) by rw [hW0]; exact (Box.new w 28 _).more _)
  have Y := hide (show Box W0 (w.heap.size + 1) 28 #[.int .i64 0, .slice none 0 0, .slice none 0 0, .int .i64 0] by rw [hW0]; exact Box.new2 _ _ _ _)
  have hs8 : M.sp.length ≤ 8 := hz.2.1.2
  have hs1 : 1 ≤ M.sp.length := hz.2.1.1
  have hf2 : M.fr.length ≤ 256 := hz.2.2.1.2
  have hf1 : 1 ≤ M.fr.length := hz.2.2.1.1
  have IN := hide h
  have HP := hide hp
  have C1 := hide (fun W (hb : Below w.heap.size w W) => clonef_any Af M.fr cf W (h.rf.below hb) hf1 (by omega))
  have C2 := hide (fun W (hb : Below w.heap.size w W) => clones_any As M.sp cs w W hb h.rs hs1 (by omega))
  clear h hz hp
  unfold cwA at X hW0 ⊢
  go_enter Try.func51, Try.ntmps51
  go_upto_region 1 with fail
  rw [← hW0]
  clear hW0
  obtain ⟨g2, hg2⟩ : ∃ g, g = w.heap.size + 1 := ⟨_, rfl⟩
  obtain ⟨g, hg⟩ : ∃ g, g = w.heap.size := ⟨_, rfl⟩
  have GN := hide (show g ≠ g2 by omega)
  have GG := hide (show w.heap.size ≤ g ∧ w.heap.size ≤ g2 by omega)
  rw [← hg2, ← hg]
  rw [← hg2] at Y
  rw [← hg] at X
  clear hg2 hg
  obtain ⟨x0, x1, x2, x3⟩ := box4 X.out
  go_wp2_with fail
  refine (C1.out _ K.out).mono ?_
  rintro e w1 ⟨A1, c1, rfl, hr1, hb1⟩
  have SZ0 := hide K.out.size
  have R1 := hide (row_mono hr1 SZ0.out)
  have K1 := hide (btrans K.out hb1)
  have X1 := hide (X.out.below hb1)
  have Y1 := hide (Y.out.below hb1)
  clear hr1 hb1 X Y K x0 x1 x2 x3 C1
  obtain ⟨x0, x1, x2, x3⟩ := box4 X1.out
  have z0 := X1.out.frozen 2
  go_upto_region 2 with fail
  have KB := Kp.boxset (B := w.heap.size) X1.out GG.out.1 2 (.slice A1 M.fr.length c1)
  have R2 := hide (row_kp R1.out KB (by decide))
  have K2 := hide (bset K1.out (p := ⟨g, 2, none⟩) GG.out.1 (.slice A1 M.fr.length c1))
  have X2 := hide (X1.out.put 2 (.slice A1 M.fr.length c1))
  have Y2 := hide (Y1.out.far GN.out.symm (b := g) (i := 2) (.slice A1 M.fr.length c1))
  clear KB R1 K1 X1 Y1 x0 x1 x2 x3 z0
  simp only [List.setIfInBounds_toArray, List.set_cons_succ, List.set_cons_zero] at X2
  generalize w1.setCell ⟨g, 2, none⟩ (.slice A1 M.fr.length c1) = w2 at *
  obtain ⟨x0, x1, x2, x3⟩ := box4 X2.out
  go_wp2_with fail
  refine (C2.out _ K2.out).mono ?_
  rintro e w3 ⟨A3, c3, T, rfl, hr3, hb3, hT, hTk⟩
  have R3 := hide (row_mono hr3 K2.out.size)
  have FR3 := hide (row_below R2.out hb3)
  have K3 := hide (btrans K2.out hb3)
  have X3 := hide (X2.out.below hb3)
  have Y3 := hide (Y2.out.below hb3)
  have TT := hide hT
  have TK := hide hTk
  clear hr3 hb3 R2 K2 X2 Y2 x0 x1 x2 x3 C2 hT hTk
  obtain ⟨x0, x1, x2, x3⟩ := box4 X3.out
  have z0 := X3.out.frozen 1
  go_upto_region 3 with fail
  have CL := hide (show Cl w.heap.size w M g g2 A3 c3 A1 c1 0 T (w3.setCell ⟨g, 1, none⟩ (.slice A3 M.sp.length c3)) from by
    have KB := Kp.boxset (B := w.heap.size) X3.out GG.out.1 1 (.slice A3 M.sp.length c3)
    exact ⟨bset K3.out (p := ⟨g, 1, none⟩) GG.out.1 _, X3.out.put 1 _, Y3.out.far GN.out.symm (b := g) (i := 1) _, GG.out.2, Nat.le_refl _, row_kp FR3.out KB (by decide), row_kp R3.out KB (by decide), TT.out, fun j hj => (TK.out j hj).1, fun j _ hj => (TK.out j hj).2, fun j hj => absurd hj (by omega), fun i j hi => absurd hi (by omega)⟩)
  clear R3 FR3 K3 X3 Y3 TT TK x0 x1 x2 x3 z0
  generalize w3.setCell ⟨g, 1, none⟩ (.slice A3 M.sp.length c3) = w4 at *
  obtain ⟨x0, x1, x2, x3⟩ := box4 CL.out.box
  go_wp2
  clear x0 x1 x2 x3
  go_loopw [15] (fun i wr => ∃ (k : Nat) (T : Tb), k ≤ M.sp.length ∧ i = .int .i64 k ∧ Hid (Cl w.heap.size w M g g2 A3 c3 A1 c1 k T wr)) (fun i _ => M.sp.length - (intOf i).toNat)
  case atStart => exact ⟨0, T, Nat.zero_le _, rfl, CL⟩
  case round =>
    clear CL T
    obtain ⟨k, T, hk, rfl, CL⟩ := hrel
    by_cases hlt : k < M.sp.length
    · have hl2 : (k : Int) < (M.sp.length : Int) := by omega
      have hk0 : (0 : Int) ≤ (k : Int) := by omega
      obtain ⟨gs, rfl, y1, z1⟩ := CL.out.cell hlt
      have CP := hide (fun W hb => clonep_any (tAt T k).2 (sAt M.sp k).2 W ((CL.out.old k (Nat.le_refl _) hlt).below hb) (by have := HP.out k hlt; omega))
      obtain ⟨Ap, cp, ev, _, _⟩ := CL.out.old k (Nat.le_refl _) hlt
      rw [ev] at CP
      replace CL := hide (CL.out.on (below_drewN (brefl _) 1))
      change Hid (Cl w.heap.size w M g g2 (some ⟨gs, 0, none⟩) c3 A1 c1 k T wr.drew) at CL
      clear y1
      go_upto_region 6 with fail
      refine wp_region_noPanic ?_
      refine wp_region_held_drew (S := (fun W => W.cell? ⟨g, 1, none⟩ = some (.slice (some ⟨gs, 0, none⟩) M.sp.length c3))) (by kernel_rfl) ?_ (fun hHeld => ?_)
      · exact (CL.out.box.cell 1)
      generalize wr.drew = w5 at *
      obtain ⟨gs9, eg9, y1, _⟩ := CL.out.cell hlt
      injection eg9 with eg9; injection eg9 with eg9
      subst eg9
      rw [ev] at y1
      refine wpAnyH_take (i := 0) (oi := ⟨some 18, _, _, _, _, _⟩) (v := ?_) rfl (by kernel_rfl) (by kernel_rfl) (by kernel_rfl) (fun _ _ _ h => h) (Or.inl ⟨by kernel_rfl, ?_⟩) (by assumption) ?_
      rotate_left 1
      · (intro w hSw; (try dsimp only at hSw); go_simp) <;> (with_reducible rfl)
      (try simp only [Act.put, List.setIfInBounds_toArray, List.set_cons_succ, List.set_cons_zero])
      refine wpAnyH_take (i := 1) (oi := ⟨some 19, _, _, _, _, _⟩) (v := ?_) rfl (by kernel_rfl) (by kernel_rfl) (by kernel_rfl) (fun _ _ _ h => h) (Or.inl ⟨by kernel_rfl, ?_⟩) (by assumption) ?_
      rotate_left 1
      · (intro w hSw; (try dsimp only at hSw); go_simp) <;> (with_reducible rfl)
      (try simp only [Act.put, List.setIfInBounds_toArray, List.set_cons_succ, List.set_cons_zero])
      refine wpAnyH_take (i := 2) (oi := ⟨some 20, _, _, _, _, _⟩) (v := ?_) rfl (by kernel_rfl) (by kernel_rfl) (by kernel_rfl) (fun _ _ _ h => h) (Or.inl ⟨by kernel_rfl, ?_⟩) (by assumption) ?_
      rotate_left 1
      · (intro w hSw; (try dsimp only at hSw); go_simp) <;> (with_reducible rfl)
      (try simp only [Act.put, List.setIfInBounds_toArray, List.set_cons_succ, List.set_cons_zero])
      refine wpAnyH_take (i := 3) (oi := ⟨some 21, _, _, _, _, _⟩) (v := ?_) rfl (by kernel_rfl) (by kernel_rfl) (by kernel_rfl) (fun _ _ _ h => h) (Or.inl ⟨by kernel_rfl, ?_⟩) (by assumption) ?_
      rotate_left 1
      · (intro w hSw; (try dsimp only at hSw); go_simp) <;> (with_reducible rfl)
      (try simp only [Act.put, List.setIfInBounds_toArray, List.set_cons_succ, List.set_cons_zero])
      refine wpAnyH_take (i := 4) (oi := ⟨some 22, _, _, _, _, _⟩) (v := ?_) rfl (by kernel_rfl) (by kernel_rfl) (by kernel_rfl) (fun _ _ _ h => h) (Or.inl ⟨by kernel_rfl, ?_⟩) (by assumption) ?_
      rotate_left 1
      · (intro w hSw; (try dsimp only at hSw); go_simp) <;> (with_reducible rfl)
      (try simp only [Act.put, List.setIfInBounds_toArray, List.set_cons_succ, List.set_cons_zero])
      refine wpAnyH_take (i := 5) (oi := ⟨some 23, _, _, _, _, _⟩) (v := ?_) rfl (by kernel_rfl) (by kernel_rfl) (by kernel_rfl) (fun _ _ _ h => h) (Or.inl ⟨by kernel_rfl, ?_⟩) (by assumption) ?_
      rotate_left 1
      · (intro w hSw; (try dsimp only at hSw); go_simp) <;> (with_reducible rfl)
      (try simp only [Act.put, List.setIfInBounds_toArray, List.set_cons_succ, List.set_cons_zero])
      refine wpAnyH_take (i := 6) (oi := ⟨some 24, _, _, _, _, _⟩) (v := ?_) rfl (by kernel_rfl) (by kernel_rfl) (by kernel_rfl) (fun _ _ _ h => h) (Or.inl ⟨by kernel_rfl, ?_⟩) (by assumption) ?_
      rotate_left 1
      · (intro w hSw; (try dsimp only at hSw); go_simp) <;> (with_reducible rfl)
      (try simp only [Act.put, List.setIfInBounds_toArray, List.set_cons_succ, List.set_cons_zero])
      refine wpAnyH_take (i := 7) (oi := ⟨some 25, _, _, _, _, _⟩) (v := ?_) rfl (by kernel_rfl) (by kernel_rfl) (by kernel_rfl) (fun _ _ _ h => h) (Or.inl ⟨by kernel_rfl, ?_⟩) (by assumption) ?_
      rotate_left 1
      · (intro w hSw; (try dsimp only at hSw); go_simp) <;> (with_reducible rfl)
      (try simp only [Act.put, List.setIfInBounds_toArray, List.set_cons_succ, List.set_cons_zero])
      refine wpAnyH_ready (rs := [8]) (by kernel_rfl) (by simp) ?_
      refine AllReadyH.cons (o := _) rfl (fun K' hK => ?_) AllReadyH.nil
      go_simp
      refine hK.out _ _ ?_ (fun hHeld => ?_)
      · exact (CL.out.box.cell 1)
      clear hK K'
      (try simp only [Act.put, List.setIfInBounds_toArray, List.set_cons_succ, List.set_cons_zero])
      refine wpAnyH_ready (rs := [9]) (by kernel_rfl) (by simp) ?_
      refine AllReadyH.cons (o := _) rfl (fun K' hK => ?_) AllReadyH.nil
      go_simp
      refine (CP.out _ CL.out.below).mono ?_
      rintro e wn ⟨A5, c5, rfl, hrow, hb⟩
      have NW := hide (CL.out.step hlt hrow hb)
      have X5 := (CL.out.box.below hb).cell 1
      have CX := hide (CL.out.on hb)
      obtain ⟨gs2, eg, y5, z5⟩ := CX.out.cell hlt
      injection eg with eg; injection eg with eg
      subst eg
      have z5 := z5 (k * 2 + 1)
      clear hrow hb CX
      refine hK.out _ _ ?_ (fun hHeld => ?_)
      · exact X5
      clear hK K'
      (try simp only [Act.put, List.setIfInBounds_toArray, List.set_cons_succ, List.set_cons_zero])
      refine wpAnyH_take (i := 10) (oi := ⟨some 28, _, _, _, _, _⟩) (v := ?_) rfl (by kernel_rfl) (by kernel_rfl) (by kernel_rfl) (fun _ _ _ h => h) (Or.inl ⟨by kernel_rfl, ?_⟩) (by assumption) ?_
      rotate_left 1
      · (intro w hSw; (try dsimp only at hSw); go_simp) <;> (with_reducible rfl)
      (try simp only [Act.put, List.setIfInBounds_toArray, List.set_cons_succ, List.set_cons_zero])
      refine wpAnyH_take (i := 11) (oi := ⟨some 29, _, _, _, _, _⟩) (v := ?_) rfl (by kernel_rfl) (by kernel_rfl) (by kernel_rfl) (fun _ _ _ h => h) (Or.inl ⟨by kernel_rfl, ?_⟩) (by assumption) ?_
      rotate_left 1
      · (intro w hSw; (try dsimp only at hSw); go_simp) <;> (with_reducible rfl)
      (try simp only [Act.put, List.setIfInBounds_toArray, List.set_cons_succ, List.set_cons_zero])
      refine wpAnyH_ready (rs := [12]) (by kernel_rfl) (by simp) ?_
      refine AllReadyH.cons (o := _) rfl (fun K' hK => ?_) AllReadyH.nil
      go_simp
      refine hK.out _ _ ?_ (fun hHeld => ?_)
      · exact NW.out.box.cell 1
      clear hK K'
      (try simp only [Act.put, List.setIfInBounds_toArray, List.set_cons_succ, List.set_cons_zero])
      refine wpAnyH_done (by kernel_rfl) ?_ _
      refine NoPanic.normal ?_
      clear CL X5 y5 z5 ev
      go_wp2
      go_roundw
      case rel => first | exact ⟨k + 1, _, by omega, by go_num, NW⟩ | ((repeat apply Exists.intro); exact ⟨⟨k + 1, _, by omega, by go_num, NW⟩, rfl⟩)
      case measure => simp [intOf]; omega
    · obtain rfl : k = M.sp.length := by omega
      obtain ⟨x0, x1, x2, x3⟩ := box4 CL.out.box
      obtain ⟨y0, y1, y2, y3⟩ := box4 CL.out.box2
      have z0 := CL.out.box2.frozen 0
      have z1 := CL.out.box2.frozen 1
      have z2 := CL.out.box2.frozen 2
      have z3 := CL.out.box2.frozen 3
      go_wp2
      have KK := kp4 CL.out.box2 CL.out.gB (.int .i64 M.sz) (.slice A3 M.sp.length c3) (.slice A1 M.fr.length c1) (.int .i64 M.cp)
      exact ret_c1 Try.results51 rfl rfl (box4s CL.out.box2) ⟨A3, c3, A1, c1, T, rfl, CL.out.final.kp KK, CL.out.below.trans KK.below⟩
end Go.Proofs.Ytoogdggiemacjaa.Cw
