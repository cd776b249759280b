import Derived.Test.YtioffnpnoohbiaaI4
namespace Go.Proofs.Ytioffnpnoohbiaa.Rm
open Go Go.RowKit
set_option linter.unusedVariables false
set_option linter.unusedSimpArgs false
theorem own_blk {B c : Nat} {w : World} {A : Option Addr} {L : List Mp} (h : OwM B w (.slice A L.length c) L) : ∀ g o, A = some ⟨g, o, none⟩ → B ≤ g ∧ g < w.heap.size := by
  intro g o e
  obtain ⟨_, h | ⟨g', cap, cur, e', hg, hh, _⟩⟩ := h
  · obtain ⟨h, _⟩ := h
    injection h with h1
    rw [h1] at e; cases e
  · injection e' with e1 _ _
    rw [e1] at e
    injection e with e
    injection e with e2 _ _
    subst e2
    exact ⟨hg, blk_lt hh⟩
def PuR (R : List Mp) (er : Int) (w : World) (e : Ending) (w' : World) : Prop := ∃ A c, e = .returned (.tuple #[.slice A R.length c, .int .i64 er]) ∧ OwM w.heap.size w' (.slice A R.length c) R ∧ Below w.heap.size w w'
theorem ins_ix (L : List Mp) (m : Mp) : ins L m = L.take (ix L m) ++ m :: L.drop (ix L m) := rfl
set_option maxRecDepth 100000 in
set_option maxHeartbeats 8000000 in
theorem add_any (A : Option Addr) (c : Nat) (L : List Mp) (t q : Int) (w : World) (hr : Ms w A L) (hn : L.length ≤ 1000) : Calls Try.prog 9 #[.slice A L.length c, .agg #[.int .i64 t, .int .i64 q]] w (PuR (adL L ⟨t, q⟩) (adE L ⟨t, q⟩) w) := by
  unfold PuR
  have K := hide (bal (brefl w) (.cells #[.int .i64 t, .int .i64 q] 26))
  have X := hide (MB.new w t q)
  obtain ⟨g3, hg3⟩ : ∃ g, g = w.heap.size := ⟨_, rfl⟩
  have HG := hide hg3
  rw [← hg3] at X
  have FI := hide (fun w' (h : Below w.heap.size w w') => find_any A L c t q w' (hr.below h) (by omega))
  have CL := hide (fun w' (h : Below w.heap.size w w') => clone_any A c L w' (hr.below h) (by omega))
  unfold ClR at CL
  by_cases h0 : ck L = 0
  rotate_left 1
  · have E := hide (show adE L ⟨t, q⟩ = ck L from if_neg h0)
    have EL := hide (show adL L ⟨t, q⟩ = [] from if_neg (by rw [E.out]; exact h0))
    rw [EL.out, E.out]
    have h2 := ne_bool h0
    clear E EL CL h0 hr hg3
    generalize ck L = ce at *
    generalize hs L ⟨t, q⟩ = hb at *
    generalize fiI L ⟨t, q⟩ = ii at *
    go_enter Try.func9, Try.ntmps9
    go_wp2_with fail
    rw [← HG.out]
    generalize w.alloc (.cells #[.int .i64 t, .int .i64 q] 26) = w1 at *
    refine (FI.out _ K.out).mono ?_
    rintro e w2 ⟨rfl, hb⟩
    replace X := hide (X.out.below hb)
    replace K := hide (btrans K.out hb)
    clear hb
    go_wp2
    go_ret2
    exact ⟨none, 0, rfl, owm_nil _ _, K.out⟩
  have VC := hide (fun w => val_any t q w)
  by_cases hv : vM ⟨t, q⟩
  rotate_left 1
  · have E := hide (show adE L ⟨t, q⟩ = 2 by unfold adE; rw [if_pos h0, if_neg hv])
    have EL := hide (show adL L ⟨t, q⟩ = [] from if_neg (by rw [E.out]; decide))
    rw [EL.out, E.out]
    rw [h0] at FI
    rw [decide_eq_false hv] at VC
    clear E EL CL h0 hv hr hg3
    generalize hs L ⟨t, q⟩ = hb at *
    generalize fiI L ⟨t, q⟩ = ii at *
    go_enter Try.func9, Try.ntmps9
    go_wp2_with fail
    rw [← HG.out]
    generalize w.alloc (.cells #[.int .i64 t, .int .i64 q] 26) = w1 at *
    refine (FI.out _ K.out).mono ?_
    rintro e w2 ⟨rfl, hb⟩
    replace X := hide (X.out.below hb)
    replace K := hide (btrans K.out hb)
    clear hb
    obtain ⟨x0, x1⟩ := MB.cells X.out
    go_wp2_with fail
    refine (VC.out _).mono ?_
    rintro e w3 ⟨rfl, hb⟩
    replace K := hide (btrans K.out hb)
    clear hb x0 x1
    go_wp2
    go_ret2
    exact ⟨none, 0, rfl, owm_nil _ _, K.out⟩
  rw [decide_eq_true hv] at VC
  by_cases hm : (⟨t, q⟩ : Mp) ∈ L
  · have E := hide (show adE L ⟨t, q⟩ = 7 by unfold adE; rw [if_pos h0, if_pos hv, if_pos hm])
    have EL := hide (show adL L ⟨t, q⟩ = [] from if_neg (by rw [E.out]; decide))
    have EH := hide (show hs L ⟨t, q⟩ = true from decide_eq_true ⟨h0, hm⟩)
    rw [EL.out, E.out]
    rw [h0, EH.out] at FI
    clear E EL CL h0 hv hm hr hg3 EH
    generalize fiI L ⟨t, q⟩ = ii at *
    go_enter Try.func9, Try.ntmps9
    go_wp2_with fail
    rw [← HG.out]
    generalize w.alloc (.cells #[.int .i64 t, .int .i64 q] 26) = w1 at *
    refine (FI.out _ K.out).mono ?_
    rintro e w2 ⟨rfl, hb⟩
    replace X := hide (X.out.below hb)
    replace K := hide (btrans K.out hb)
    clear hb
    obtain ⟨x0, x1⟩ := MB.cells X.out
    go_wp2_with fail
    refine (VC.out _).mono ?_
    rintro e w3 ⟨rfl, hb⟩
    replace K := hide (btrans K.out hb)
    clear hb x0 x1
    go_wp2
    go_ret2
    exact ⟨none, 0, rfl, owm_nil _ _, K.out⟩
  · have E := hide (show adE L ⟨t, q⟩ = 0 by unfold adE; rw [if_pos h0, if_pos hv, if_neg hm])
    have EL := hide (show adL L ⟨t, q⟩ = ins L ⟨t, q⟩ from if_pos E.out)
    have EH := hide (show hs L ⟨t, q⟩ = false from decide_eq_false fun h => hm h.2)
    have EI := hide (show fiI L ⟨t, q⟩ = ((ix L ⟨t, q⟩ : Nat) : Int) from if_pos h0)
    have HT := hide (ins_ix L ⟨t, q⟩)
    have HI := hide (ix_le L ⟨t, q⟩)
    rw [EL.out, E.out]
    rw [h0, EH.out, EI.out] at FI
    clear E EL h0 hv hm hr hg3 EH EI
    generalize ix L ⟨t, q⟩ = ii at *
    generalize ins L ⟨t, q⟩ = R at *
    go_enter Try.func9, Try.ntmps9
    go_wp2_with fail
    rw [← HG.out]
    generalize w.alloc (.cells #[.int .i64 t, .int .i64 q] 26) = w1 at *
    refine (FI.out _ K.out).mono ?_
    rintro e w2 ⟨rfl, hb⟩
    replace X := hide (X.out.below hb)
    replace K := hide (btrans K.out hb)
    clear hb
    obtain ⟨x0, x1⟩ := MB.cells X.out
    go_wp2_with fail
    refine (VC.out _).mono ?_
    rintro e w4 ⟨rfl, hb⟩
    replace X := hide (X.out.below hb)
    replace K := hide (btrans K.out hb)
    clear hb x0 x1
    go_upto_region 8 with fail
    replace K := hide (show Below w.heap.size w w4.drew from btrans K.out (below_drewN (brefl _) 1))
    replace X := hide (X.out.below (show Below w4.heap.size w4 w4.drew from below_drewN (brefl _) 1))
    refine wp_region_noPanic ?_
    refine wp_region_held_drew (S := (fun W => W.cell? ⟨g3, 0, none⟩ = some (.int .i64 t) ∧ W.cell? ⟨g3, 1, none⟩ = some (.int .i64 q))) (by kernel_rfl) ?_ (fun hHeld => ?_)
    · exact MB.cells X.out
    generalize w4.drew = w3 at *
    refine wpAnyH_take (i := 0) (oi := ⟨some 26, _, _, _, _, _⟩) (v := ?_) rfl (by kernel_rfl) (by kernel_rfl) (by kernel_rfl) (fun _ _ _ h => h) (Or.inl ⟨by kernel_rfl, ?_⟩) (by assumption) ?_
    rotate_left 1
    · (intro w hSw; (try dsimp only at hSw); go_simp) <;> (with_reducible rfl)
    (try simp only [Act.put, List.setIfInBounds_toArray, List.set_cons_succ, List.set_cons_zero])
    refine wpAnyH_take (i := 2) (oi := ⟨some 28, _, _, _, _, _⟩) (v := ?_) rfl (by kernel_rfl) (by kernel_rfl) (by kernel_rfl) (fun _ _ _ h => h) (Or.inl ⟨by kernel_rfl, ?_⟩) (by assumption) ?_
    rotate_left 1
    · (intro w hSw; (try dsimp only at hSw); go_simp) <;> (with_reducible rfl)
    (try simp only [Act.put, List.setIfInBounds_toArray, List.set_cons_succ, List.set_cons_zero])
    refine wpAnyH_take (i := 3) (oi := ⟨some 29, _, _, _, _, _⟩) (v := ?_) rfl (by kernel_rfl) (by kernel_rfl) (by kernel_rfl) (fun _ _ _ h => h) (Or.inl ⟨by kernel_rfl, ?_⟩) (by assumption) ?_
    rotate_left 1
    · (intro w hSw; (try dsimp only at hSw); go_simp) <;> (with_reducible rfl)
    (try simp only [Act.put, List.setIfInBounds_toArray, List.set_cons_succ, List.set_cons_zero])
    refine wpAnyH_ready (rs := [1, 4]) (by kernel_rfl) (by simp) ?_
    refine AllReadyH.cons (o := ⟨some 27, _, _, _, _, _⟩) rfl (fun K' hK => ?_) ?_
    · go_simp
      refine (CL.out _ K.out).mono ?_
      rintro e wc ⟨A1, c1, rfl, ho, hb⟩
      have OQ := hide (row_mono ho (show g3 + 1 ≤ _ from X.out.lt))
      replace K := hide (btrans K.out hb)
      replace X := hide (X.out.below hb)
      clear hb ho
      refine hK.out _ _ ?_ (fun hHeld => ?_)
      · exact MB.cells X.out
      clear hK K'
      (try simp only [Act.put, List.setIfInBounds_toArray, List.set_cons_succ, List.set_cons_zero])
      refine wpAnyH_ready (rs := [4]) (by kernel_rfl) (by simp) ?_
      refine AllReadyH.cons (o := ⟨some 30, _, _, _, _, _⟩) rfl (fun K' hK => ?_) AllReadyH.nil
      go_simp
      have NB := hide (MB.new wc t q)
      have M := bal (brefl wc) (.cells #[.int .i64 t, .int .i64 q] 26)
      replace K := hide (btrans K.out M)
      replace X := hide (X.out.below M)
      have HNE := hide (fun g o (h : A1 = some ⟨g, o, none⟩) => (by have h1 := (own_blk OQ.out g o h).2; omega : wc.heap.size ≠ g))
      replace OQ := hide (row_below OQ.out M)
      obtain ⟨bx, hbx⟩ : ∃ q, q = wc.heap.size := ⟨_, rfl⟩
      rw [← hbx] at NB HNE ⊢
      clear M hbx
      generalize wc.alloc (.cells #[.int .i64 t, .int .i64 q] 26) = wb at *
      refine hK.out _ _ ?_ (fun hHeld => ?_)
      · exact MB.cells X.out
      clear hK K'
      (try simp only [Act.put, List.setIfInBounds_toArray, List.set_cons_succ, List.set_cons_zero])
      refine wpAnyH_ready (rs := [5]) (by kernel_rfl) (by simp) ?_
      refine AllReadyH.cons (o := ⟨some 31, _, _, _, _, _⟩) rfl (fun K' hK => ?_) AllReadyH.nil
      go_simp
      have IN := insert_own (g3 + 1) A1 c1 bx ii L ⟨t, q⟩ _ OQ.out X.out.lt (by omega) NB.out HI.out HNE.out
      rw [← HT.out] at IN
      refine IN.mono ?_
      clear IN
      rintro e wd ⟨A2, c2, rfl, ho, hb⟩
      have OR := hide ho
      replace K := hide (K.out.trans (hb.mono (by have := HG.out; omega)))
      replace X := hide ((hb.block g3 (Nat.lt_succ_self _)).trans X.out : MB wd g3 ⟨t, q⟩)
      clear hb ho OQ NB HNE
      refine hK.out _ _ ?_ (fun hHeld => ?_)
      · exact MB.cells X.out
      clear hK K'
      (try simp only [Act.put, List.setIfInBounds_toArray, List.set_cons_succ, List.set_cons_zero])
      refine wpAnyH_take (i := 6) (oi := ⟨some 4, _, _, _, _, _⟩) (v := ?_) rfl (by kernel_rfl) (by kernel_rfl) (by kernel_rfl) (fun _ _ _ h => h) (Or.inl ⟨by kernel_rfl, ?_⟩) (by assumption) ?_
      rotate_left 1
      · (intro w hSw; (try dsimp only at hSw); go_simp) <;> (with_reducible rfl)
      (try simp only [Act.put, List.setIfInBounds_toArray, List.set_cons_succ, List.set_cons_zero])
      refine wpAnyH_take (i := 7) (oi := ⟨some 5, _, _, _, _, _⟩) (v := ?_) rfl (by kernel_rfl) (by kernel_rfl) (by kernel_rfl) (fun _ _ _ h => h) (Or.inl ⟨by kernel_rfl, ?_⟩) (by assumption) ?_
      rotate_left 1
      · (intro w hSw; (try dsimp only at hSw); go_simp) <;> (with_reducible rfl)
      (try simp only [Act.put, List.setIfInBounds_toArray, List.set_cons_succ, List.set_cons_zero])
      refine wpAnyH_done (by kernel_rfl) ?_ _
      refine NoPanic.normal ?_
      go_wp2
      go_ret2
      exact ⟨A2, c2, rfl, row_mono OR.out (by have := HG.out; omega), K.out⟩
    refine AllReadyH.cons (o := ⟨some 30, _, _, _, _, _⟩) rfl (fun K' hK => ?_) AllReadyH.nil
    go_simp
    have NB := hide (MB.new w3 t q)
    have M := bal (brefl w3) (.cells #[.int .i64 t, .int .i64 q] 26)
    replace K := hide (btrans K.out M)
    replace X := hide (X.out.below M)
    obtain ⟨bx, hbx⟩ : ∃ q, q = w3.heap.size := ⟨_, rfl⟩
    rw [← hbx] at NB ⊢
    clear M hbx
    generalize w3.alloc (.cells #[.int .i64 t, .int .i64 q] 26) = wb at *
    refine hK.out _ _ ?_ (fun hHeld => ?_)
    · exact MB.cells X.out
    clear hK K'
    (try simp only [Act.put, List.setIfInBounds_toArray, List.set_cons_succ, List.set_cons_zero])
    refine wpAnyH_ready (rs := [1]) (by kernel_rfl) (by simp) ?_
    refine AllReadyH.cons (o := ⟨some 27, _, _, _, _, _⟩) rfl (fun K' hK => ?_) AllReadyH.nil
    go_simp
    refine (CL.out _ K.out).mono ?_
    rintro e wc ⟨A1, c1, rfl, ho, hb⟩
    have OQ := hide (row_mono ho (show g3 + 1 ≤ _ from X.out.lt))
    have HNE := hide (fun g o (h : A1 = some ⟨g, o, none⟩) => (by have h1 := (own_blk ho g o h).1; have h2 := NB.out.lt; omega : bx ≠ g))
    replace NB := hide (NB.out.below hb)
    replace K := hide (btrans K.out hb)
    replace X := hide (X.out.below hb)
    clear hb ho
    refine hK.out _ _ ?_ (fun hHeld => ?_)
    · exact MB.cells X.out
    clear hK K'
    (try simp only [Act.put, List.setIfInBounds_toArray, List.set_cons_succ, List.set_cons_zero])
    refine wpAnyH_ready (rs := [5]) (by kernel_rfl) (by simp) ?_
    refine AllReadyH.cons (o := ⟨some 31, _, _, _, _, _⟩) rfl (fun K' hK => ?_) AllReadyH.nil
    go_simp
    have IN := insert_own (g3 + 1) A1 c1 bx ii L ⟨t, q⟩ _ OQ.out X.out.lt (by omega) NB.out HI.out HNE.out
    rw [← HT.out] at IN
    refine IN.mono ?_
    clear IN
    rintro e wd ⟨A2, c2, rfl, ho, hb⟩
    have OR := hide ho
    replace K := hide (K.out.trans (hb.mono (by have := HG.out; omega)))
    replace X := hide ((hb.block g3 (Nat.lt_succ_self _)).trans X.out : MB wd g3 ⟨t, q⟩)
    clear hb ho OQ NB HNE
    refine hK.out _ _ ?_ (fun hHeld => ?_)
    · exact MB.cells X.out
    clear hK K'
    (try simp only [Act.put, List.setIfInBounds_toArray, List.set_cons_succ, List.set_cons_zero])
    refine wpAnyH_take (i := 6) (oi := ⟨some 4, _, _, _, _, _⟩) (v := ?_) rfl (by kernel_rfl) (by kernel_rfl) (by kernel_rfl) (fun _ _ _ h => h) (Or.inl ⟨by kernel_rfl, ?_⟩) (by assumption) ?_
    rotate_left 1
    · (intro w hSw; (try dsimp only at hSw); go_simp) <;> (with_reducible rfl)
    (try simp only [Act.put, List.setIfInBounds_toArray, List.set_cons_succ, List.set_cons_zero])
    refine wpAnyH_take (i := 7) (oi := ⟨some 5, _, _, _, _, _⟩) (v := ?_) rfl (by kernel_rfl) (by kernel_rfl) (by kernel_rfl) (fun _ _ _ h => h) (Or.inl ⟨by kernel_rfl, ?_⟩) (by assumption) ?_
    rotate_left 1
    · (intro w hSw; (try dsimp only at hSw); go_simp) <;> (with_reducible rfl)
    (try simp only [Act.put, List.setIfInBounds_toArray, List.set_cons_succ, List.set_cons_zero])
    refine wpAnyH_done (by kernel_rfl) ?_ _
    refine NoPanic.normal ?_
    go_wp2
    go_ret2
    exact ⟨A2, c2, rfl, row_mono OR.out (by have := HG.out; omega), K.out⟩
end Go.Proofs.Ytioffnpnoohbiaa.Rm
