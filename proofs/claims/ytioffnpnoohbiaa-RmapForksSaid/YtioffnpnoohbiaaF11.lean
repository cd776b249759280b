import Derived.Test.YtioffnpnoohbiaaF10
namespace Go.Proofs.Ytioffnpnoohbiaa.Rm
open Go Go.RowKit
set_option linter.unusedVariables false
set_option linter.unusedSimpArgs false
set_option maxRecDepth 100000 in
set_option maxHeartbeats 8000000 in
theorem radd_any (A : Option Addr) (c : Nat) (L : List Mp) (t q : Int) (w : World) (hr : Ms w A L) (hn : L.length ≤ 1000) : Calls Try.prog 10 #[.slice A L.length c, .agg #[.int .i64 t, .int .i64 q]] w (PuR (adL L ⟨t, q⟩) (adE L ⟨t, q⟩) w) := by
  unfold PuR
  have HR := hide hr
  have K := hide (bal (brefl w) (.cells #[.int .i64 t, .int .i64 q] 26))
  have X := hide (MB.new w t q)
  obtain ⟨g3, hg3⟩ : ∃ g, g = w.heap.size := ⟨_, rfl⟩
  have HG := hide hg3
  have HLE := hide (show w.heap.size ≤ g3 + 1 by omega)
  rw [← hg3] at X
  have CK := hide (fun w' (h : Below w.heap.size w w') => rcheck_any A c L w' (hr.below h) (by omega))
  have HA := hide (fun w' (h : Below w.heap.size w w') => rhas_any A c L t q w' (hr.below h) (by omega))
  have IN := hide (fun w' (h : Below w.heap.size w w') => rins_any A c L t q w' (hr.below h) (by omega))
  unfold InR at IN
  by_cases h0 : ck L = 0
  rotate_left 1
  · have E := hide (show adE L ⟨t, q⟩ = ck L from if_neg h0)
    have EL := hide (show adL L ⟨t, q⟩ = [] from if_neg (by rw [E.out]; exact h0))
    rw [EL.out, E.out]
    have h2 := ne_bool h0
    clear E EL h0 hr hg3
    generalize ck L = ce at *
    go_enter Try.func10, Try.ntmps10
    go_wp2_with fail
    rw [← HG.out]
    generalize w.alloc (.cells #[.int .i64 t, .int .i64 q] 26) = w1 at *
    refine (CK.out _ K.out).mono ?_
    rintro e w2 ⟨rfl, hb⟩
    replace X := hide (X.out.below hb)
    replace K := hide (btrans K.out hb)
    clear hb
    go_wp2
    go_ret2
    exact ⟨none, 0, rfl, owm_nil _ _, K.out⟩
  rw [h0] at CK
  have VC := hide (fun w => rval_any t q w)
  by_cases hv : vM ⟨t, q⟩
  rotate_left 1
  · have E := hide (show adE L ⟨t, q⟩ = 2 by unfold adE; rw [if_pos h0, if_neg hv])
    have EL := hide (show adL L ⟨t, q⟩ = [] from if_neg (by rw [E.out]; decide))
    rw [EL.out, E.out]
    rw [decide_eq_false hv] at VC
    clear E EL h0 hv hr hg3
    go_enter Try.func10, Try.ntmps10
    go_wp2_with fail
    rw [← HG.out]
    generalize w.alloc (.cells #[.int .i64 t, .int .i64 q] 26) = w1 at *
    refine (CK.out _ K.out).mono ?_
    rintro e w2 ⟨rfl, hb⟩
    replace X := hide (X.out.below hb)
    replace K := hide (btrans K.out hb)
    clear hb
    obtain ⟨x0, x1⟩ := MB.cells X.out
    go_wp2_with fail
    refine (VC.out _).mono ?_
    rintro e w5 ⟨rfl, hb⟩
    replace X := hide (X.out.below hb)
    replace K := hide (btrans K.out hb)
    clear hb x0 x1
    go_wp2
    go_ret2
    exact ⟨none, 0, rfl, owm_nil _ _, K.out⟩
  rw [decide_eq_true hv] at VC
  by_cases hm : (⟨t, q⟩ : Mp) ∈ L
  · have E := hide (show adE L ⟨t, q⟩ = 7 by unfold adE; rw [if_pos h0, if_pos hv, if_pos hm])
    have EL := hide (show adL L ⟨t, q⟩ = [] from if_neg (by rw [E.out]; decide))
    have EH := hide (show hs L ⟨t, q⟩ = true from decide_eq_true ⟨h0, hm⟩)
    rw [EL.out, E.out]
    rw [EH.out] at HA
    clear E EL h0 hv hm hr hg3 EH
    go_enter Try.func10, Try.ntmps10
    go_wp2_with fail
    rw [← HG.out]
    generalize w.alloc (.cells #[.int .i64 t, .int .i64 q] 26) = w1 at *
    refine (CK.out _ K.out).mono ?_
    rintro e w2 ⟨rfl, hb⟩
    replace X := hide (X.out.below hb)
    replace K := hide (btrans K.out hb)
    clear hb
    obtain ⟨x0, x1⟩ := MB.cells X.out
    go_wp2_with fail
    refine (VC.out _).mono ?_
    rintro e w5 ⟨rfl, hb⟩
    replace X := hide (X.out.below hb)
    replace K := hide (btrans K.out hb)
    clear hb x0 x1
    obtain ⟨x0, x1⟩ := MB.cells X.out
    go_wp2_with fail
    refine (HA.out _ K.out).mono ?_
    rintro e w5 ⟨rfl, hb⟩
    replace X := hide (X.out.below hb)
    replace K := hide (btrans K.out hb)
    clear hb x0 x1
    go_wp2
    go_ret2
    exact ⟨none, 0, rfl, owm_nil _ _, K.out⟩
  · have E := hide (show adE L ⟨t, q⟩ = 0 by unfold adE; rw [if_pos h0, if_pos hv, if_neg hm])
    have EL := hide (show adL L ⟨t, q⟩ = rin L ⟨t, q⟩ from (if_pos E.out).trans (rin_ins (ck_ok h0).2 hm).symm)
    have EH := hide (show hs L ⟨t, q⟩ = false from decide_eq_false fun h => hm h.2)
    rw [EL.out, E.out]
    rw [EH.out] at HA
    clear E EL h0 hv hm hr hg3 EH
    generalize rin L ⟨t, q⟩ = R at *
    go_enter Try.func10, Try.ntmps10
    go_wp2_with fail
    rw [← HG.out]
    generalize w.alloc (.cells #[.int .i64 t, .int .i64 q] 26) = w1 at *
    refine (CK.out _ K.out).mono ?_
    rintro e w2 ⟨rfl, hb⟩
    replace X := hide (X.out.below hb)
    replace K := hide (btrans K.out hb)
    clear hb
    obtain ⟨x0, x1⟩ := MB.cells X.out
    go_wp2_with fail
    refine (VC.out _).mono ?_
    rintro e w5 ⟨rfl, hb⟩
    replace X := hide (X.out.below hb)
    replace K := hide (btrans K.out hb)
    clear hb x0 x1
    obtain ⟨x0, x1⟩ := MB.cells X.out
    go_wp2_with fail
    refine (HA.out _ K.out).mono ?_
    rintro e w5 ⟨rfl, hb⟩
    replace X := hide (X.out.below hb)
    replace K := hide (btrans K.out hb)
    clear hb x0 x1
    obtain ⟨x0, x1⟩ := MB.cells X.out
    go_wp2_with fail
    refine (IN.out _ K.out).mono ?_
    rintro e w9 ⟨A1, c1, rfl, ho, hb⟩
    have OR := hide (row_mono ho K.out.size)
    replace K := hide (btrans K.out hb)
    clear ho hb
    go_wp2
    go_ret2
    exact ⟨A1, c1, rfl, OR.out, K.out⟩
theorem fil_cons {f : Mp → Bool} {R : List Mp} {L : List Mp} {k : Nat} {F : List Mp} (h : R ++ (L.drop k).filter f = F) (hk : k < L.length) : (f (at' L k) = true → (R ++ [at' L k]) ++ (L.drop (k + 1)).filter f = F) ∧ (f (at' L k) = false → R ++ (L.drop (k + 1)).filter f = F) := by
  rw [drop_at hk, List.filter_cons] at h
  refine ⟨fun g => ?_, fun g => ?_⟩
  · rw [if_pos g] at h; rw [List.append_assoc]; exact h
  · rw [if_neg (by rw [g]; simp)] at h; exact h
theorem fil_len {f : Mp → Bool} {R : List Mp} {L : List Mp} {k : Nat} (h : R ++ (L.drop k).filter f = L.filter f) : R.length ≤ L.length := by
  have h1 := congrArg List.length h
  have h2 := List.length_filter_le f L
  rw [List.length_append] at h1
  omega
set_option maxRecDepth 100000 in
set_option maxHeartbeats 8000000 in
theorem rrem_any (A : Option Addr) (c : Nat) (L : List Mp) (t q : Int) (w : World) (hr : Ms w A L) (hn : L.length ≤ 1000) : Calls Try.prog 12 #[.slice A L.length c, .agg #[.int .i64 t, .int .i64 q]] w (PuR (reL L ⟨t, q⟩) (reE L ⟨t, q⟩) w) := by
  obtain ⟨i0, hi0, hz0, hz1, hz2⟩ := info_parts info26
  unfold PuR
  have HR := hide hr
  have K := hide (bal (brefl w) (.cells #[.int .i64 t, .int .i64 q] 26))
  have X := hide (MB.new w t q)
  obtain ⟨g3, hg3⟩ : ∃ g, g = w.heap.size := ⟨_, rfl⟩
  have HG := hide hg3
  have HLE := hide (show w.heap.size ≤ g3 + 1 by omega)
  rw [← hg3] at X
  have CK := hide (fun w' (h : Below w.heap.size w w') => rcheck_any A c L w' (hr.below h) (by omega))
  have HA := hide (fun w' (h : Below w.heap.size w w') => rhas_any A c L t q w' (hr.below h) (by omega))
  by_cases h0 : ck L = 0
  rotate_left 1
  · have E := hide (show reE L ⟨t, q⟩ = ck L from if_neg h0)
    have EL := hide (show reL L ⟨t, q⟩ = [] from if_neg (by rw [E.out]; exact h0))
    rw [EL.out, E.out]
    have h2 := ne_bool h0
    clear E EL h0 hr hg3
    generalize ck L = ce at *
    go_enter Try.func12, Try.ntmps12
    go_wp2_with fail
    rw [← HG.out]
    generalize w.alloc (.cells #[.int .i64 t, .int .i64 q] 26) = w1 at *
    refine (CK.out _ K.out).mono ?_
    rintro e w2 ⟨rfl, hb⟩
    replace X := hide (X.out.below hb)
    replace K := hide (btrans K.out hb)
    clear hb
    go_wp2
    go_ret2
    exact ⟨none, 0, rfl, owm_nil _ _, K.out⟩
  rw [h0] at CK
  by_cases hm : (⟨t, q⟩ : Mp) ∈ L
  rotate_left 1
  · have E := hide (show reE L ⟨t, q⟩ = 6 by unfold reE; rw [if_pos h0, if_neg hm])
    have EL := hide (show reL L ⟨t, q⟩ = [] from if_neg (by rw [E.out]; decide))
    have EH := hide (show hs L ⟨t, q⟩ = false from decide_eq_false fun h => hm h.2)
    rw [EL.out, E.out]
    rw [EH.out] at HA
    clear E EL h0 hm hr hg3 EH
    go_enter Try.func12, Try.ntmps12
    go_wp2_with fail
    rw [← HG.out]
    generalize w.alloc (.cells #[.int .i64 t, .int .i64 q] 26) = w1 at *
    refine (CK.out _ K.out).mono ?_
    rintro e w2 ⟨rfl, hb⟩
    replace X := hide (X.out.below hb)
    replace K := hide (btrans K.out hb)
    clear hb
    obtain ⟨x0, x1⟩ := MB.cells X.out
    go_wp2_with fail
    refine (HA.out _ K.out).mono ?_
    rintro e w5 ⟨rfl, hb⟩
    replace X := hide (X.out.below hb)
    replace K := hide (btrans K.out hb)
    clear hb x0 x1
    go_wp2
    go_ret2
    exact ⟨none, 0, rfl, owm_nil _ _, K.out⟩
  have E := hide (show reE L ⟨t, q⟩ = 0 by unfold reE; rw [if_pos h0, if_pos hm])
  have EL := hide (show reL L ⟨t, q⟩ = L.filter (fun x => decide (x ≠ ⟨t, q⟩)) from (if_pos E.out))
  have EH := hide (show hs L ⟨t, q⟩ = true from decide_eq_true ⟨h0, hm⟩)
  rw [EL.out, E.out]
  rw [EH.out] at HA
  have F0 := hide (show ([] : List Mp) ++ (L.drop 0).filter (fun x => decide (x ≠ ⟨t, q⟩)) = L.filter (fun x => decide (x ≠ ⟨t, q⟩)) from rfl)
  clear E EL h0 hm hr hg3 EH
  have FL := hide (fun (R : List Mp) k (h : R ++ (L.drop k).filter (fun x => decide (x ≠ ⟨t, q⟩)) = L.filter (fun x => decide (x ≠ ⟨t, q⟩))) => fil_len h)
  generalize hF : L.filter (fun x => decide (x ≠ ⟨t, q⟩)) = F at *
  clear hF
  go_enter Try.func12, Try.ntmps12
  go_wp2_with fail
  rw [← HG.out]
  generalize w.alloc (.cells #[.int .i64 t, .int .i64 q] 26) = w1 at *
  refine (CK.out _ K.out).mono ?_
  rintro e w2 ⟨rfl, hb⟩
  replace X := hide (X.out.below hb)
  replace K := hide (btrans K.out hb)
  clear hb
  obtain ⟨x0, x1⟩ := MB.cells X.out
  go_wp2_with fail
  refine (HA.out _ K.out).mono ?_
  rintro e w5 ⟨rfl, hb⟩
  replace X := hide (X.out.below hb)
  replace K := hide (btrans K.out hb)
  clear hb x0 x1
  go_wp2
  go_loopw [7, 8] (fun o i wr => ∃ k : Nat, ∃ A1 c1, ∃ R : List Mp, k ≤ L.length ∧ o = .slice A1 R.length c1 ∧ i = .int .i64 k ∧ Hid (OwM (g3 + 1) wr (.slice A1 R.length c1) R) ∧ Hid (Below w.heap.size w wr) ∧ Hid (MB wr g3 ⟨t, q⟩) ∧ Hid (R ++ (L.drop k).filter (fun x => decide (x ≠ ⟨t, q⟩)) = F)) (fun _ i _ => L.length - (intOf i).toNat)
  case atStart => exact ⟨0, none, 0, [], Nat.zero_le _, rfl, rfl, hide (owm_nil _ _), K, X, F0⟩
  case round =>
    clear K X
    obtain ⟨k, A1, c1, R, hk, rfl, rfl, OQ, K, X, N⟩ := hrel
    by_cases hlt : k < L.length
    · have hl2 : (k : Int) < (L.length : Int) := by omega
      have hk0 : (0 : Int) ≤ (k : Int) := by omega
      obtain ⟨b, off, rfl, hbl, y0, y1⟩ := HR.out.cells K.out hlt
      have FX := hide (fun w' (h : Below wr.heap.size wr w') => And.intro ((HR.out.below (btrans K.out h)).at hlt) (MB.cells (X.out.below h)))
      have FE := hide (fun w' (h : Below w.heap.size w w') => (HR.out.below h).at hlt)
      have RB := hide (FL.out R k N.out)
      have NY := hide (show ¬ at' L k = ⟨t, q⟩ → _ from fun h => (fil_cons N.out hlt).1 (decide_eq_true h))
      have NN := hide (show at' L k = ⟨t, q⟩ → _ from fun h => (fil_cons N.out hlt).2 (decide_eq_false (fun g => g h)))
      clear N
      obtain ⟨a, ha⟩ : ∃ a, a = at' L k := ⟨_, rfl⟩
      rw [← ha] at y0 y1 FX FE NY NN
      clear ha
      obtain ⟨s, p⟩ := a
      dsimp only at y0 y1 FX FE
      clear y0 y1
      by_cases hst : s = t
      · by_cases hpq : p = q
        · have HE := hide (show (⟨s, p⟩ : Mp) = ⟨t, q⟩ by rw [hst, hpq])
          have hb1 : (s == t) = true := beq_iff_eq.2 hst
          have hb2 : (p == q) = true := beq_iff_eq.2 hpq
          clear hst hpq
          go_upto_region 10 with fail
          have KD : Below wr.heap.size wr wr.drew := below_drewN (brefl _) 1
          replace X := hide (X.out.below KD)
          replace OQ := hide (row_below OQ.out KD)
          replace K := hide (btrans K.out KD)
          have KR := hide KD
          clear KD
          refine wp_region_noPanic ?_
          refine wp_region_held_drew (S := (fun W => (W.cell? ⟨b, off + k * 2, none⟩ = some (.int .i64 s) ∧ W.cell? ⟨b, off + k * 2 + 1, none⟩ = some (.int .i64 p)) ∧ W.cell? ⟨g3, 0, none⟩ = some (.int .i64 t) ∧ W.cell? ⟨g3, 1, none⟩ = some (.int .i64 q))) (by kernel_rfl) ?_ (fun hHeld => ?_)
          · exact FX.out _ KR.out
          generalize wr.drew = wd at *
          refine wpAnyH_take (i := 0) (oi := ⟨some 24, _, _, _, _, _⟩) (v := ?_) rfl (by kernel_rfl) (by kernel_rfl) (by kernel_rfl) (fun _ _ _ h => h) (Or.inl ⟨by kernel_rfl, ?_⟩) (by assumption) ?_
          rotate_left 1
          · (intro w hSw; (try dsimp only at hSw); go_simp) <;> (with_reducible rfl)
          (try simp only [Act.put, List.setIfInBounds_toArray, List.set_cons_succ, List.set_cons_zero])
          refine wpAnyH_take (i := 1) (oi := ⟨some 25, _, _, _, _, _⟩) (v := ?_) rfl (by kernel_rfl) (by kernel_rfl) (by kernel_rfl) (fun _ _ _ h => h) (Or.inl ⟨by kernel_rfl, ?_⟩) (by assumption) ?_
          rotate_left 1
          · (intro w hSw; (try dsimp only at hSw); go_simp) <;> (with_reducible rfl)
          (try simp only [Act.put, List.setIfInBounds_toArray, List.set_cons_succ, List.set_cons_zero])
          refine wpAnyH_take (i := 2) (oi := ⟨some 26, _, _, _, _, _⟩) (v := ?_) rfl (by kernel_rfl) (by kernel_rfl) (by kernel_rfl) (fun _ _ _ h => h) (Or.inl ⟨by kernel_rfl, ?_⟩) (by assumption) ?_
          rotate_left 1
          · (intro w hSw; (try dsimp only at hSw); go_simp) <;> (with_reducible rfl)
          (try simp only [Act.put, List.setIfInBounds_toArray, List.set_cons_succ, List.set_cons_zero])
          refine wpAnyH_take (i := 3) (oi := ⟨some 27, _, _, _, _, _⟩) (v := ?_) rfl (by kernel_rfl) (by kernel_rfl) (by kernel_rfl) (fun _ _ _ h => h) (Or.inl ⟨by kernel_rfl, ?_⟩) (by assumption) ?_
          rotate_left 1
          · (intro w hSw; (try dsimp only at hSw); go_simp) <;> (with_reducible rfl)
          (try simp only [Act.put, List.setIfInBounds_toArray, List.set_cons_succ, List.set_cons_zero])
          refine wpAnyH_take (i := 4) (oi := ⟨some 28, _, _, _, _, _⟩) (v := ?_) rfl (by kernel_rfl) (by kernel_rfl) (by kernel_rfl) (fun _ _ _ h => h) (Or.inl ⟨by kernel_rfl, ?_⟩) (by assumption) ?_
          rotate_left 1
          · (intro w hSw; (try dsimp only at hSw); go_simp) <;> (with_reducible rfl)
          (try simp only [Act.put, List.setIfInBounds_toArray, List.set_cons_succ, List.set_cons_zero])
          refine wpAnyH_take (i := 5) (oi := ⟨some 29, _, _, _, _, _⟩) (v := ?_) rfl (by kernel_rfl) (by kernel_rfl) (by kernel_rfl) (fun _ _ _ h => h) (Or.inl ⟨by kernel_rfl, ?_⟩) (by assumption) ?_
          rotate_left 1
          · (intro w hSw; (try dsimp only at hSw); go_simp) <;> (with_reducible rfl)
          (try simp only [Act.put, List.setIfInBounds_toArray, List.set_cons_succ, List.set_cons_zero])
          refine wpAnyH_done (by kernel_rfl) ?_ _
          refine NoPanic.normal ?_
          have G := hide (NN.out HE.out)
          clear FX KR NY NN
          go_wp2
          go_roundw
          case rel => exact ⟨k + 1, A1, c1, R, by omega, rfl, by go_num, OQ, K, X, G⟩
          case measure => simp [intOf]; omega
        · have HN := hide (show ¬ (⟨s, p⟩ : Mp) = ⟨t, q⟩ from fun h => hpq (by injection h))
          have hb1 : (s == t) = true := beq_iff_eq.2 hst
          have hb2 : (p == q) = false := beq_eq_false_iff_ne.2 hpq
          clear hst hpq
          go_upto_region 10 with fail
          have KD : Below wr.heap.size wr wr.drew := below_drewN (brefl _) 1
          replace X := hide (X.out.below KD)
          replace OQ := hide (row_below OQ.out KD)
          replace K := hide (btrans K.out KD)
          have KR := hide KD
          clear KD
          refine wp_region_noPanic ?_
          refine wp_region_held_drew (S := (fun W => (W.cell? ⟨b, off + k * 2, none⟩ = some (.int .i64 s) ∧ W.cell? ⟨b, off + k * 2 + 1, none⟩ = some (.int .i64 p)) ∧ W.cell? ⟨g3, 0, none⟩ = some (.int .i64 t) ∧ W.cell? ⟨g3, 1, none⟩ = some (.int .i64 q))) (by kernel_rfl) ?_ (fun hHeld => ?_)
          · exact FX.out _ KR.out
          generalize wr.drew = wd at *
          refine wpAnyH_take (i := 0) (oi := ⟨some 24, _, _, _, _, _⟩) (v := ?_) rfl (by kernel_rfl) (by kernel_rfl) (by kernel_rfl) (fun _ _ _ h => h) (Or.inl ⟨by kernel_rfl, ?_⟩) (by assumption) ?_
          rotate_left 1
          · (intro w hSw; (try dsimp only at hSw); go_simp) <;> (with_reducible rfl)
          (try simp only [Act.put, List.setIfInBounds_toArray, List.set_cons_succ, List.set_cons_zero])
          refine wpAnyH_take (i := 1) (oi := ⟨some 25, _, _, _, _, _⟩) (v := ?_) rfl (by kernel_rfl) (by kernel_rfl) (by kernel_rfl) (fun _ _ _ h => h) (Or.inl ⟨by kernel_rfl, ?_⟩) (by assumption) ?_
          rotate_left 1
          · (intro w hSw; (try dsimp only at hSw); go_simp) <;> (with_reducible rfl)
          (try simp only [Act.put, List.setIfInBounds_toArray, List.set_cons_succ, List.set_cons_zero])
          refine wpAnyH_take (i := 2) (oi := ⟨some 26, _, _, _, _, _⟩) (v := ?_) rfl (by kernel_rfl) (by kernel_rfl) (by kernel_rfl) (fun _ _ _ h => h) (Or.inl ⟨by kernel_rfl, ?_⟩) (by assumption) ?_
          rotate_left 1
          · (intro w hSw; (try dsimp only at hSw); go_simp) <;> (with_reducible rfl)
          (try simp only [Act.put, List.setIfInBounds_toArray, List.set_cons_succ, List.set_cons_zero])
          refine wpAnyH_take (i := 3) (oi := ⟨some 27, _, _, _, _, _⟩) (v := ?_) rfl (by kernel_rfl) (by kernel_rfl) (by kernel_rfl) (fun _ _ _ h => h) (Or.inl ⟨by kernel_rfl, ?_⟩) (by assumption) ?_
          rotate_left 1
          · (intro w hSw; (try dsimp only at hSw); go_simp) <;> (with_reducible rfl)
          (try simp only [Act.put, List.setIfInBounds_toArray, List.set_cons_succ, List.set_cons_zero])
          refine wpAnyH_take (i := 4) (oi := ⟨some 28, _, _, _, _, _⟩) (v := ?_) rfl (by kernel_rfl) (by kernel_rfl) (by kernel_rfl) (fun _ _ _ h => h) (Or.inl ⟨by kernel_rfl, ?_⟩) (by assumption) ?_
          rotate_left 1
          · (intro w hSw; (try dsimp only at hSw); go_simp) <;> (with_reducible rfl)
          (try simp only [Act.put, List.setIfInBounds_toArray, List.set_cons_succ, List.set_cons_zero])
          refine wpAnyH_take (i := 5) (oi := ⟨some 29, _, _, _, _, _⟩) (v := ?_) rfl (by kernel_rfl) (by kernel_rfl) (by kernel_rfl) (fun _ _ _ h => h) (Or.inl ⟨by kernel_rfl, ?_⟩) (by assumption) ?_
          rotate_left 1
          · (intro w hSw; (try dsimp only at hSw); go_simp) <;> (with_reducible rfl)
          (try simp only [Act.put, List.setIfInBounds_toArray, List.set_cons_succ, List.set_cons_zero])
          refine wpAnyH_done (by kernel_rfl) ?_ _
          refine NoPanic.normal ?_
          have G := hide (NY.out HN.out)
          clear FX KR NY NN
          have RB2 := RB.out
          obtain ⟨y0, y1⟩ := FE.out _ K.out
          have M := bal (brefl wd) (.cells #[.int .i64 s, .int .i64 p] 26)
          have OQ2 := hide (row_below OQ.out M)
          have NB := hide (MB.news (MB.new wd s p))
          have KM := hide (btrans K.out M)
          replace X := hide (X.out.below M)
          unfold mC at NB
          dsimp only at NB
          clear M OQ K
          have HBB := hide (show (g3 + 1) ≤ _ from X.out.lt)
          go_wp2_with (at_builtin; refine wpList_append_own _ rfl (.tmp 30) (.tmp 35) 22 rfl (g3 + 1) 26 i0 _ 2 16 Try.underlying22 hi0 hz0 hz1 hz2 rfl (by omega) (.slice A1 R.length c1) R.length (mcs R) rfl OQ2.out ⟨wd.heap.size, 0, none⟩ 1 1 [.int .i64 s, .int .i64 p] rfl rfl NB.out (by intro u hu; simp only [List.mem_cons, List.not_mem_nil, or_false] at hu; rcases hu with rfl | rfl <;> rfl) (by simp only [maxLen]; omega) (by omega) HBB.out ?_; intro v1 w9 hown1 hg1 _; obtain ⟨A2, c2, rfl, OQ, BG⟩ := push_next HBB.out OQ2.out hown1 hg1; replace OQ := hide OQ; have K := hide (KM.out.trans (BG.mono HLE.out)); replace X := hide (show MB w9 g3 ⟨t, q⟩ from (BG.block g3 (Nat.lt_succ_self _)).trans X.out); clear hown1 hg1 OQ2 NB KM BG HBB)
          have RL := hide (show (R ++ [(⟨s, p⟩ : Mp)]).length = R.length + 1 by simp)
          rw [← RL.out]
          generalize R ++ [(⟨s, p⟩ : Mp)] = R3 at *
          go_wp2
          go_roundw
          case rel => exact ⟨k + 1, A2, c2, R3, by omega, rfl, by go_num, OQ, K, X, G⟩
          case measure => simp [intOf]; omega
      · have HN := hide (show ¬ (⟨s, p⟩ : Mp) = ⟨t, q⟩ from fun h => hst (by injection h))
        have hb1 : (s == t) = false := beq_eq_false_iff_ne.2 hst
        clear hst
        go_upto_region 10 with fail
        have KD : Below wr.heap.size wr wr.drew := below_drewN (brefl _) 1
        replace X := hide (X.out.below KD)
        replace OQ := hide (row_below OQ.out KD)
        replace K := hide (btrans K.out KD)
        have KR := hide KD
        clear KD
        refine wp_region_noPanic ?_
        refine wp_region_held_drew (S := (fun W => (W.cell? ⟨b, off + k * 2, none⟩ = some (.int .i64 s) ∧ W.cell? ⟨b, off + k * 2 + 1, none⟩ = some (.int .i64 p)) ∧ W.cell? ⟨g3, 0, none⟩ = some (.int .i64 t) ∧ W.cell? ⟨g3, 1, none⟩ = some (.int .i64 q))) (by kernel_rfl) ?_ (fun hHeld => ?_)
        · exact FX.out _ KR.out
        generalize wr.drew = wd at *
        refine wpAnyH_take (i := 0) (oi := ⟨some 24, _, _, _, _, _⟩) (v := ?_) rfl (by kernel_rfl) (by kernel_rfl) (by kernel_rfl) (fun _ _ _ h => h) (Or.inl ⟨by kernel_rfl, ?_⟩) (by assumption) ?_
        rotate_left 1
        · (intro w hSw; (try dsimp only at hSw); go_simp) <;> (with_reducible rfl)
        (try simp only [Act.put, List.setIfInBounds_toArray, List.set_cons_succ, List.set_cons_zero])
        refine wpAnyH_take (i := 1) (oi := ⟨some 25, _, _, _, _, _⟩) (v := ?_) rfl (by kernel_rfl) (by kernel_rfl) (by kernel_rfl) (fun _ _ _ h => h) (Or.inl ⟨by kernel_rfl, ?_⟩) (by assumption) ?_
        rotate_left 1
        · (intro w hSw; (try dsimp only at hSw); go_simp) <;> (with_reducible rfl)
        (try simp only [Act.put, List.setIfInBounds_toArray, List.set_cons_succ, List.set_cons_zero])
        refine wpAnyH_take (i := 2) (oi := ⟨some 26, _, _, _, _, _⟩) (v := ?_) rfl (by kernel_rfl) (by kernel_rfl) (by kernel_rfl) (fun _ _ _ h => h) (Or.inl ⟨by kernel_rfl, ?_⟩) (by assumption) ?_
        rotate_left 1
        · (intro w hSw; (try dsimp only at hSw); go_simp) <;> (with_reducible rfl)
        (try simp only [Act.put, List.setIfInBounds_toArray, List.set_cons_succ, List.set_cons_zero])
        refine wpAnyH_take (i := 3) (oi := ⟨some 27, _, _, _, _, _⟩) (v := ?_) rfl (by kernel_rfl) (by kernel_rfl) (by kernel_rfl) (fun _ _ _ h => h) (Or.inl ⟨by kernel_rfl, ?_⟩) (by assumption) ?_
        rotate_left 1
        · (intro w hSw; (try dsimp only at hSw); go_simp) <;> (with_reducible rfl)
        (try simp only [Act.put, List.setIfInBounds_toArray, List.set_cons_succ, List.set_cons_zero])
        refine wpAnyH_take (i := 4) (oi := ⟨some 28, _, _, _, _, _⟩) (v := ?_) rfl (by kernel_rfl) (by kernel_rfl) (by kernel_rfl) (fun _ _ _ h => h) (Or.inl ⟨by kernel_rfl, ?_⟩) (by assumption) ?_
        rotate_left 1
        · (intro w hSw; (try dsimp only at hSw); go_simp) <;> (with_reducible rfl)
        (try simp only [Act.put, List.setIfInBounds_toArray, List.set_cons_succ, List.set_cons_zero])
        refine wpAnyH_take (i := 5) (oi := ⟨some 29, _, _, _, _, _⟩) (v := ?_) rfl (by kernel_rfl) (by kernel_rfl) (by kernel_rfl) (fun _ _ _ h => h) (Or.inl ⟨by kernel_rfl, ?_⟩) (by assumption) ?_
        rotate_left 1
        · (intro w hSw; (try dsimp only at hSw); go_simp) <;> (with_reducible rfl)
        (try simp only [Act.put, List.setIfInBounds_toArray, List.set_cons_succ, List.set_cons_zero])
        refine wpAnyH_done (by kernel_rfl) ?_ _
        refine NoPanic.normal ?_
        have G := hide (NY.out HN.out)
        clear FX KR NY NN
        have RB2 := RB.out
        obtain ⟨y0, y1⟩ := FE.out _ K.out
        have M := bal (brefl wd) (.cells #[.int .i64 s, .int .i64 p] 26)
        have OQ2 := hide (row_below OQ.out M)
        have NB := hide (MB.news (MB.new wd s p))
        have KM := hide (btrans K.out M)
        replace X := hide (X.out.below M)
        unfold mC at NB
        dsimp only at NB
        clear M OQ K
        have HBB := hide (show (g3 + 1) ≤ _ from X.out.lt)
        go_wp2_with (at_builtin; refine wpList_append_own _ rfl (.tmp 30) (.tmp 35) 22 rfl (g3 + 1) 26 i0 _ 2 16 Try.underlying22 hi0 hz0 hz1 hz2 rfl (by omega) (.slice A1 R.length c1) R.length (mcs R) rfl OQ2.out ⟨wd.heap.size, 0, none⟩ 1 1 [.int .i64 s, .int .i64 p] rfl rfl NB.out (by intro u hu; simp only [List.mem_cons, List.not_mem_nil, or_false] at hu; rcases hu with rfl | rfl <;> rfl) (by simp only [maxLen]; omega) (by omega) HBB.out ?_; intro v1 w9 hown1 hg1 _; obtain ⟨A2, c2, rfl, OQ, BG⟩ := push_next HBB.out OQ2.out hown1 hg1; replace OQ := hide OQ; have K := hide (KM.out.trans (BG.mono HLE.out)); replace X := hide (show MB w9 g3 ⟨t, q⟩ from (BG.block g3 (Nat.lt_succ_self _)).trans X.out); clear hown1 hg1 OQ2 NB KM BG HBB)
        have RL := hide (show (R ++ [(⟨s, p⟩ : Mp)]).length = R.length + 1 by simp)
        rw [← RL.out]
        generalize R ++ [(⟨s, p⟩ : Mp)] = R3 at *
        go_wp2
        go_roundw
        case rel => exact ⟨k + 1, A2, c2, R3, by omega, rfl, by go_num, OQ, K, X, G⟩
        case measure => simp [intOf]; omega
    · obtain rfl : k = L.length := by omega
      have G := hide (show R = F by have := N.out; rw [List.drop_length, List.filter_nil, List.append_nil] at this; exact this)
      have G2 := G.out
      subst G2
      clear N
      go_wp2
      go_ret2
      exact ⟨A1, c1, rfl, row_mono OQ.out HLE.out, K.out⟩
set_option maxRecDepth 100000 in
set_option maxHeartbeats 8000000 in
theorem rdrop_any (A : Option Addr) (c : Nat) (L : List Mp) (t : Int) (w : World) (hr : Ms w A L) (hn : L.length ≤ 1000) : Calls Try.prog 21 #[.slice A L.length c, .int .i64 t] w (InR w.heap.size (drL L t) w) := by
  obtain ⟨i0, hi0, hz0, hz1, hz2⟩ := info_parts info26
  unfold InR
  have HR := hide hr
  have K := hide (brefl w)
  have HLE := hide (Nat.le_refl w.heap.size)
  have CK := hide (fun w' (h : Below w.heap.size w w') => rcheck_any A c L w' (hr.below h) (by omega))
  clear hr
  by_cases h0 : ck L = 0
  rotate_left 1
  · have EL := hide (show drL L t = [] from if_neg h0)
    rw [EL.out]
    have h2 := ne_bool h0
    clear EL h0
    generalize ck L = ce at *
    go_enter Try.func21, Try.ntmps21
    go_wp2_with fail
    refine (CK.out _ K.out).mono ?_
    rintro e w2 ⟨rfl, hb⟩
    replace K := hide (btrans K.out hb)
    clear hb
    go_wp2
    go_ret
    exact ⟨none, 0, rfl, owm_nil _ _, K.out⟩
  rw [h0] at CK
  have EL := hide (show drL L t = L.filter (fun x => decide (x.s ≠ t)) from if_pos h0)
  rw [EL.out]
  have F0 := hide (show ([] : List Mp) ++ (L.drop 0).filter (fun x => decide (x.s ≠ t)) = L.filter (fun x => decide (x.s ≠ t)) from rfl)
  clear EL h0
  have FL := hide (fun (R : List Mp) k (h : R ++ (L.drop k).filter (fun x => decide (x.s ≠ t)) = L.filter (fun x => decide (x.s ≠ t))) => fil_len h)
  generalize hF : L.filter (fun x => decide (x.s ≠ t)) = F at *
  clear hF
  go_enter Try.func21, Try.ntmps21
  go_wp2_with fail
  refine (CK.out _ K.out).mono ?_
  rintro e w2 ⟨rfl, hb⟩
  replace K := hide (btrans K.out hb)
  clear hb
  go_wp2
  go_loopw [5, 6] (fun o i wr => ∃ k : Nat, ∃ A1 c1, ∃ R : List Mp, k ≤ L.length ∧ o = .slice A1 R.length c1 ∧ i = .int .i64 k ∧ Hid (OwM w.heap.size wr (.slice A1 R.length c1) R) ∧ Hid (Below w.heap.size w wr) ∧ Hid (R ++ (L.drop k).filter (fun x => decide (x.s ≠ t)) = F)) (fun _ i _ => L.length - (intOf i).toNat)
  case atStart => exact ⟨0, none, 0, [], Nat.zero_le _, rfl, rfl, hide (owm_nil _ _), K, F0⟩
  case round =>
    clear K
    obtain ⟨k, A1, c1, R, hk, rfl, rfl, OQ, K, N⟩ := hrel
    by_cases hlt : k < L.length
    · have hl2 : (k : Int) < (L.length : Int) := by omega
      have hk0 : (0 : Int) ≤ (k : Int) := by omega
      obtain ⟨b, off, rfl, hbl, y0, y1⟩ := HR.out.cells K.out hlt
      have RB := hide (FL.out R k N.out)
      have NY := hide (show ¬ (at' L k).s = t → _ from fun h => (fil_cons N.out hlt).1 (decide_eq_true h))
      have NN := hide (show (at' L k).s = t → _ from fun h => (fil_cons N.out hlt).2 (decide_eq_false (fun g => g h)))
      clear N
      obtain ⟨a, ha⟩ : ∃ a, a = at' L k := ⟨_, rfl⟩
      rw [← ha] at y0 y1 NY NN
      clear ha
      obtain ⟨s, p⟩ := a
      dsimp only at y0 y1
      by_cases hs : s = t
      · have G := hide (NN.out hs)
        have hb1 : (s != t) = false := by simp [hs]
        clear hs NY NN
        go_wp2
        go_roundw
        case rel => exact ⟨k + 1, A1, c1, R, by omega, rfl, by go_num, OQ, K, G⟩
        case measure => simp [intOf]; omega
      · have G := hide (NY.out hs)
        have hb1 : (s != t) = true := bne_iff_ne.2 hs
        clear hs NY NN
        have RB2 := RB.out
        have M := bal (brefl wr) (.cells #[.int .i64 s, .int .i64 p] 26)
        have OQ2 := hide (row_below OQ.out M)
        have NB := hide (MB.news (MB.new wr s p))
        have KM := hide (btrans K.out M)
        unfold mC at NB
        dsimp only at NB
        clear M OQ K
        have HBB := hide (show w.heap.size ≤ _ from KM.out.size)
        go_wp2_with (at_builtin; refine wpList_append_own _ rfl (.tmp 24) (.tmp 29) 22 rfl w.heap.size 26 i0 _ 2 16 Try.underlying22 hi0 hz0 hz1 hz2 rfl (by omega) (.slice A1 R.length c1) R.length (mcs R) rfl OQ2.out ⟨wr.heap.size, 0, none⟩ 1 1 [.int .i64 s, .int .i64 p] rfl rfl NB.out (by intro u hu; simp only [List.mem_cons, List.not_mem_nil, or_false] at hu; rcases hu with rfl | rfl <;> rfl) (by simp only [maxLen]; omega) (by omega) HBB.out ?_; intro v1 w9 hown1 hg1 _; obtain ⟨A2, c2, rfl, OQ, BG⟩ := push_next HBB.out OQ2.out hown1 hg1; replace OQ := hide OQ; have K := hide (KM.out.trans (BG.mono HLE.out)); clear hown1 hg1 OQ2 NB KM BG HBB)
        have RL := hide (show (R ++ [(⟨s, p⟩ : Mp)]).length = R.length + 1 by simp)
        rw [← RL.out]
        generalize R ++ [(⟨s, p⟩ : Mp)] = R3 at *
        go_wp2
        go_roundw
        case rel => exact ⟨k + 1, A2, c2, R3, by omega, rfl, by go_num, OQ, K, G⟩
        case measure => simp [intOf]; omega
    · obtain rfl : k = L.length := by omega
      have G := hide (show R = F by have := N.out; rw [List.drop_length, List.filter_nil, List.append_nil] at this; exact this)
      have G2 := G.out
      subst G2
      clear N
      go_wp2
      go_ret
      exact ⟨A1, c1, rfl, OQ.out, K.out⟩
end Go.Proofs.Ytioffnpnoohbiaa.Rm
