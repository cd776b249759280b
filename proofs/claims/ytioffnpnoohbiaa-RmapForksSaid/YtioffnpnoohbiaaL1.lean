import Derived.Test.YtioffnpnoohbiaaAw
namespace Go.Proofs.Ytioffnpnoohbiaa.Rm
open Go Go.RowKit
set_option linter.unusedVariables false
set_option linter.unusedSimpArgs false
set_option maxRecDepth 100000 in
set_option maxHeartbeats 8000000 in
theorem law_copies (A : Option Addr) (cp : Nat) (L : List Mp) (f t : Int) (w : World) (hr : Ms w A L) (hn : L.length ≤ 9223372036854775807) : Calls Try.prog 6 #[.slice A L.length cp, .int .i64 f, .int .i64 t] w fun e w' => e = .returned (.bool true) ∧ Below w.heap.size w w' := by
  have AWK := hide (fun w => awake_any w)
  have K := hide (brefl w)
  have HR := hide (fun w' (h : Below w.heap.size w w') => hr.below h)
  clear hr
  by_cases hf : (40 : Int) < L.length
  · clear HR
    go_enter Try.func6, Try.ntmps6
    go_wp2_with fail
    refine (AWK.out _).mono ?_
    rintro e w1 ⟨rfl, hb⟩
    replace K := hide (btrans K.out hb)
    clear hb
    go_wp2_with fail
    refine (AWK.out _).mono ?_
    rintro e w2 ⟨rfl, hb⟩
    replace K := hide (btrans K.out hb)
    clear hb
    go_wp2
    go_ret
    exact ⟨rfl, K.out⟩
  have hl : L.length ≤ 40 := by omega
  have HL := hide hl
  have C1 := hide (fun w h => copy_any A cp L f t w h (by have := HL.out; omega))
  have C2 := hide (fun w h => rcopy_any A cp L f t w h (by have := HL.out; omega))
  have D1 := hide (fun w h => drop_any A cp L f w h (by have := HL.out; omega))
  have D2 := hide (fun w h => rdrop_any A cp L f w h (by have := HL.out; omega))
  have SM := hide (fun A c L B d R w h1 h2 n1 n2 => same_any A c L B d R w h1 h2 n1 n2)
  unfold CpR at C1 C2
  unfold InR at D1 D2
  have CU := hide (fun R S (h : CpL L f t R) (k : CpL L f t S) => h.uniq k)
  have LB := hide (show ∀ R, CpL L f t R → R.length ≤ 80 from fun R h => by
    unfold CpL at h
    by_cases c : cpE L f t = 0
    · rw [if_pos c] at h
      have h1 := h.2.length_eq
      have h2 := mv_len L f t
      rw [List.length_append] at h1
      omega
    · rw [if_neg c] at h
      rw [h]; simp)
  have DB := hide (show (drL L f).length ≤ 40 from by
    unfold drL
    split
    · exact Nat.le_trans (List.length_filter_le _ _) hl
    · simp)
  generalize cpE L f t = ce at *
  generalize drL L f = DD at *
  clear hl
  go_enter Try.func6, Try.ntmps6
  go_wp2_with fail
  refine (AWK.out _).mono ?_
  rintro e w1 ⟨rfl, hb⟩
  replace K := hide (btrans K.out hb)
  clear hb
  go_wp2_with fail
  refine (C1.out _ (HR.out _ K.out)).mono ?_
  rintro e w2 ⟨R, A1, c1, rfl, hR, ho, hb⟩
  have M1 := hide (OwM.rs ho)
  have E1 := hide hR
  replace K := hide (btrans K.out hb)
  clear ho hb hR
  go_wp2_with fail
  refine (C2.out _ (HR.out _ K.out)).mono ?_
  rintro e w3 ⟨R2, A2, c2, rfl, hR, ho, hb⟩
  have h2 := CU.out _ _ hR E1.out
  subst h2
  have M2 := hide (OwM.rs ho)
  have RB := hide (LB.out _ E1.out)
  replace M1 := hide (M1.out.below hb)
  replace K := hide (btrans K.out hb)
  clear ho hb hR C1 C2 E1 CU LB
  have S1 := hide (SM.out A1 c1 R2 A2 c2 R2 _ M1.out M2.out (by have := RB.out; omega) (by have := RB.out; omega))
  rw [decide_eq_true (show R2 = R2 from rfl)] at S1
  generalize R2.length = n1 at *
  have hce : (ce == ce) = true := by simp
  go_wp2_with fail
  refine S1.out.mono ?_
  rintro e w4 ⟨rfl, hb⟩
  replace K := hide (btrans K.out hb)
  clear hb S1 M1 M2
  go_wp2_with fail
  refine (D1.out _ (HR.out _ K.out)).mono ?_
  rintro e w5 ⟨A3, c3, rfl, ho, hb⟩
  have M1 := hide (OwM.rs ho)
  replace K := hide (btrans K.out hb)
  clear ho hb
  go_wp2_with fail
  refine (D2.out _ (HR.out _ K.out)).mono ?_
  rintro e w6 ⟨A4, c4, rfl, ho, hb⟩
  have M2 := hide (OwM.rs ho)
  replace M1 := hide (M1.out.below hb)
  replace K := hide (btrans K.out hb)
  clear ho hb
  have S1 := hide (SM.out A3 c3 DD A4 c4 DD _ M1.out M2.out (by have := DB.out; omega) (by have := DB.out; omega))
  rw [decide_eq_true (show DD = DD from rfl)] at S1
  go_wp2_with fail
  refine S1.out.mono ?_
  rintro e w7 ⟨rfl, hb⟩
  replace K := hide (btrans K.out hb)
  clear hb
  go_wp2
  go_ret
  exact ⟨rfl, K.out⟩
set_option maxRecDepth 100000 in
set_option maxHeartbeats 8000000 in
theorem law_checks (A : Option Addr) (cp : Nat) (L : List Mp) (t q : Int) (w : World) (hr : Ms w A L) (hn : L.length ≤ 9223372036854775807) : Calls Try.prog 4 #[.slice A L.length cp, .agg #[.int .i64 t, .int .i64 q]] w fun e w' => e = .returned (.bool true) ∧ Below w.heap.size w w' := by
  have AWK := hide (fun w => awake_any w)
  have K := hide (bal (brefl w) (.cells #[.int .i64 t, .int .i64 q] 26))
  have X := hide (MB.new w t q)
  obtain ⟨g3, hg3⟩ : ∃ g, g = w.heap.size := ⟨_, rfl⟩
  have HG := hide hg3
  rw [← hg3] at X
  by_cases hf : (60 : Int) < L.length
  · clear hr hg3
    go_enter Try.func4, Try.ntmps4
    go_wp2_with fail
    refine (AWK.out _).mono ?_
    rintro e w1 ⟨rfl, hb⟩
    replace K := hide (btrans K.out hb)
    clear hb
    go_wp2_with fail
    refine (AWK.out _).mono ?_
    rintro e w2 ⟨rfl, hb⟩
    replace K := hide (btrans K.out hb)
    clear hb
    go_wp2
    go_ret
    exact ⟨rfl, K.out⟩
  have hl : L.length ≤ 60 := by omega
  have CK := hide (fun w' (h : Below w.heap.size w w') => check_any A cp L w' (hr.below h) (by omega))
  have RK := hide (fun w' (h : Below w.heap.size w w') => rcheck_any A cp L w' (hr.below h) (by omega))
  have HA := hide (fun w' (h : Below w.heap.size w w') => has_any A L cp t q w' (hr.below h) (by omega))
  have RH := hide (fun w' (h : Below w.heap.size w w') => rhas_any A cp L t q w' (hr.below h) (by omega))
  have AD := hide (fun w' (h : Below w.heap.size w w') => add_any A cp L 0 0 w' (hr.below h) (by omega))
  have DR := hide (fun w' (h : Below w.heap.size w w') => drop_any A cp L 0 w' (hr.below h) (by omega))
  unfold PuR at AD
  unfold InR at DR
  have EA := hide (show ck L ≠ 0 → adE L ⟨0, 0⟩ = ck L ∧ adL L ⟨0, 0⟩ = [] ∧ drL L 0 = [] from fun h => by
    have h1 : adE L ⟨0, 0⟩ = ck L := if_neg h
    exact ⟨h1, if_neg (by rw [h1]; exact h), if_neg h⟩)
  generalize hs L ⟨t, q⟩ = hb at *
  generalize adE L ⟨0, 0⟩ = ae at *
  generalize adL L ⟨0, 0⟩ = al at *
  generalize drL L 0 = dl at *
  generalize ck L = ce at *
  have hce : (ce != ce) = false := by simp
  have hhb : (!(hb == hb)) = false := by simp
  clear hr hg3 hl
  go_enter Try.func4, Try.ntmps4
  go_wp2_with fail
  rw [← HG.out]
  generalize w.alloc (.cells #[.int .i64 t, .int .i64 q] 26) = w0 at *
  refine (AWK.out _).mono ?_
  rintro e w1 ⟨rfl, hb⟩
  replace X := hide (X.out.below hb)
  replace K := hide (btrans K.out hb)
  clear hb
  go_wp2_with fail
  refine (RK.out _ K.out).mono ?_
  rintro e w4 ⟨rfl, hb⟩
  replace X := hide (X.out.below hb)
  replace K := hide (btrans K.out hb)
  clear hb
  by_cases hz : ce = 0
  · subst hz
    go_upto_region 4 with fail
    have KD : Below w4.heap.size w4 w4.drew := below_drewN (brefl _) 1
    replace X := hide (X.out.below KD)
    replace K := hide (btrans K.out KD)
    clear KD
    refine wp_region_noPanic ?_
    refine wp_region_held_drew (S := (fun W => W.cell? ⟨g3, 0, none⟩ = some (.int .i64 t) ∧ W.cell? ⟨g3, 1, none⟩ = some (.int .i64 q))) (by kernel_rfl) ?_ (fun hHeld => ?_)
    · exact MB.cells X.out
    generalize w4.drew = wd at *
    refine wpAnyH_take (i := 0) (oi := ⟨some 18, _, _, _, _, _⟩) (v := ?_) rfl (by kernel_rfl) (by kernel_rfl) (by kernel_rfl) (fun _ _ _ h => h) (Or.inl ⟨by kernel_rfl, ?_⟩) (by assumption) ?_
    rotate_left 1
    · (intro w hSw; (try dsimp only at hSw); go_simp) <;> (with_reducible rfl)
    (try simp only [Act.put, List.setIfInBounds_toArray, List.set_cons_succ, List.set_cons_zero])
    refine wpAnyH_take (i := 2) (oi := ⟨some 20, _, _, _, _, _⟩) (v := ?_) rfl (by kernel_rfl) (by kernel_rfl) (by kernel_rfl) (fun _ _ _ h => h) (Or.inl ⟨by kernel_rfl, ?_⟩) (by assumption) ?_
    rotate_left 1
    · (intro w hSw; (try dsimp only at hSw); go_simp) <;> (with_reducible rfl)
    (try simp only [Act.put, List.setIfInBounds_toArray, List.set_cons_succ, List.set_cons_zero])
    refine wpAnyH_ready (rs := [1]) (by kernel_rfl) (by simp) ?_
    refine AllReadyH.cons (o := ⟨some 19, _, _, _, _, _⟩) rfl (fun K' hK => ?_) AllReadyH.nil
    go_simp
    refine (CK.out _ K.out).mono ?_
    rintro e w5 ⟨rfl, hb⟩
    replace X := hide (X.out.below hb)
    replace K := hide (btrans K.out hb)
    clear hb
    refine hK.out _ _ ?_ (fun hHeld => ?_)
    · exact MB.cells X.out
    clear hK K'
    (try simp only [Act.put, List.setIfInBounds_toArray, List.set_cons_succ, List.set_cons_zero])
    refine wpAnyH_take (i := 3) (oi := ⟨some 21, _, _, _, _, _⟩) (v := ?_) rfl (by kernel_rfl) (by kernel_rfl) (by kernel_rfl) (fun _ _ _ h => h) (Or.inl ⟨by kernel_rfl, ?_⟩) (by assumption) ?_
    rotate_left 1
    · (intro w hSw; (try dsimp only at hSw); go_simp) <;> (with_reducible rfl)
    (try simp only [Act.put, List.setIfInBounds_toArray, List.set_cons_succ, List.set_cons_zero])
    refine wpAnyH_take (i := 4) (oi := ⟨some 22, _, _, _, _, _⟩) (v := ?_) rfl (by kernel_rfl) (by kernel_rfl) (by kernel_rfl) (fun _ _ _ h => h) (Or.inl ⟨by kernel_rfl, ?_⟩) (by assumption) ?_
    rotate_left 1
    · (intro w hSw; (try dsimp only at hSw); go_simp) <;> (with_reducible rfl)
    (try simp only [Act.put, List.setIfInBounds_toArray, List.set_cons_succ, List.set_cons_zero])
    refine wpAnyH_take (i := 5) (oi := ⟨some 23, _, _, _, _, _⟩) (v := ?_) rfl (by kernel_rfl) (by kernel_rfl) (by kernel_rfl) (fun _ _ _ h => h) (Or.inl ⟨by kernel_rfl, ?_⟩) (by assumption) ?_
    rotate_left 1
    · (intro w hSw; (try dsimp only at hSw); go_simp) <;> (with_reducible rfl)
    (try simp only [Act.put, List.setIfInBounds_toArray, List.set_cons_succ, List.set_cons_zero])
    refine wpAnyH_take (i := 6) (oi := ⟨some 24, _, _, _, _, _⟩) (v := ?_) rfl (by kernel_rfl) (by kernel_rfl) (by kernel_rfl) (fun _ _ _ h => h) (Or.inl ⟨by kernel_rfl, ?_⟩) (by assumption) ?_
    rotate_left 1
    · (intro w hSw; (try dsimp only at hSw); go_simp) <;> (with_reducible rfl)
    (try simp only [Act.put, List.setIfInBounds_toArray, List.set_cons_succ, List.set_cons_zero])
    refine wpAnyH_take (i := 8) (oi := ⟨some 26, _, _, _, _, _⟩) (v := ?_) rfl (by kernel_rfl) (by kernel_rfl) (by kernel_rfl) (fun _ _ _ h => h) (Or.inl ⟨by kernel_rfl, ?_⟩) (by assumption) ?_
    rotate_left 1
    · (intro w hSw; (try dsimp only at hSw); go_simp) <;> (with_reducible rfl)
    (try simp only [Act.put, List.setIfInBounds_toArray, List.set_cons_succ, List.set_cons_zero])
    refine wpAnyH_take (i := 9) (oi := ⟨some 27, _, _, _, _, _⟩) (v := ?_) rfl (by kernel_rfl) (by kernel_rfl) (by kernel_rfl) (fun _ _ _ h => h) (Or.inl ⟨by kernel_rfl, ?_⟩) (by assumption) ?_
    rotate_left 1
    · (intro w hSw; (try dsimp only at hSw); go_simp) <;> (with_reducible rfl)
    (try simp only [Act.put, List.setIfInBounds_toArray, List.set_cons_succ, List.set_cons_zero])
    refine wpAnyH_ready (rs := [7]) (by kernel_rfl) (by simp) ?_
    refine AllReadyH.cons (o := ⟨some 25, _, _, _, _, _⟩) rfl (fun K' hK => ?_) AllReadyH.nil
    go_simp
    refine (HA.out _ K.out).mono ?_
    rintro e w5 ⟨rfl, hb⟩
    replace X := hide (X.out.below hb)
    replace K := hide (btrans K.out hb)
    clear hb
    refine hK.out _ _ ?_ (fun hHeld => ?_)
    · exact MB.cells X.out
    clear hK K'
    (try simp only [Act.put, List.setIfInBounds_toArray, List.set_cons_succ, List.set_cons_zero])
    refine wpAnyH_ready (rs := [10]) (by kernel_rfl) (by simp) ?_
    refine AllReadyH.cons (o := ⟨some 28, _, _, _, _, _⟩) rfl (fun K' hK => ?_) AllReadyH.nil
    go_simp
    refine (RH.out _ K.out).mono ?_
    rintro e w5 ⟨rfl, hb⟩
    replace X := hide (X.out.below hb)
    replace K := hide (btrans K.out hb)
    clear hb
    refine hK.out _ _ ?_ (fun hHeld => ?_)
    · exact MB.cells X.out
    clear hK K'
    (try simp only [Act.put, List.setIfInBounds_toArray, List.set_cons_succ, List.set_cons_zero])
    refine wpAnyH_take (i := 11) (oi := ⟨some 29, _, _, _, _, _⟩) (v := ?_) rfl (by kernel_rfl) (by kernel_rfl) (by kernel_rfl) (fun _ _ _ h => h) (Or.inl ⟨by kernel_rfl, ?_⟩) (by assumption) ?_
    rotate_left 1
    · (intro w hSw; (try dsimp only at hSw); go_simp) <;> (with_reducible rfl)
    (try simp only [Act.put, List.setIfInBounds_toArray, List.set_cons_succ, List.set_cons_zero])
    refine wpAnyH_take (i := 12) (oi := ⟨some 30, _, _, _, _, _⟩) (v := ?_) rfl (by kernel_rfl) (by kernel_rfl) (by kernel_rfl) (fun _ _ _ h => h) (Or.inl ⟨by kernel_rfl, ?_⟩) (by assumption) ?_
    rotate_left 1
    · (intro w hSw; (try dsimp only at hSw); go_simp) <;> (with_reducible rfl)
    (try simp only [Act.put, List.setIfInBounds_toArray, List.set_cons_succ, List.set_cons_zero])
    refine wpAnyH_done (by kernel_rfl) ?_ _
    refine NoPanic.normal ?_
    all_goals
      go_wp2
      go_ret
      exact ⟨rfl, K.out⟩
  · obtain ⟨rfl, rfl, rfl⟩ := EA.out hz
    have hz2 : (ae == 0) = false := beq_eq_false_iff_ne.2 hz
    have hz3 : (ae == ae) = true := by simp
    clear hz EA
    go_upto_region 4 with fail
    have KD : Below w4.heap.size w4 w4.drew := below_drewN (brefl _) 1
    replace X := hide (X.out.below KD)
    replace K := hide (btrans K.out KD)
    clear KD
    refine wp_region_noPanic ?_
    refine wp_region_held_drew (S := (fun W => W.cell? ⟨g3, 0, none⟩ = some (.int .i64 t) ∧ W.cell? ⟨g3, 1, none⟩ = some (.int .i64 q))) (by kernel_rfl) ?_ (fun hHeld => ?_)
    · exact MB.cells X.out
    generalize w4.drew = wd at *
    refine wpAnyH_take (i := 0) (oi := ⟨some 18, _, _, _, _, _⟩) (v := ?_) rfl (by kernel_rfl) (by kernel_rfl) (by kernel_rfl) (fun _ _ _ h => h) (Or.inl ⟨by kernel_rfl, ?_⟩) (by assumption) ?_
    rotate_left 1
    · (intro w hSw; (try dsimp only at hSw); go_simp) <;> (with_reducible rfl)
    (try simp only [Act.put, List.setIfInBounds_toArray, List.set_cons_succ, List.set_cons_zero])
    refine wpAnyH_take (i := 2) (oi := ⟨some 20, _, _, _, _, _⟩) (v := ?_) rfl (by kernel_rfl) (by kernel_rfl) (by kernel_rfl) (fun _ _ _ h => h) (Or.inl ⟨by kernel_rfl, ?_⟩) (by assumption) ?_
    rotate_left 1
    · (intro w hSw; (try dsimp only at hSw); go_simp) <;> (with_reducible rfl)
    (try simp only [Act.put, List.setIfInBounds_toArray, List.set_cons_succ, List.set_cons_zero])
    refine wpAnyH_ready (rs := [1]) (by kernel_rfl) (by simp) ?_
    refine AllReadyH.cons (o := ⟨some 19, _, _, _, _, _⟩) rfl (fun K' hK => ?_) AllReadyH.nil
    go_simp
    refine (CK.out _ K.out).mono ?_
    rintro e w5 ⟨rfl, hb⟩
    replace X := hide (X.out.below hb)
    replace K := hide (btrans K.out hb)
    clear hb
    refine hK.out _ _ ?_ (fun hHeld => ?_)
    · exact MB.cells X.out
    clear hK K'
    (try simp only [Act.put, List.setIfInBounds_toArray, List.set_cons_succ, List.set_cons_zero])
    refine wpAnyH_take (i := 3) (oi := ⟨some 21, _, _, _, _, _⟩) (v := ?_) rfl (by kernel_rfl) (by kernel_rfl) (by kernel_rfl) (fun _ _ _ h => h) (Or.inl ⟨by kernel_rfl, ?_⟩) (by assumption) ?_
    rotate_left 1
    · (intro w hSw; (try dsimp only at hSw); go_simp) <;> (with_reducible rfl)
    (try simp only [Act.put, List.setIfInBounds_toArray, List.set_cons_succ, List.set_cons_zero])
    refine wpAnyH_take (i := 4) (oi := ⟨some 22, _, _, _, _, _⟩) (v := ?_) rfl (by kernel_rfl) (by kernel_rfl) (by kernel_rfl) (fun _ _ _ h => h) (Or.inl ⟨by kernel_rfl, ?_⟩) (by assumption) ?_
    rotate_left 1
    · (intro w hSw; (try dsimp only at hSw); go_simp) <;> (with_reducible rfl)
    (try simp only [Act.put, List.setIfInBounds_toArray, List.set_cons_succ, List.set_cons_zero])
    refine wpAnyH_take (i := 5) (oi := ⟨some 23, _, _, _, _, _⟩) (v := ?_) rfl (by kernel_rfl) (by kernel_rfl) (by kernel_rfl) (fun _ _ _ h => h) (Or.inl ⟨by kernel_rfl, ?_⟩) (by assumption) ?_
    rotate_left 1
    · (intro w hSw; (try dsimp only at hSw); go_simp) <;> (with_reducible rfl)
    (try simp only [Act.put, List.setIfInBounds_toArray, List.set_cons_succ, List.set_cons_zero])
    refine wpAnyH_take (i := 6) (oi := ⟨some 24, _, _, _, _, _⟩) (v := ?_) rfl (by kernel_rfl) (by kernel_rfl) (by kernel_rfl) (fun _ _ _ h => h) (Or.inl ⟨by kernel_rfl, ?_⟩) (by assumption) ?_
    rotate_left 1
    · (intro w hSw; (try dsimp only at hSw); go_simp) <;> (with_reducible rfl)
    (try simp only [Act.put, List.setIfInBounds_toArray, List.set_cons_succ, List.set_cons_zero])
    refine wpAnyH_take (i := 8) (oi := ⟨some 26, _, _, _, _, _⟩) (v := ?_) rfl (by kernel_rfl) (by kernel_rfl) (by kernel_rfl) (fun _ _ _ h => h) (Or.inl ⟨by kernel_rfl, ?_⟩) (by assumption) ?_
    rotate_left 1
    · (intro w hSw; (try dsimp only at hSw); go_simp) <;> (with_reducible rfl)
    (try simp only [Act.put, List.setIfInBounds_toArray, List.set_cons_succ, List.set_cons_zero])
    refine wpAnyH_take (i := 9) (oi := ⟨some 27, _, _, _, _, _⟩) (v := ?_) rfl (by kernel_rfl) (by kernel_rfl) (by kernel_rfl) (fun _ _ _ h => h) (Or.inl ⟨by kernel_rfl, ?_⟩) (by assumption) ?_
    rotate_left 1
    · (intro w hSw; (try dsimp only at hSw); go_simp) <;> (with_reducible rfl)
    (try simp only [Act.put, List.setIfInBounds_toArray, List.set_cons_succ, List.set_cons_zero])
    refine wpAnyH_ready (rs := [7]) (by kernel_rfl) (by simp) ?_
    refine AllReadyH.cons (o := ⟨some 25, _, _, _, _, _⟩) rfl (fun K' hK => ?_) AllReadyH.nil
    go_simp
    refine (HA.out _ K.out).mono ?_
    rintro e w5 ⟨rfl, hb⟩
    replace X := hide (X.out.below hb)
    replace K := hide (btrans K.out hb)
    clear hb
    refine hK.out _ _ ?_ (fun hHeld => ?_)
    · exact MB.cells X.out
    clear hK K'
    (try simp only [Act.put, List.setIfInBounds_toArray, List.set_cons_succ, List.set_cons_zero])
    refine wpAnyH_ready (rs := [10]) (by kernel_rfl) (by simp) ?_
    refine AllReadyH.cons (o := ⟨some 28, _, _, _, _, _⟩) rfl (fun K' hK => ?_) AllReadyH.nil
    go_simp
    refine (RH.out _ K.out).mono ?_
    rintro e w5 ⟨rfl, hb⟩
    replace X := hide (X.out.below hb)
    replace K := hide (btrans K.out hb)
    clear hb
    refine hK.out _ _ ?_ (fun hHeld => ?_)
    · exact MB.cells X.out
    clear hK K'
    (try simp only [Act.put, List.setIfInBounds_toArray, List.set_cons_succ, List.set_cons_zero])
    refine wpAnyH_take (i := 11) (oi := ⟨some 29, _, _, _, _, _⟩) (v := ?_) rfl (by kernel_rfl) (by kernel_rfl) (by kernel_rfl) (fun _ _ _ h => h) (Or.inl ⟨by kernel_rfl, ?_⟩) (by assumption) ?_
    rotate_left 1
    · (intro w hSw; (try dsimp only at hSw); go_simp) <;> (with_reducible rfl)
    (try simp only [Act.put, List.setIfInBounds_toArray, List.set_cons_succ, List.set_cons_zero])
    refine wpAnyH_take (i := 12) (oi := ⟨some 30, _, _, _, _, _⟩) (v := ?_) rfl (by kernel_rfl) (by kernel_rfl) (by kernel_rfl) (fun _ _ _ h => h) (Or.inl ⟨by kernel_rfl, ?_⟩) (by assumption) ?_
    rotate_left 1
    · (intro w hSw; (try dsimp only at hSw); go_simp) <;> (with_reducible rfl)
    (try simp only [Act.put, List.setIfInBounds_toArray, List.set_cons_succ, List.set_cons_zero])
    refine wpAnyH_done (by kernel_rfl) ?_ _
    refine NoPanic.normal ?_
    all_goals
      go_wp2_with fail
      refine (AD.out _ K.out).mono ?_
      rintro e w6 ⟨A1, c1, rfl, ho, hb⟩
      replace K := hide (btrans K.out hb)
      clear ho hb
      go_wp2_with fail
      refine (DR.out _ K.out).mono ?_
      rintro e w7 ⟨A2, c2, rfl, ho, hb⟩
      replace K := hide (btrans K.out hb)
      clear ho hb
      go_wp2
      go_ret
      exact ⟨rfl, K.out⟩
end Go.Proofs.Ytioffnpnoohbiaa.Rm
