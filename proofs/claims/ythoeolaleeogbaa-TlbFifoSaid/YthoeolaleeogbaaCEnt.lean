import Derived.Test.YthoeolaleeogbaaPreds
namespace Go.Proofs.Ythoeolaleeogbaa.Tb
open Go Go.RowKit Go.Proofs.Ythoeolaleeogbaa.Pt
set_option linter.unusedVariables false
theorem okSP_inP {s p : Int} (h : okSP s p = true) : inP p := by
  unfold okSP at h
  simp only [Bool.and_eq_true, decide_eq_true_eq] at h
  unfold inP; omega
theorem okE_inP {e : Te} (h : okE e = true) : inP e.2.1 := by
  obtain ⟨_, h2, _⟩ := okE_bd h
  unfold inP; omega
set_option maxHeartbeats 2000000 in
theorem centry_any (e : Te) (A : Option Addr) (L : List Te) (c : Nat) (w : World) (hr : Ts w A L) (hn : L.length ≤ 1000) (hW : inW e.2.2) (hL : ∀ o ∈ L, okE o = true ∧ inW o.2.2) :
    Calls Try.prog 31 #[tv e, .slice A L.length c] w fun r w' => r = .returned (.int .i64 (entE e L)) ∧ Below w.heap.size w w' := by
  have X := hide (Box.new w 47 #[.int .i64 e.1, .int .i64 e.2.1, .int .u64 e.2.2])
  have K0 := hide (bal (brefl w) (.cells #[.int .i64 e.1, .int .i64 e.2.1, .int .u64 e.2.2] 47))
  have R0 := hide (hr.below K0.out)
  unfold tv
  cases hs : spB e.1
  · have E := hide (show entE e L = 2 by unfold entE oneE; rw [okSP_eq, hs]; rfl)
    have S1 := hide (fun w => space_any e.1 w)
    rw [hs] at S1
    obtain ⟨a0, a1, a2⟩ := e
    simp only at *
    clear hr hW hL hs R0
    go_enter Try.func31, Try.ntmps31
    go_wp2_with (go_at_call 50; refine (S1.out _).mono ?_; rintro e w' ⟨rfl, rfl⟩)
    go_ret
    exact ⟨ret_int E.out.symm, K0.out⟩
  have S1 := hide (fun w => space_any e.1 w)
  rw [hs] at S1
  cases hpg : pgB e.2.1
  · have E := hide (show entE e L = 2 by unfold entE oneE; rw [okSP_eq, hs, hpg]; rfl)
    have S2 := hide (fun w => page_any e.2.1 w)
    rw [hpg] at S2
    obtain ⟨a0, a1, a2⟩ := e
    simp only at *
    clear hr hW hL hs hpg R0
    go_enter Try.func31, Try.ntmps31
    go_wp2_with (first | (go_at_call 50; refine (S1.out _).mono ?_; rintro e w' ⟨rfl, rfl⟩) | (go_at_call 52; refine (S2.out _).mono ?_; rintro e w' ⟨rfl, rfl⟩))
    go_ret
    exact ⟨ret_int E.out.symm, K0.out⟩
  have S2 := hide (fun w => page_any e.2.1 w)
  rw [hpg] at S2
  have hsp : okSP e.1 e.2.1 = true := by rw [okSP_eq, hs, hpg]; rfl
  have hp := okSP_inP hsp
  have T1 := hide (fun w => isTr_any e.2.2 w hW)
  have T2 := hide (fun w => fp_any e.2.1 e.2.2 w hp hW)
  have P54 := hide (pred_ovl54 e w.heap.size (w.alloc (.cells #[.int .i64 e.1, .int .i64 e.2.1, .int .u64 e.2.2] 47)) L X.out hp hW (fun o ho => ⟨okE_inP (hL o ho).1, (hL o ho).2⟩))
  cases ht : isTr e.2.2
  · have E := hide (show entE e L = 3 by unfold entE oneE; rw [hsp, ht]; rfl)
    rw [ht] at T1
    obtain ⟨a0, a1, a2⟩ := e
    simp only at *
    clear hr hW hL hs hpg R0 ht hsp hp T2 P54
    go_enter Try.func31, Try.ntmps31
    go_wp2_with (first | (go_at_call 50; refine (S1.out _).mono ?_; rintro e w' ⟨rfl, rfl⟩) | (go_at_call 52; refine (S2.out _).mono ?_; rintro e w' ⟨rfl, rfl⟩))
    obtain ⟨x0, x1, x2⟩ := box3_cells X.out (brefl _)
    have K := hide (brefl (w.alloc (.cells #[.int .i64 a0, .int .i64 a1, .int .u64 a2] 47)))
    refine wp_region_noPanic ?_
    refine wp_region_held_drew (S := (fun w' => w'.cell? ⟨w.heap.size, 0, none⟩ = some (.int .i64 a0) ∧ w'.cell? ⟨w.heap.size, 1, none⟩ = some (.int .i64 a1) ∧ w'.cell? ⟨w.heap.size, 2, none⟩ = some (.int .u64 a2))) (by kernel_rfl) ?_ (fun hHeld => ?_)
    · (have kk := box3_cells X.out K.out; exact kk)
    refine wpAnyH_take (i := 0) (v := ?_) rfl (by kernel_rfl) (by kernel_rfl) (by kernel_rfl) (fun _ _ _ h => h) (Or.inl ⟨by rfl, ?_⟩) (by assumption) ?_
    rotate_left 1
    · (intro w hSw; (try dsimp only at hSw); go_simp) <;> (with_reducible rfl)
    (try simp only [Act.put])
    refine wpAnyH_take (i := 1) (v := ?_) rfl (by kernel_rfl) (by kernel_rfl) (by kernel_rfl) (fun _ _ _ h => h) (Or.inl ⟨by rfl, ?_⟩) (by assumption) ?_
    rotate_left 1
    · (intro w hSw; (try dsimp only at hSw); go_simp) <;> (with_reducible rfl)
    (try simp only [Act.put])
    refine wpAnyH_ready (rs := [2]) (by kernel_rfl) (by simp) ?_
    refine AllReadyH.cons (o := _) rfl (fun K' hK => ?_) AllReadyH.nil
    go_simp
    refine (T1.out _).mono ?_
    rintro e wk ⟨rfl, hbk⟩
    replace K := hide (by first | exact btrans K.out hbk | exact btrans (below_drewN K.out _) hbk)
    clear hbk
    refine hK.out _ _ ?_ (fun hHeld => ?_)
    · (have kk := box3_cells X.out K.out; exact kk)
    clear hK K'
    (try simp only [Act.put])
    refine wpAnyH_take (i := 3) (v := ?_) rfl (by kernel_rfl) (by kernel_rfl) (by kernel_rfl) (fun _ _ _ h => h) (Or.inl ⟨by rfl, ?_⟩) (by assumption) ?_
    rotate_left 1
    · (intro w hSw; (try dsimp only at hSw); go_simp) <;> (with_reducible rfl)
    (try simp only [Act.put])
    refine wpAnyH_take (i := 4) (v := ?_) rfl (by kernel_rfl) (by kernel_rfl) (by kernel_rfl) (fun _ _ _ h => h) (Or.inl ⟨by rfl, ?_⟩) (by assumption) ?_
    rotate_left 1
    · (intro w hSw; (try dsimp only at hSw); go_simp) <;> (with_reducible rfl)
    (try simp only [Act.put])
    refine wpAnyH_take (i := 5) (v := undef) rfl (by kernel_rfl) (by kernel_rfl) (by kernel_rfl) (fun _ _ _ h => h) (Or.inr ⟨by rfl, rfl⟩) (by assumption) ?_
    (try simp only [Act.put])
    refine wpAnyH_take (i := 6) (v := undef) rfl (by kernel_rfl) (by kernel_rfl) (by kernel_rfl) (fun _ _ _ h => h) (Or.inr ⟨by rfl, rfl⟩) (by assumption) ?_
    (try simp only [Act.put])
    refine wpAnyH_take (i := 7) (v := undef) rfl (by kernel_rfl) (by kernel_rfl) (by kernel_rfl) (fun _ _ _ h => h) (Or.inr ⟨by rfl, rfl⟩) (by assumption) ?_
    (try simp only [Act.put])
    refine wpAnyH_take (i := 8) (v := undef) rfl (by kernel_rfl) (by kernel_rfl) (by kernel_rfl) (fun _ _ _ h => h) (Or.inr ⟨by rfl, rfl⟩) (by assumption) ?_
    (try simp only [Act.put])
    refine wpAnyH_take (i := 9) (v := undef) rfl (by kernel_rfl) (by kernel_rfl) (by kernel_rfl) (fun _ _ _ h => h) (Or.inr ⟨by rfl, rfl⟩) (by assumption) ?_
    (try simp only [Act.put])
    refine wpAnyH_take (i := 10) (v := undef) rfl (by kernel_rfl) (by kernel_rfl) (by kernel_rfl) (fun _ _ _ h => h) (Or.inr ⟨by rfl, rfl⟩) (by assumption) ?_
    (try simp only [Act.put])
    refine wpAnyH_ready (rs := [11]) (by kernel_rfl) (by simp) ?_
    refine AllReadyH.cons (o := _) rfl (fun K' hK => ?_) AllReadyH.nil
    go_simp
    refine hK.out _ _ ?_ (fun hHeld => ?_)
    · (have kk := box3_cells X.out K.out; exact kk)
    clear hK K'
    (try simp only [Act.put])
    refine wpAnyH_ready (rs := [12]) (by kernel_rfl) (by simp) ?_
    refine AllReadyH.cons (o := _) rfl (fun K' hK => ?_) AllReadyH.nil
    go_simp
    refine hK.out _ _ ?_ (fun hHeld => ?_)
    · (have kk := box3_cells X.out K.out; exact kk)
    clear hK K'
    (try simp only [Act.put])
    refine wpAnyH_take (i := 13) (v := ?_) rfl (by kernel_rfl) (by kernel_rfl) (by kernel_rfl) (fun _ _ _ h => h) (Or.inl ⟨by rfl, ?_⟩) (by assumption) ?_
    rotate_left 1
    · (intro w hSw; (try dsimp only at hSw); go_simp) <;> (with_reducible rfl)
    (try simp only [Act.put])
    refine wpAnyH_take (i := 14) (v := ?_) rfl (by kernel_rfl) (by kernel_rfl) (by kernel_rfl) (fun _ _ _ h => h) (Or.inl ⟨by rfl, ?_⟩) (by assumption) ?_
    rotate_left 1
    · (intro w hSw; (try dsimp only at hSw); go_simp) <;> (with_reducible rfl)
    (try simp only [Act.put])
    refine wpAnyH_done (by kernel_rfl) ?_ _
    refine NoPanic.normal ?_
    all_goals
      go_wp2
      go_ret
      exact ⟨ret_int E.out.symm, btrans K0.out (by first | exact K.out | exact below_drewN K.out _)⟩
  rw [ht] at T1
  by_cases hf : e.2.1 = fp e.2.2 e.2.1
  · have hd : (e.2.1 != fp e.2.2 e.2.1) = false := by rw [← hf]; simp
    have E1 : entE e L = if L.any (fun o => ovl o e) = true then 7 else 0 := by
      have : oneE e = 0 := by unfold oneE; rw [hsp, ht, ← hf]; simp
      unfold entE; rw [if_neg (by simpa using this)]
    have CT := hide (fun (W : World) (hb : Below (w.alloc (.cells #[.int .i64 e.1, .int .i64 e.2.1, .int .u64 e.2.2] 47)).heap.size (w.alloc (.cells #[.int .i64 e.1, .int .i64 e.2.1, .int .u64 e.2.2] 47)) W) => contains_any 54 #[.pointer (some ⟨w.heap.size, 0, none⟩)] (fun o => ovl o e) A L c _ W enters54 P54.out hb (R0.out.below hb) hn)
    generalize fp e.2.2 e.2.1 = y at *
    cases ha : L.any (fun o => ovl o e)
    · rw [ha] at E1 CT
      have E := hide (show entE e L = 0 by rw [E1]; rfl)
      obtain ⟨a0, a1, a2⟩ := e
      simp only at *
      clear hr hW hL hs hpg R0 ht hsp hp P54 E1 ha hf
      go_enter Try.func31, Try.ntmps31
      go_wp2_with (first | (go_at_call 50; refine (S1.out _).mono ?_; rintro e w' ⟨rfl, rfl⟩) | (go_at_call 52; refine (S2.out _).mono ?_; rintro e w' ⟨rfl, rfl⟩))
      obtain ⟨x0, x1, x2⟩ := box3_cells X.out (brefl _)
      have K := hide (brefl (w.alloc (.cells #[.int .i64 a0, .int .i64 a1, .int .u64 a2] 47)))
      go_region_held3 (fun w' => w'.cell? ⟨w.heap.size, 0, none⟩ = some (.int .i64 a0) ∧ w'.cell? ⟨w.heap.size, 1, none⟩ = some (.int .i64 a1) ∧ w'.cell? ⟨w.heap.size, 2, none⟩ = some (.int .u64 a2))
        ((have kk := box3_cells X.out K.out; exact kk))
        (first | (go_at_call 39; refine (T1.out _).mono ?_; rintro e wk ⟨rfl, hbk⟩; replace K := hide (by first | exact btrans K.out hbk | exact btrans (below_drewN K.out _) hbk); clear hbk) | (go_at_call 40; refine (T2.out _).mono ?_; rintro e wk ⟨rfl, hbk⟩; replace K := hide (by first | exact btrans K.out hbk | exact btrans (below_drewN K.out _) hbk); clear hbk))
      all_goals
        replace K := hide (by first | exact K.out | exact below_drewN K.out _)
        go_wp2_with fail
        refine (CT.out _ K.out).mono ?_
        rintro e w5 ⟨rfl, hb5⟩
        replace K := hide (btrans K.out hb5)
        clear hb5
        go_wp2
        go_ret
        exact ⟨ret_int E.out.symm, btrans K0.out K.out⟩
    · rw [ha] at E1 CT
      have E := hide (show entE e L = 7 by rw [E1]; rfl)
      obtain ⟨a0, a1, a2⟩ := e
      simp only at *
      clear hr hW hL hs hpg R0 ht hsp hp P54 E1 ha hf
      go_enter Try.func31, Try.ntmps31
      go_wp2_with (first | (go_at_call 50; refine (S1.out _).mono ?_; rintro e w' ⟨rfl, rfl⟩) | (go_at_call 52; refine (S2.out _).mono ?_; rintro e w' ⟨rfl, rfl⟩))
      obtain ⟨x0, x1, x2⟩ := box3_cells X.out (brefl _)
      have K := hide (brefl (w.alloc (.cells #[.int .i64 a0, .int .i64 a1, .int .u64 a2] 47)))
      go_region_held3 (fun w' => w'.cell? ⟨w.heap.size, 0, none⟩ = some (.int .i64 a0) ∧ w'.cell? ⟨w.heap.size, 1, none⟩ = some (.int .i64 a1) ∧ w'.cell? ⟨w.heap.size, 2, none⟩ = some (.int .u64 a2))
        ((have kk := box3_cells X.out K.out; exact kk))
        (first | (go_at_call 39; refine (T1.out _).mono ?_; rintro e wk ⟨rfl, hbk⟩; replace K := hide (by first | exact btrans K.out hbk | exact btrans (below_drewN K.out _) hbk); clear hbk) | (go_at_call 40; refine (T2.out _).mono ?_; rintro e wk ⟨rfl, hbk⟩; replace K := hide (by first | exact btrans K.out hbk | exact btrans (below_drewN K.out _) hbk); clear hbk))
      all_goals
        replace K := hide (by first | exact K.out | exact below_drewN K.out _)
        go_wp2_with fail
        refine (CT.out _ K.out).mono ?_
        rintro e w5 ⟨rfl, hb5⟩
        replace K := hide (btrans K.out hb5)
        clear hb5
        go_wp2
        go_ret
        exact ⟨ret_int E.out.symm, btrans K0.out K.out⟩
  · have hd : (e.2.1 != fp e.2.2 e.2.1) = true := by simpa using hf
    have E := hide (show entE e L = 3 by
      have h2 : (e.2.1 == fp e.2.2 e.2.1) = false := by simpa using hf
      have : oneE e = 3 := by unfold oneE; rw [hsp, ht, h2]; rfl
      unfold entE; rw [this]; rfl)
    generalize fp e.2.2 e.2.1 = y at *
    obtain ⟨a0, a1, a2⟩ := e
    simp only at *
    clear hr hW hL hs hpg R0 ht hsp hp P54 hf
    go_enter Try.func31, Try.ntmps31
    go_wp2_with (first | (go_at_call 50; refine (S1.out _).mono ?_; rintro e w' ⟨rfl, rfl⟩) | (go_at_call 52; refine (S2.out _).mono ?_; rintro e w' ⟨rfl, rfl⟩))
    obtain ⟨x0, x1, x2⟩ := box3_cells X.out (brefl _)
    have K := hide (brefl (w.alloc (.cells #[.int .i64 a0, .int .i64 a1, .int .u64 a2] 47)))
    go_region_held3 (fun w' => w'.cell? ⟨w.heap.size, 0, none⟩ = some (.int .i64 a0) ∧ w'.cell? ⟨w.heap.size, 1, none⟩ = some (.int .i64 a1) ∧ w'.cell? ⟨w.heap.size, 2, none⟩ = some (.int .u64 a2))
      ((have kk := box3_cells X.out K.out; exact kk))
      (first | (go_at_call 39; refine (T1.out _).mono ?_; rintro e wk ⟨rfl, hbk⟩; replace K := hide (by first | exact btrans K.out hbk | exact btrans (below_drewN K.out _) hbk); clear hbk) | (go_at_call 40; refine (T2.out _).mono ?_; rintro e wk ⟨rfl, hbk⟩; replace K := hide (by first | exact btrans K.out hbk | exact btrans (below_drewN K.out _) hbk); clear hbk))
    all_goals
      go_wp2
      go_ret
      exact ⟨ret_int E.out.symm, btrans K0.out (by first | exact K.out | exact below_drewN K.out _)⟩
end Go.Proofs.Ythoeolaleeogbaa.Tb
