import Derived.Test.YthoeolaleeogbaaFill
namespace Go.Proofs.Ythoeolaleeogbaa.Tb
open Go Go.RowKit Go.Proofs.Ythoeolaleeogbaa.Pt
set_option linter.unusedVariables false
theorem isTr_bad {W : Int} (h : good W = false) : isTr W = false ∧ hg W = false := by unfold isTr hg; rw [h]; exact ⟨rfl, rfl⟩
theorem isTr_not {W : Int} (h : isTr W = false) : hg W = false := by
  cases c : hg W
  · rfl
  · rw [hg_tr c] at h; cases h
theorem rtr_any (W : Int) (w : World) (hW : inW W) :
    Calls Try.prog 47 #[.int .u64 W] w fun e w' => e = .returned (.tuple #[.bool (isTr W), .bool (hg W)]) ∧ Below w.heap.size w w' := by
  cases hG : good W
  · obtain ⟨h1, h2⟩ := isTr_bad hG
    rw [h1, h2]
    have D := hide (fun w => rdec_bad W w hW.1 hW.2 hG)
    clear hG hW h1 h2
    go_enter Try.func47, Try.ntmps47
    go_wp2_with fail
    refine (D.out _).mono ?_
    rintro e w1 ⟨rfl, hb1⟩
    have K := hide hb1
    clear hb1
    go_wp2
    go_ret2
    exact ⟨rfl, bal K.out _⟩
  · have D := hide (fun w => rdec_good W w hW.1 hW.2 hG)
    rw [hg_good hG]
    by_cases hk : uk W = 1
    · have h1 : isTr W = true := by unfold isTr; rw [hG, hk]; rfl
      rw [h1]
      have hd : (uk W != 1) = false := by simp [hk]
      generalize uk W = k at *
      clear hG hW h1 hk
      go_enter Try.func47, Try.ntmps47
      go_wp2_with fail
      refine (D.out _).mono ?_
      rintro e w1 ⟨rfl, hb1⟩
      have K := hide hb1
      clear hb1
      go_wp2
      go_quiet (fail)
      go_wp2
      go_ret2
      exact ⟨rfl, below_drewN (bal K.out _) _⟩
    · have h1 : isTr W = false := by unfold isTr; rw [hG]; simpa using hk
      have h2 : f6 W = false := by rw [← hg_good hG]; exact isTr_not h1
      rw [h1, h2]
      have hd : (uk W != 1) = true := by simpa using hk
      generalize uk W = k at *
      clear hG hW h1 hk h2
      go_enter Try.func47, Try.ntmps47
      go_wp2_with fail
      refine (D.out _).mono ?_
      rintro e w1 ⟨rfl, hb1⟩
      have K := hide hb1
      clear hb1
      go_wp2
      go_ret2
      exact ⟨rfl, bal K.out _⟩
theorem group_any (p : Int) (w : World) (h0 : 0 ≤ p) (h1 : p ≤ 9223372036854775807) : Calls Try.prog 48 #[.int .i64 p] w fun e w' => e = .returned (.int .i64 (p - p % 8)) ∧ w = w' := by
  go_enter Try.func48, Try.ntmps48
  go_wp2
  go_ret
  exact ⟨rfl, rfl⟩
set_option maxHeartbeats 1000000 in
theorem hits_raw (a q W s p : Int) (w : World) (hq : 0 ≤ q) (hp : inP p) (hW : inW W) :
    Calls Try.prog 37 #[.agg #[.int .i64 a, .int .i64 q, .int .u64 W], .int .i64 s, .int .i64 p] w fun e w' => e = .returned (.bool ((a == s) && (q == fp W p))) ∧ Below w.heap.size w w' := by
  have T := hide (fun w => rtr_any W w hW)
  have X := hide (Box.new w 47 #[.int .i64 a, .int .i64 q, .int .u64 W])
  have K0 := hide (bal (brefl w) (.cells #[.int .i64 a, .int .i64 q, .int .u64 W] 47))
  by_cases h : a = s
  · have hd : (a != s) = false := by simpa using h
    have hd2 : (a == s) = true := by simpa using h
    rw [hd2]
    cases hh : hg W
    · have hf : fp W p = p := by unfold fp; rw [hh]; rfl
      rw [hf]
      rw [hh] at T
      clear h hf hh hp hW hq
      generalize isTr W = t at *
      go_enter Try.func37, Try.ntmps37
      go_wp2_with fail
      refine (T.out _).mono ?_
      rintro e w1 ⟨rfl, hb1⟩
      have K := hide (btrans K0.out hb1)
      obtain ⟨x0, x1, x2⟩ := box3_cells X.out hb1
      clear hb1
      go_wp2
      go_ret
      exact ⟨ret_bool (by simp), K.out⟩
    · have hf : fp W p = p - p % 8 := by unfold fp; rw [hh]; rfl
      rw [hf]
      rw [hh] at T
      unfold inP at hp
      rcases Int.lt_or_le p 0 with c | c
      · have hn : (q == p - p % 8) = false := by rw [beq_eq_false_iff_ne]; omega
        rw [hn]
        have hg0 : decide (0 ≤ p) = false := decide_eq_false (by omega)
        clear h hf hh hp hW hq c hn
        generalize isTr W = t at *
        go_enter Try.func37, Try.ntmps37
        go_wp2_with fail
        refine (T.out _).mono ?_
        rintro e w1 ⟨rfl, hb1⟩
        have K := hide (btrans K0.out hb1)
        obtain ⟨x0, x1, x2⟩ := box3_cells X.out hb1
        clear hb1
        go_wp2
        go_quiet (fail)
        go_wp2
        go_ret
        exact ⟨ret_bool (by simp), below_drewN K.out _⟩
      · have G := hide (fun w => group_any p w c (by omega))
        have hg0 : decide (0 ≤ p) = true := decide_eq_true (by omega)
        generalize p - p % 8 = y at *
        clear h hf hh hp hW hq c
        generalize isTr W = t at *
        go_enter Try.func37, Try.ntmps37
        go_wp2_with fail
        refine (T.out _).mono ?_
        rintro e w1 ⟨rfl, hb1⟩
        have K := hide (btrans K0.out hb1)
        obtain ⟨x0, x1, x2⟩ := box3_cells X.out hb1
        clear hb1
        go_wp2
        go_quiet ((go_at_call 48; exact quiet_left (G.out _)))
        go_wp2
        go_ret
        exact ⟨ret_bool (by simp), below_drewN K.out _⟩
  · have hd : (a != s) = true := by simpa using h
    have hd2 : (a == s) = false := by simpa using h
    rw [hd2]
    clear h hp hW hq
    generalize isTr W = t at *
    generalize hg W = t2 at *
    go_enter Try.func37, Try.ntmps37
    go_wp2_with fail
    refine (T.out _).mono ?_
    rintro e w1 ⟨rfl, hb1⟩
    have K := hide (btrans K0.out hb1)
    obtain ⟨x0, x1, x2⟩ := box3_cells X.out hb1
    clear hb1
    go_wp2
    go_ret
    exact ⟨ret_bool (by simp), K.out⟩
theorem hits_any (e : Te) (s p : Int) (w : World) (hq : 0 ≤ e.2.1) (hp : inP p) (hW : inW e.2.2) :
    Calls Try.prog 37 #[tv e, .int .i64 s, .int .i64 p] w fun r w' => r = .returned (.bool (cov e s p)) ∧ Below w.heap.size w w' :=
  hits_raw e.1 e.2.1 e.2.2 s p w hq hp hW
set_option maxHeartbeats 1000000 in
theorem one_any (e : Te) (w : World) (hW : inW e.2.2) :
    Calls Try.prog 32 #[tv e] w fun r w' => r = .returned (.int .i64 (oneE e)) ∧ Below w.heap.size w w' := by
  have T := hide (fun w => rtr_any e.2.2 w hW)
  have X := hide (Box.new w 47 #[.int .i64 e.1, .int .i64 e.2.1, .int .u64 e.2.2])
  have K0 := hide (bal (brefl w) (.cells #[.int .i64 e.1, .int .i64 e.2.1, .int .u64 e.2.2] 47))
  have S1 := hide (fun w => rspace_any e.1 w)
  have S2 := hide (fun w => rpage_any e.2.1 w)
  unfold tv
  cases hs : spB e.1
  · have E := hide (show oneE e = 2 by unfold oneE; rw [okSP_eq, hs]; rfl)
    rw [hs] at S1
    obtain ⟨a0, a1, a2⟩ := e
    simp only at *
    clear hW hs T
    go_enter Try.func32, Try.ntmps32
    go_wp2_with (go_at_call 45; refine (S1.out _).mono ?_; rintro e w' ⟨rfl, rfl⟩)
    go_ret
    exact ⟨ret_int E.out.symm, K0.out⟩
  rw [hs] at S1
  cases hpg : pgB e.2.1
  · have E := hide (show oneE e = 2 by unfold oneE; rw [okSP_eq, hs, hpg]; rfl)
    rw [hpg] at S2
    obtain ⟨a0, a1, a2⟩ := e
    simp only at *
    clear hW hs hpg T
    go_enter Try.func32, Try.ntmps32
    go_wp2_with (first | (go_at_call 45; refine (S1.out _).mono ?_; rintro e w' ⟨rfl, rfl⟩) | (go_at_call 46; refine (S2.out _).mono ?_; rintro e w' ⟨rfl, rfl⟩))
    go_ret
    exact ⟨ret_int E.out.symm, K0.out⟩
  rw [hpg] at S2
  have hsp : okSP e.1 e.2.1 = true := by rw [okSP_eq, hs, hpg]; rfl
  have hp : 0 ≤ e.2.1 ∧ e.2.1 < 512 := by unfold pgB at hpg; simpa using hpg
  have EE : oneE e = if (isTr e.2.2 && (e.2.1 == fp e.2.2 e.2.1)) = false then 3 else 0 := by unfold oneE; rw [hsp, if_neg (by simp)]
  cases ht : isTr e.2.2
  · have E := hide (show oneE e = 3 by rw [EE, ht]; rfl)
    rw [ht] at T
    generalize hg e.2.2 = t2 at *
    obtain ⟨a0, a1, a2⟩ := e
    simp only at *
    clear hW hs hpg ht hsp hp EE
    go_enter Try.func32, Try.ntmps32
    go_wp2_with (first | (go_at_call 45; refine (S1.out _).mono ?_; rintro e w' ⟨rfl, rfl⟩) | (go_at_call 46; refine (S2.out _).mono ?_; rintro e w' ⟨rfl, rfl⟩))
    refine (T.out _).mono ?_
    rintro e w1 ⟨rfl, hb1⟩
    have K := hide (btrans K0.out hb1)
    obtain ⟨x0, x1, x2⟩ := box3_cells X.out hb1
    clear hb1
    go_wp2
    go_ret
    exact ⟨ret_int E.out.symm, K.out⟩
  rw [ht] at T
  cases hh : hg e.2.2
  · have E := hide (show oneE e = 0 by rw [EE, ht]; unfold fp; rw [hh]; simp)
    rw [hh] at T
    obtain ⟨a0, a1, a2⟩ := e
    simp only at *
    clear hW hs hpg ht hsp hp EE hh
    go_enter Try.func32, Try.ntmps32
    go_wp2_with (first | (go_at_call 45; refine (S1.out _).mono ?_; rintro e w' ⟨rfl, rfl⟩) | (go_at_call 46; refine (S2.out _).mono ?_; rintro e w' ⟨rfl, rfl⟩))
    refine (T.out _).mono ?_
    rintro e w1 ⟨rfl, hb1⟩
    have K := hide (btrans K0.out hb1)
    obtain ⟨x0, x1, x2⟩ := box3_cells X.out hb1
    clear hb1
    go_wp2
    go_ret
    exact ⟨ret_int E.out.symm, K.out⟩
  rw [hh] at T
  by_cases hm : e.2.1 % 8 = 0
  · have E := hide (show oneE e = 0 by rw [EE, ht]; unfold fp; rw [hh, if_pos rfl, hm]; simp)
    have hd : (e.2.1 % 8 != 0) = false := by simp [hm]
    have hp0 := hp.1
    have hp1 := hp.2
    obtain ⟨a0, a1, a2⟩ := e
    simp only at *
    clear hW hs hpg ht hsp hp EE hh hm
    go_enter Try.func32, Try.ntmps32
    go_wp2_with (first | (go_at_call 45; refine (S1.out _).mono ?_; rintro e w' ⟨rfl, rfl⟩) | (go_at_call 46; refine (S2.out _).mono ?_; rintro e w' ⟨rfl, rfl⟩))
    refine (T.out _).mono ?_
    rintro e w1 ⟨rfl, hb1⟩
    have K := hide (btrans K0.out hb1)
    obtain ⟨x0, x1, x2⟩ := box3_cells X.out hb1
    clear hb1
    go_wp2
    go_ret
    exact ⟨ret_int E.out.symm, K.out⟩
  · have E := hide (show oneE e = 3 by
      have : (e.2.1 == e.2.1 - e.2.1 % 8) = false := by rw [beq_eq_false_iff_ne]; omega
      rw [EE, ht]; unfold fp; rw [hh, if_pos rfl, this]; rfl)
    have hd : (e.2.1 % 8 != 0) = true := by simpa using hm
    have hp0 := hp.1
    have hp1 := hp.2
    obtain ⟨a0, a1, a2⟩ := e
    simp only at *
    clear hW hs hpg ht hsp hp EE hh hm
    go_enter Try.func32, Try.ntmps32
    go_wp2_with (first | (go_at_call 45; refine (S1.out _).mono ?_; rintro e w' ⟨rfl, rfl⟩) | (go_at_call 46; refine (S2.out _).mono ?_; rintro e w' ⟨rfl, rfl⟩))
    refine (T.out _).mono ?_
    rintro e w1 ⟨rfl, hb1⟩
    have K := hide (btrans K0.out hb1)
    obtain ⟨x0, x1, x2⟩ := box3_cells X.out hb1
    clear hb1
    go_wp2
    go_ret
    exact ⟨ret_int E.out.symm, K.out⟩
end Go.Proofs.Ythoeolaleeogbaa.Tb
