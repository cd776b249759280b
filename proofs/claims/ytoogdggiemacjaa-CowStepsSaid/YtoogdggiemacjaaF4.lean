import Derived.Test.YtoogdggiemacjaaF3
namespace Go.Proofs.Ytoogdggiemacjaa.Cw
open Go Go.RowKit
set_option linter.unusedVariables false
set_option linter.unusedSimpArgs false
set_option maxRecDepth 100000 in
set_option maxHeartbeats 16000000 in
theorem shared_any (M : Cow) (As Af : Option Addr) (cs cf : Nat) (w : World) (h : CwIn w M As cs Af cf) (hz : szG M) (hf : fmG M) : Calls Try.prog 45 #[.agg (cwA M As cs Af cf)] w fun e w' => e = .returned (.bool (!decide (acG M))) ∧ Below w.heap.size w w' := by
  have K := hide (bal (brefl w) (.cells (cwA M As cs Af cf) 28))
  have X := hide (Box.new w 28 (cwA M As cs Af cf))
  have RS := hide h.rs
  have RF := hide h.rf
  have hn : M.fr.length ≤ 256 := hz.2.2.1.2
  have hs8 : M.sp.length ≤ 8 := hz.2.1.2
  have LP := hide (show ∀ k, k < M.sp.length → (sAt M.sp k).2.length ≤ 512 from fun k hk => by
    have h1 := (hf _ (sAt_mem hk)).1
    unfold lnG at h1
    have h2 := hz.1.2
    split at h1
    · omega
    · omega)
  have HF := hide (show ∀ k, k < M.sp.length → ∀ j, j < (sAt M.sp k).2.length → pgG M.fr.length (pAt (sAt M.sp k).2 j) from fun k hk j hj => (hf _ (sAt_mem hk)).2 _ (pAt_mem hj))
  have NB := hide (show ∀ k, k < M.sp.length → ∀ j, j < (sAt M.sp k).2.length → ¬ wrG M.fr (pAt (sAt M.sp k).2 j) → (!decide (acG M)) = true from fun k hk j hj hg => by
    rw [decide_eq_false (fun q => hg (q _ (sAt_mem hk) _ (pAt_mem hj)))]; rfl)
  clear h hz hf
  unfold cwA at K X ⊢
  go_enter Try.func45, Try.ntmps45
  go_upto_region 1 with fail
  obtain ⟨g, hg⟩ : ∃ g, g = w.heap.size := ⟨_, rfl⟩
  rw [← hg] at X ⊢
  clear hg
  obtain ⟨w1, hw1⟩ : ∃ w1, w1 = w.alloc (.cells #[.int .i64 M.sz, .slice As M.sp.length cs, .slice Af M.fr.length cf, .int .i64 M.cp] 28) := ⟨_, rfl⟩
  rw [← hw1] at X K ⊢
  clear hw1
  obtain ⟨x0, x1, x2, x3⟩ := box4 X.out
  go_wp2
  clear x0 x1 x2 x3
  go_loopw [10] (fun i wr => ∃ k : Nat, k ≤ M.sp.length ∧ i = .int .i64 k ∧ Hid (∀ s ∈ M.sp.take k, ∀ p ∈ s.2, wrG M.fr p) ∧ Hid (Below w.heap.size w wr) ∧ Hid (Box wr g 28 #[.int .i64 M.sz, .slice As M.sp.length cs, .slice Af M.fr.length cf, .int .i64 M.cp])) (fun i _ => M.sp.length - (intOf i).toNat)
  case atStart => exact ⟨0, Nat.zero_le _, rfl, hide (fun s hs => by simp at hs), K, X⟩
  case round =>
    clear K X
    obtain ⟨k, hk, rfl, N, K, X⟩ := hrel
    by_cases hlt : k < M.sp.length
    · have hl2 : (k : Int) < (M.sp.length : Int) := by omega
      have hk0 : (0 : Int) ≤ (k : Int) := by omega
      obtain ⟨b, o, v, rfl, hb, y0, y1, Ap, cp, rfl, hcp, hP⟩ := RS.out.cells K.out hlt
      have HP := hide hP
      have hlp := LP.out k hlt
      have HFk := hide (HF.out k hlt)
      have NBk := hide (NB.out k hlt)
      have NX := hide (fun hg => all_take (d := (false, [])) hlt N.out (show ∀ p ∈ (sAt M.sp k).2, wrG M.fr p from hg))
      obtain ⟨lv, hlv⟩ : ∃ lv, lv = (sAt M.sp k).1 := ⟨_, rfl⟩
      obtain ⟨pgs, hpg⟩ : ∃ pgs, pgs = (sAt M.sp k).2 := ⟨_, rfl⟩
      rw [← hlv] at y0
      rw [← hpg] at y1 HP hlp HFk NBk NX
      clear hP hlv hpg hcp N
      have M1 := bal (brefl wr) (.cells #[.bool lv, .slice Ap pgs.length cp] 62)
      have Y := hide (Box.new wr 62 #[.bool lv, .slice Ap pgs.length cp])
      replace HP := hide (HP.out.below M1)
      replace X := hide (X.out.below M1)
      replace K := hide (btrans K.out M1)
      clear M1
      go_upto_region 4 with fail
      obtain ⟨g4, hg4⟩ : ∃ g, g = wr.heap.size := ⟨_, rfl⟩
      rw [← hg4] at Y ⊢
      clear hg4 y0 y1
      generalize wr.alloc (.cells #[.bool lv, .slice Ap pgs.length cp] 62) = w3 at *
      obtain ⟨y0, y1⟩ := box2 Y.out
      go_wp2
      clear y0 y1 Y
      go_loopw [17] (fun i wq => ∃ j : Nat, j ≤ pgs.length ∧ i = .int .i64 j ∧ Hid (∀ p ∈ pgs.take j, wrG M.fr p) ∧ Hid (Below w.heap.size w wq) ∧ Hid (Box wq g 28 #[.int .i64 M.sz, .slice (some ⟨b, o, none⟩) M.sp.length cs, .slice Af M.fr.length cf, .int .i64 M.cp]) ∧ Hid (RdP wq Ap pgs)) (fun i _ => pgs.length - (intOf i).toNat)
      case atStart => exact ⟨0, Nat.zero_le _, rfl, hide (fun p hp => by simp at hp), K, X, HP⟩
      case round =>
        clear K X HP
        obtain ⟨j, hj, rfl, N, K, X, HP⟩ := hrel
        by_cases hjl : j < pgs.length
        · have hl3 : (j : Int) < (pgs.length : Int) := by omega
          have hj0 : (0 : Int) ≤ (j : Int) := by omega
          obtain ⟨b2, o2, rfl, hb2, z0, z1⟩ := HP.out.cells (brefl _) hjl
          have PG := hide (HFk.out j hjl)
          have PB := hide (NBk.out j hjl)
          have NG := hide (fun hg => all_take (d := (0, false)) hjl N.out (show wrG M.fr (pAt pgs j) from hg))
          rcases hpt : pAt pgs j with ⟨f, wv⟩
          rw [hpt] at z0 z1 PG PB NG
          simp only at z0 z1
          clear hpt N
          have M2 := bal (brefl wr) (.cells #[.int .i64 f, .bool wv] 64)
          have Z := hide (Box.new wr 64 #[.int .i64 f, .bool wv])
          replace X := hide (X.out.below M2)
          replace HP := hide (HP.out.below M2)
          replace K := hide (btrans K.out M2)
          clear M2
          go_upto_region 7 with fail
          obtain ⟨g7, hg7⟩ : ∃ g, g = wr.heap.size := ⟨_, rfl⟩
          rw [← hg7] at Z ⊢
          clear hg7 z0 z1
          generalize wr.alloc (.cells #[.int .i64 f, .bool wv] 64) = w5 at *
          obtain ⟨z0, z1⟩ := box2 Z.out
          obtain ⟨x0, x1, x2, x3⟩ := box4 X.out
          cases wv
          · have G := hide (NG.out (fun h => by cases h))
            go_wp2
            go_roundw
            case rel => first | exact ⟨j + 1, by omega, by go_num, G, K, X, HP⟩ | ((repeat apply Exists.intro); exact ⟨⟨j + 1, by omega, by go_num, G, K, X, HP⟩, rfl⟩)
            case measure => simp [intOf]; omega
          · have hf0 : 0 ≤ f ∧ f < (M.fr.length : Int) := by
              rcases PG.out with h | h
              · injection h with _ h; cases h
              · exact h
            obtain ⟨n, rfl⟩ := Int.eq_ofNat_of_zero_le hf0.1
            have hnn : n < M.fr.length := by omega
            have hn0 : (0 : Int) ≤ (n : Int) := by omega
            have hn1 : (n : Int) < (M.fr.length : Int) := by omega
            obtain ⟨bf, of, rfl, hbf, f0, f1⟩ := RF.out.cells K.out hnn
            have WG := hide (show wrG M.fr ((n : Int), true) ↔ (fAt M.fr n).1 = 1 from ⟨fun h => h rfl, fun h _ => h⟩)
            rcases hft : fAt M.fr n with ⟨cnt, wd⟩
            rw [hft] at f0 f1 WG
            simp only at f0 f1 WG
            clear hft
            by_cases h1 : cnt = 1
            · subst h1
              have G := hide (NG.out (WG.out.2 rfl))
              go_wp2
              go_roundw
              case rel => first | exact ⟨j + 1, by omega, by go_num, G, K, X, HP⟩ | ((repeat apply Exists.intro); exact ⟨⟨j + 1, by omega, by go_num, G, K, X, HP⟩, rfl⟩)
              case measure => simp [intOf]; omega
            · have E := hide (PB.out (fun h => h1 (WG.out.1 h)))
              go_wp2
              go_ret
              exact ⟨ret_bool E.out.symm, K.out⟩
        · obtain rfl : j = pgs.length := by omega
          have E := hide (NX.out (by have := N.out; rwa [List.take_length] at this))
          go_wp2
          go_roundw
          case rel => first | exact ⟨k + 1, by omega, by go_num, E, K, X⟩ | ((repeat apply Exists.intro); exact ⟨⟨k + 1, by omega, by go_num, E, K, X⟩, rfl⟩)
          case measure => simp [intOf]; omega
    · obtain rfl : k = M.sp.length := by omega
      have E := hide (show (!decide (acG M)) = false by
        rw [decide_eq_true (show acG M from by have := N.out; rwa [List.take_length] at this)]; rfl)
      go_wp2
      go_ret
      exact ⟨ret_bool E.out.symm, K.out⟩
set_option maxRecDepth 100000 in
set_option maxHeartbeats 8000000 in
theorem check_any (M : Cow) (As Af : Option Addr) (cs cf : Nat) (w : World) (h : CwIn w M As cs Af cf) (hB : Big M) : Calls Try.prog 20 #[.agg (cwA M As cs Af cf)] w fun e w' => e = .returned (.int .i64 (chE M)) ∧ Below w.heap.size w w' := by
  have K := hide (bal (brefl w) (.cells (cwA M As cs Af cf) 28))
  have X := hide (Box.new w 28 (cwA M As cs Af cf))
  have W0 := hide h
  have C1 := hide (fun w => sizes_any M As Af cs cf w hB)
  have C2 := hide (fun w h => formed_any M As Af cs cf w h hB)
  have C3 := hide (fun w h hz hf => counted_any M As Af cs cf w h hz hf)
  have C4 := hide (fun w h hz hf => shared_any M As Af cs cf w h hz hf)
  clear h hB
  unfold cwA at K X C1 C2 C3 C4 ⊢
  go_enter Try.func20, Try.ntmps20
  go_upto_region 1 with fail
  obtain ⟨g, hg⟩ : ∃ g, g = w.heap.size := ⟨_, rfl⟩
  rw [← hg] at X ⊢
  clear hg
  obtain ⟨w1, hw1⟩ : ∃ w1, w1 = w.alloc (.cells #[.int .i64 M.sz, .slice As M.sp.length cs, .slice Af M.fr.length cf, .int .i64 M.cp] 28) := ⟨_, rfl⟩
  rw [← hw1] at X K ⊢
  clear hw1
  obtain ⟨x0, x1, x2, x3⟩ := box4 X.out
  go_wp2_with fail
  refine (C1.out _).mono ?_
  rintro e w2 ⟨rfl, hb⟩
  replace X := hide (X.out.below hb)
  replace K := hide (btrans K.out hb)
  clear hb x0 x1 x2 x3 C1
  by_cases h1 : szG M
  · rw [decide_eq_true h1]
    obtain ⟨x0, x1, x2, x3⟩ := box4 X.out
    have W1 := hide (W0.out.below K.out)
    go_wp2_with fail
    refine (C2.out _ W1.out).mono ?_
    rintro e w3 ⟨rfl, hb⟩
    replace X := hide (X.out.below hb)
    replace K := hide (btrans K.out hb)
    clear hb x0 x1 x2 x3 C2 W1
    by_cases h2 : fmG M
    · rw [decide_eq_true h2]
      obtain ⟨x0, x1, x2, x3⟩ := box4 X.out
      have W1 := hide (W0.out.below K.out)
      go_wp2_with fail
      refine (C3.out _ W1.out h1 h2).mono ?_
      rintro e w4 ⟨rfl, hb⟩
      replace X := hide (X.out.below hb)
      replace K := hide (btrans K.out hb)
      clear hb x0 x1 x2 x3 C3 W1
      by_cases h3 : stG M
      · rw [decide_eq_true h3]
        obtain ⟨x0, x1, x2, x3⟩ := box4 X.out
        have W1 := hide (W0.out.below K.out)
        go_wp2_with fail
        refine (C4.out _ W1.out h1 h2).mono ?_
        rintro e w5 ⟨rfl, hb⟩
        replace X := hide (X.out.below hb)
        replace K := hide (btrans K.out hb)
        clear hb x0 x1 x2 x3 C4 W1
        by_cases h4 : acG M
        · rw [decide_eq_true h4]
          have E := hide (chE_of ⟨h1, h2, h3, h4⟩)
          clear h1 h2 h3 h4
          go_wp2
          go_ret
          exact ⟨ret_int E.out.symm, K.out⟩
        · rw [decide_eq_false h4]
          have E := hide (show chE M = 12 by unfold chE; rw [if_neg (fun g => g h1), if_neg (fun g => g h2), if_neg (fun g => g h3), if_pos h4])
          clear h1 h2 h3 h4
          go_wp2
          go_ret
          exact ⟨ret_int E.out.symm, K.out⟩
      · rw [decide_eq_false h3]
        have E := hide (show chE M = 11 by unfold chE; rw [if_neg (fun g => g h1), if_neg (fun g => g h2), if_pos h3])
        clear h1 h2 h3
        go_wp2
        go_ret
        exact ⟨ret_int E.out.symm, K.out⟩
    · rw [decide_eq_false h2]
      have E := hide (show chE M = 3 by unfold chE; rw [if_neg (fun g => g h1), if_pos h2])
      clear h1 h2
      go_wp2
      go_ret
      exact ⟨ret_int E.out.symm, K.out⟩
  · rw [decide_eq_false h1]
    have E := hide (show chE M = 2 by unfold chE; rw [if_pos h1])
    clear h1
    go_wp2
    go_ret
    exact ⟨ret_int E.out.symm, K.out⟩
end Go.Proofs.Ytoogdggiemacjaa.Cw
