import Derived.Test.YtoogdggiemacjaaG2
namespace Go.Proofs.Ytoogdggiemacjaa.Cw
open Go Go.RowKit
set_option linter.unusedVariables false
set_option linter.unusedSimpArgs false
set_option maxRecDepth 100000 in
set_option maxHeartbeats 8000000 in
theorem rcheck_any (M : Cow) (As Af : Option Addr) (cs cf : Nat) (w : World) (h : CwIn w M As cs Af cf) (hB : Big M) : Calls Try.prog 19 #[.agg (cwA M As cs Af cf)] w fun e w' => e = .returned (.int .i64 (chE M)) ∧ Below w.heap.size w w' := by
  have HBG := hide hB
  have CF := hide (fun w' hb => rformed_any M As Af cs cf w' (h.below hb) hB)
  have ESZ := hide (fun (hz : ¬ szG M) => show chE M = 2 from if_pos hz)
  have EFM := hide (fun (hz : szG M) (hf : ¬ fmG M) => show chE M = 3 from (if_neg (fun g => g hz)).trans (if_pos hf))
  have EST := hide (fun (hz : szG M) (hf : fmG M) (hs : ¬ stG M) => show chE M = 11 from (if_neg (fun g => g hz)).trans ((if_neg (fun g => g hf)).trans (if_pos hs)))
  have EAC := hide (fun (hz : szG M) (hf : fmG M) (hs : stG M) (ha : ¬ acG M) => show chE M = 12 from (if_neg (fun g => g hz)).trans ((if_neg (fun g => g hf)).trans ((if_neg (fun g => g hs)).trans (if_pos ha))))
  have E0 := hide (fun (hz : szG M) (hf : fmG M) (hs : stG M) (ha : acG M) => show chE M = 0 from chE_of ⟨hz, hf, hs, ha⟩)
  have SZ := hide (show szG M ↔ (1 ≤ M.sz ∧ M.sz ≤ 512) ∧ (1 ≤ M.sp.length ∧ M.sp.length ≤ 8) ∧ (1 ≤ M.fr.length ∧ M.fr.length ≤ 256) ∧ 0 ≤ M.cp ∧ M.cp ≤ 1048576 from Iff.rfl)
  unfold cwA at CF
  generalize chE M = ce at *
  have K := hide (bal (brefl w) (.cells (cwA M As cs Af cf) 28))
  have X := hide (Box.new w 28 (cwA M As cs Af cf))
  have W0 := hide h
  have hs9 := hB.sp
  have hf9 := hB.fr
  have PL := hide hB.pg
  clear h hB
  unfold cwA at K X ⊢
  go_enter Try.func19, Try.ntmps19
  go_upto_region 1 with fail
  obtain ⟨g, hg⟩ : ∃ g, g = w.heap.size := ⟨_, rfl⟩
  rw [← hg] at X ⊢
  clear hg
  generalize w.alloc (.cells #[.int .i64 M.sz, .slice As M.sp.length cs, .slice Af M.fr.length cf, .int .i64 M.cp] 28) = w1 at *
  obtain ⟨x0, x1, x2, x3⟩ := box4 X.out
  by_cases a1 : M.sz < 1
  · have E := hide (ESZ.out (fun g => by have := SZ.out.1 g; omega))
    go_wp2
    go_ret
    exact ⟨ret_int E.out.symm, K.out⟩
  · by_cases a2 : 512 < M.sz
    · have E := hide (ESZ.out (fun g => by have := SZ.out.1 g; omega))
      go_wp2
      go_ret
      exact ⟨ret_int E.out.symm, K.out⟩
    · by_cases a3 : (M.sp.length : Int) < 1
      · have E := hide (ESZ.out (fun g => by have := SZ.out.1 g; omega))
        go_wp2
        go_ret
        exact ⟨ret_int E.out.symm, K.out⟩
      · by_cases a4 : 8 < (M.sp.length : Int)
        · have E := hide (ESZ.out (fun g => by have := SZ.out.1 g; omega))
          go_wp2
          go_ret
          exact ⟨ret_int E.out.symm, K.out⟩
        · by_cases a5 : (M.fr.length : Int) < 1
          · have E := hide (ESZ.out (fun g => by have := SZ.out.1 g; omega))
            go_wp2
            go_ret
            exact ⟨ret_int E.out.symm, K.out⟩
          · by_cases a6 : 256 < (M.fr.length : Int)
            · have E := hide (ESZ.out (fun g => by have := SZ.out.1 g; omega))
              go_wp2
              go_ret
              exact ⟨ret_int E.out.symm, K.out⟩
            · by_cases a7 : M.cp < 0
              · have E := hide (ESZ.out (fun g => by have := SZ.out.1 g; omega))
                go_wp2
                go_ret
                exact ⟨ret_int E.out.symm, K.out⟩
              · by_cases a8 : 1048576 < M.cp
                · have E := hide (ESZ.out (fun g => by have := SZ.out.1 g; omega))
                  go_wp2
                  go_ret
                  exact ⟨ret_int E.out.symm, K.out⟩
                · have hz := SZ.out.2 (by omega)
                  replace EFM := hide (EFM.out hz)
                  replace EST := hide (EST.out hz)
                  replace EAC := hide (EAC.out hz)
                  replace E0 := hide (E0.out hz)
                  have z1 : M.sz ≤ 512 := by omega
                  have z2 : 0 ≤ M.sz := by omega
                  have z3 : M.sp.length ≤ 8 := by omega
                  clear ESZ SZ hz
                  go_upto_region 3 with fail
                  clear a1 a2 a3 a4 a5 a6 a7 a8 x0 x1 x2 x3
                  obtain ⟨x0, x1, x2, x3⟩ := box4 X.out
                  go_wp2_with fail
                  refine (CF.out _ K.out).mono ?_
                  rintro e w2 ⟨rfl, hb⟩
                  replace X := hide (X.out.below hb)
                  replace K := hide (btrans K.out hb)
                  clear hb x0 x1 x2 x3 CF
                  by_cases hfm : fmG M
                  · rw [decide_eq_true hfm]
                    have LT := hide (show lT M.sp ≤ 1000000 by
                      have := lT_le (sz := M.sz.toNat) M.sp (fun t ht => by
                        have := (hfm t ht).1
                        unfold lnG at this
                        split at this <;> omega)
                      have h2 : M.sp.length * M.sz.toNat ≤ 8 * 512 := Nat.mul_le_mul (by omega) (by omega)
                      omega)
                    have FM := hide hfm
                    have CS := hide (fun f w' hb => shown_any M As Af cs cf f w' (W0.out.below hb) HBG.out LT.out)
                    unfold cwA at CS
                    have EZ := hide (fun (hs : stG M) (ha : acG M) => E0.out hfm hs ha)
                    have E11 := hide (fun k (hk : k < M.fr.length) (hb : ¬ frG M k) => EST.out hfm (fun g => hb (g k hk)))
                    have E12 := hide (fun (hs : stG M) (ha : ¬ acG M) => EAC.out hfm hs ha)
                    clear E0 EST EAC EFM hfm
                    go_wp2
                    go_loopw [3] (fun q wr => ∃ k : Nat, k ≤ M.fr.length ∧ q = .int .i64 k ∧ Hid (∀ m, m < k → frG M m) ∧ Hid (Box wr g 28 #[.int .i64 M.sz, .slice As M.sp.length cs, .slice Af M.fr.length cf, .int .i64 M.cp]) ∧ Hid (Below w.heap.size w wr)) (fun q _ => M.fr.length - (intOf q).toNat)
                    case atStart => exact ⟨0, Nat.zero_le _, rfl, hide (fun m hm => absurd hm (Nat.not_lt_zero _)), X, K⟩
                    case round =>
                      clear X K
                      obtain ⟨k, hk, rfl, FG, X, K⟩ := hrel
                      obtain ⟨x0, x1, x2, x3⟩ := box4 X.out
                      by_cases hlt : k < M.fr.length
                      · have hl2 : (k : Int) < (M.fr.length : Int) := by omega
                        have hk0 : (0 : Int) ≤ (k : Int) := by omega
                        obtain ⟨b, off, rfl, hbl, y0, y1⟩ := W0.out.rf.cells K.out hlt
                        have BD := hide (E11.out k hlt)
                        have NX := hide (fun (h : frG M k) m (hm : m < k + 1) => show frG M m from if e : m = k then e ▸ h else FG.out m (by omega))
                        have C := hide (fun w' (hb' : Below wr.heap.size wr w') => CS.out (k : Int) w' (btrans K.out hb'))
                        have YB := hide (fun (w' : World) (hb' : Below wr.heap.size wr w') j => hb'.cell (p := ⟨b, j, none⟩) (Nat.lt_of_lt_of_le hbl K.out.size))
                        have FD := hide (show frG M k ↔ (fAt M.fr k).1 = (cnS (k : Int) M.sp : Int) ∧ ((fAt M.fr k).1 = 0 → (fAt M.fr k).2 = 0) from Iff.rfl)
                        rcases hff : fAt M.fr k with ⟨cnt, wd⟩
                        rw [hff] at y0 y1 FD
                        dsimp only at y0 y1 FD
                        obtain ⟨cn, hcn⟩ : ∃ cn, cn = cnS (k : Int) M.sp := ⟨_, rfl⟩
                        rw [← hcn] at C FD
                        clear hff hcn FG
                        go_upto_region 8 with fail
                        generalize wr = w3 at *
                        have CE := hide (fun (w' : World) (hb : Below w3.heap.size w3 w') => (⟨(X.out.below hb).cell 0, (X.out.below hb).cell 1, (X.out.below hb).cell 2, (X.out.below hb).cell 3, (YB.out w' hb _).trans y0, (YB.out w' hb _).trans y1⟩ : w'.cell? ⟨g, 0, none⟩ = some (.int .i64 M.sz) ∧ w'.cell? ⟨g, 1, none⟩ = some (.slice As M.sp.length cs) ∧ w'.cell? ⟨g, 2, none⟩ = some (.slice (some ⟨b, off, none⟩) M.fr.length cf) ∧ w'.cell? ⟨g, 3, none⟩ = some (.int .i64 M.cp) ∧ w'.cell? ⟨b, off + k * 2, none⟩ = some (.int .i64 cnt) ∧ w'.cell? ⟨b, off + k * 2 + 1, none⟩ = some (.int .i64 wd)))
                        have KK := hide (below_drewN (brefl w3) 1)
                        clear x0 x1 x2 x3 y0 y1 YB
                        by_cases c1 : cnt = (cn : Int)
                        · have d1 : (cnt == (cn : Int)) = true := by simp [c1]
                          have d1n : (cnt != (cn : Int)) = false := by simp [c1]
                          by_cases c2' : cnt = 0
                          · have d2 : (cnt == 0) = true := by simp [c2']
                            by_cases c3 : wd = 0
                            · have d3 : (wd != 0) = false := by simp [c3]
                              have N1 := hide (NX.out (FD.out.2 ⟨c1, fun _ => c3⟩))
                              clear BD NX FD
                              replace c1 := hide c1
                              replace c2' := hide c2'
                              replace c3 := hide c3
                              refine wp_region_noPanic ?_
                              refine wp_region_held_drew (S := (fun w => w.cell? ⟨g, 0, none⟩ = some (.int .i64 M.sz) ∧ w.cell? ⟨g, 1, none⟩ = some (.slice As M.sp.length cs) ∧ w.cell? ⟨g, 2, none⟩ = some (.slice (some ⟨b, off, none⟩) M.fr.length cf) ∧ w.cell? ⟨g, 3, none⟩ = some (.int .i64 M.cp) ∧ w.cell? ⟨b, off + k * 2, none⟩ = some (.int .i64 cnt) ∧ w.cell? ⟨b, off + k * 2 + 1, none⟩ = some (.int .i64 wd))) (by kernel_rfl) ?_ (fun hHeld => ?_)
                              · exact CE.out _ (below_drewN (brefl w3) 1)
                              have KK := hide (below_drewN (brefl w3) 1)
                              change Hid (Below w3.heap.size w3 w3.drew) at KK
                              generalize w3.drew = w4 at *
                              refine wpAnyH_take (i := 0) (oi := ⟨some 59, _, _, _, _, _⟩) (v := ?_) rfl (by kernel_rfl) (by kernel_rfl) (by kernel_rfl) (fun _ _ _ h => h) (Or.inl ⟨by kernel_rfl, ?_⟩) (by assumption) ?_
                              rotate_left 1
                              · (intro w hSw; (try dsimp only at hSw); go_simp) <;> (with_reducible rfl)
                              (try simp only [Act.put, List.setIfInBounds_toArray, List.set_cons_succ, List.set_cons_zero])
                              refine wpAnyH_take (i := 1) (oi := ⟨some 60, _, _, _, _, _⟩) (v := ?_) rfl (by kernel_rfl) (by kernel_rfl) (by kernel_rfl) (fun _ _ _ h => h) (Or.inl ⟨by kernel_rfl, ?_⟩) (by assumption) ?_
                              rotate_left 1
                              · (intro w hSw; (try dsimp only at hSw); go_simp) <;> (with_reducible rfl)
                              (try simp only [Act.put, List.setIfInBounds_toArray, List.set_cons_succ, List.set_cons_zero])
                              refine wpAnyH_take (i := 2) (oi := ⟨some 61, _, _, _, _, _⟩) (v := ?_) rfl (by kernel_rfl) (by kernel_rfl) (by kernel_rfl) (fun _ _ _ h => h) (Or.inl ⟨by kernel_rfl, ?_⟩) (by assumption) ?_
                              rotate_left 1
                              · (intro w hSw; (try dsimp only at hSw); go_simp) <;> (with_reducible rfl)
                              (try simp only [Act.put, List.setIfInBounds_toArray, List.set_cons_succ, List.set_cons_zero])
                              refine wpAnyH_take (i := 3) (oi := ⟨some 62, _, _, _, _, _⟩) (v := ?_) rfl (by kernel_rfl) (by kernel_rfl) (by kernel_rfl) (fun _ _ _ h => h) (Or.inl ⟨by kernel_rfl, ?_⟩) (by assumption) ?_
                              rotate_left 1
                              · (intro w hSw; (try dsimp only at hSw); go_simp) <;> (with_reducible rfl)
                              (try simp only [Act.put, List.setIfInBounds_toArray, List.set_cons_succ, List.set_cons_zero])
                              refine wpAnyH_take (i := 4) (oi := ⟨some 63, _, _, _, _, _⟩) (v := ?_) rfl (by kernel_rfl) (by kernel_rfl) (by kernel_rfl) (fun _ _ _ h => h) (Or.inl ⟨by kernel_rfl, ?_⟩) (by assumption) ?_
                              rotate_left 1
                              · (intro w hSw; (try dsimp only at hSw); go_simp) <;> (with_reducible rfl)
                              (try simp only [Act.put, List.setIfInBounds_toArray, List.set_cons_succ, List.set_cons_zero])
                              refine wpAnyH_take (i := 5) (oi := ⟨some 64, _, _, _, _, _⟩) (v := ?_) rfl (by kernel_rfl) (by kernel_rfl) (by kernel_rfl) (fun _ _ _ h => h) (Or.inl ⟨by kernel_rfl, ?_⟩) (by assumption) ?_
                              rotate_left 1
                              · (intro w hSw; (try dsimp only at hSw); go_simp) <;> (with_reducible rfl)
                              (try simp only [Act.put, List.setIfInBounds_toArray, List.set_cons_succ, List.set_cons_zero])
                              refine wpAnyH_take (i := 6) (oi := ⟨some 65, _, _, _, _, _⟩) (v := ?_) rfl (by kernel_rfl) (by kernel_rfl) (by kernel_rfl) (fun _ _ _ h => h) (Or.inl ⟨by kernel_rfl, ?_⟩) (by assumption) ?_
                              rotate_left 1
                              · (intro w hSw; (try dsimp only at hSw); go_simp) <;> (with_reducible rfl)
                              (try simp only [Act.put, List.setIfInBounds_toArray, List.set_cons_succ, List.set_cons_zero])
                              refine wpAnyH_take (i := 7) (oi := ⟨some 66, _, _, _, _, _⟩) (v := ?_) rfl (by kernel_rfl) (by kernel_rfl) (by kernel_rfl) (fun _ _ _ h => h) (Or.inl ⟨by kernel_rfl, ?_⟩) (by assumption) ?_
                              rotate_left 1
                              · (intro w hSw; (try dsimp only at hSw); go_simp) <;> (with_reducible rfl)
                              (try simp only [Act.put, List.setIfInBounds_toArray, List.set_cons_succ, List.set_cons_zero])
                              refine wpAnyH_ready (rs := [8]) (by kernel_rfl) (by simp) ?_
                              refine AllReadyH.cons (o := ⟨some 67, _, _, _, _, _⟩) rfl (fun K' hK => ?_) AllReadyH.nil
                              go_simp
                              refine (C.out _ KK.out).mono ?_
                              rintro e wn ⟨rfl, hb⟩
                              replace KK := hide (btrans KK.out hb)
                              clear hb
                              refine hK.out _ _ ?_ (fun hHeld => ?_)
                              · exact CE.out _ KK.out
                              clear hK K'
                              (try simp only [Act.put, List.setIfInBounds_toArray, List.set_cons_succ, List.set_cons_zero])
                              refine wpAnyH_take (i := 9) (oi := ⟨some 68, _, _, _, _, _⟩) (v := ?_) rfl (by kernel_rfl) (by kernel_rfl) (by kernel_rfl) (fun _ _ _ h => h) (Or.inl ⟨by kernel_rfl, ?_⟩) (by assumption) ?_
                              rotate_left 1
                              · (intro w hSw; (try dsimp only at hSw); go_simp) <;> (with_reducible rfl)
                              (try simp only [Act.put, List.setIfInBounds_toArray, List.set_cons_succ, List.set_cons_zero])
                              refine wpAnyH_take (i := 10) (oi := ⟨some 69, _, _, _, _, _⟩) (v := ?_) rfl (by kernel_rfl) (by kernel_rfl) (by kernel_rfl) (fun _ _ _ h => h) (Or.inl ⟨by kernel_rfl, ?_⟩) (by assumption) ?_
                              rotate_left 1
                              · (intro w hSw; (try dsimp only at hSw); go_simp) <;> (with_reducible rfl)
                              (try simp only [Act.put, List.setIfInBounds_toArray, List.set_cons_succ, List.set_cons_zero])
                              refine wpAnyH_take (i := 11) (oi := ⟨some 70, _, _, _, _, _⟩) (v := ?_) rfl (by kernel_rfl) (by kernel_rfl) (by kernel_rfl) (fun _ _ _ h => h) (Or.inl ⟨by kernel_rfl, ?_⟩) (by assumption) ?_
                              rotate_left 1
                              · (intro w hSw; (try dsimp only at hSw); go_simp) <;> (with_reducible rfl)
                              (try simp only [Act.put, List.setIfInBounds_toArray, List.set_cons_succ, List.set_cons_zero])
                              refine wpAnyH_take (i := 12) (oi := ⟨some 71, _, _, _, _, _⟩) (v := ?_) rfl (by kernel_rfl) (by kernel_rfl) (by kernel_rfl) (fun _ _ _ h => h) (Or.inl ⟨by kernel_rfl, ?_⟩) (by assumption) ?_
                              rotate_left 1
                              · (intro w hSw; (try dsimp only at hSw); go_simp) <;> (with_reducible rfl)
                              (try simp only [Act.put, List.setIfInBounds_toArray, List.set_cons_succ, List.set_cons_zero])
                              refine wpAnyH_take (i := 13) (oi := ⟨some 72, _, _, _, _, _⟩) (v := ?_) rfl (by kernel_rfl) (by kernel_rfl) (by kernel_rfl) (fun _ _ _ h => h) (Or.inl ⟨by kernel_rfl, ?_⟩) (by assumption) ?_
                              rotate_left 1
                              · (intro w hSw; (try dsimp only at hSw); go_simp) <;> (with_reducible rfl)
                              (try simp only [Act.put, List.setIfInBounds_toArray, List.set_cons_succ, List.set_cons_zero])
                              refine wpAnyH_take (i := 14) (oi := ⟨some 73, _, _, _, _, _⟩) (v := ?_) rfl (by kernel_rfl) (by kernel_rfl) (by kernel_rfl) (fun _ _ _ h => h) (Or.inl ⟨by kernel_rfl, ?_⟩) (by assumption) ?_
                              rotate_left 1
                              · (intro w hSw; (try dsimp only at hSw); go_simp) <;> (with_reducible rfl)
                              (try simp only [Act.put, List.setIfInBounds_toArray, List.set_cons_succ, List.set_cons_zero])
                              refine wpAnyH_take (i := 15) (oi := ⟨some 74, _, _, _, _, _⟩) (v := ?_) rfl (by kernel_rfl) (by kernel_rfl) (by kernel_rfl) (fun _ _ _ h => h) (Or.inl ⟨by kernel_rfl, ?_⟩) (by assumption) ?_
                              rotate_left 1
                              · (intro w hSw; (try dsimp only at hSw); go_simp) <;> (with_reducible rfl)
                              (try simp only [Act.put, List.setIfInBounds_toArray, List.set_cons_succ, List.set_cons_zero])
                              refine wpAnyH_take (i := 16) (oi := ⟨some 75, _, _, _, _, _⟩) (v := ?_) rfl (by kernel_rfl) (by kernel_rfl) (by kernel_rfl) (fun _ _ _ h => h) (Or.inl ⟨by kernel_rfl, ?_⟩) (by assumption) ?_
                              rotate_left 1
                              · (intro w hSw; (try dsimp only at hSw); go_simp) <;> (with_reducible rfl)
                              (try simp only [Act.put, List.setIfInBounds_toArray, List.set_cons_succ, List.set_cons_zero])
                              refine wpAnyH_take (i := 17) (oi := ⟨some 76, _, _, _, _, _⟩) (v := ?_) rfl (by kernel_rfl) (by kernel_rfl) (by kernel_rfl) (fun _ _ _ h => h) (Or.inl ⟨by kernel_rfl, ?_⟩) (by assumption) ?_
                              rotate_left 1
                              · (intro w hSw; (try dsimp only at hSw); go_simp) <;> (with_reducible rfl)
                              (try simp only [Act.put, List.setIfInBounds_toArray, List.set_cons_succ, List.set_cons_zero])
                              refine wpAnyH_take (i := 18) (oi := ⟨some 77, _, _, _, _, _⟩) (v := ?_) rfl (by kernel_rfl) (by kernel_rfl) (by kernel_rfl) (fun _ _ _ h => h) (Or.inl ⟨by kernel_rfl, ?_⟩) (by assumption) ?_
                              rotate_left 1
                              · (intro w hSw; (try dsimp only at hSw); go_simp) <;> (with_reducible rfl)
                              (try simp only [Act.put, List.setIfInBounds_toArray, List.set_cons_succ, List.set_cons_zero])
                              refine wpAnyH_take (i := 19) (oi := ⟨some 78, _, _, _, _, _⟩) (v := ?_) rfl (by kernel_rfl) (by kernel_rfl) (by kernel_rfl) (fun _ _ _ h => h) (Or.inl ⟨by kernel_rfl, ?_⟩) (by assumption) ?_
                              rotate_left 1
                              · (intro w hSw; (try dsimp only at hSw); go_simp) <;> (with_reducible rfl)
                              (try simp only [Act.put, List.setIfInBounds_toArray, List.set_cons_succ, List.set_cons_zero])
                              refine wpAnyH_take (i := 20) (oi := ⟨some 79, _, _, _, _, _⟩) (v := ?_) rfl (by kernel_rfl) (by kernel_rfl) (by kernel_rfl) (fun _ _ _ h => h) (Or.inl ⟨by kernel_rfl, ?_⟩) (by assumption) ?_
                              rotate_left 1
                              · (intro w hSw; (try dsimp only at hSw); go_simp) <;> (with_reducible rfl)
                              (try simp only [Act.put, List.setIfInBounds_toArray, List.set_cons_succ, List.set_cons_zero])
                              refine wpAnyH_take (i := 21) (oi := ⟨some 80, _, _, _, _, _⟩) (v := ?_) rfl (by kernel_rfl) (by kernel_rfl) (by kernel_rfl) (fun _ _ _ h => h) (Or.inl ⟨by kernel_rfl, ?_⟩) (by assumption) ?_
                              rotate_left 1
                              · (intro w hSw; (try dsimp only at hSw); go_simp) <;> (with_reducible rfl)
                              (try simp only [Act.put, List.setIfInBounds_toArray, List.set_cons_succ, List.set_cons_zero])
                              refine wpAnyH_take (i := 22) (oi := ⟨some 81, _, _, _, _, _⟩) (v := ?_) rfl (by kernel_rfl) (by kernel_rfl) (by kernel_rfl) (fun _ _ _ h => h) (Or.inl ⟨by kernel_rfl, ?_⟩) (by assumption) ?_
                              rotate_left 1
                              · (intro w hSw; (try dsimp only at hSw); go_simp) <;> (with_reducible rfl)
                              (try simp only [Act.put, List.setIfInBounds_toArray, List.set_cons_succ, List.set_cons_zero])
                              refine wpAnyH_take (i := 23) (oi := ⟨some 82, _, _, _, _, _⟩) (v := ?_) rfl (by kernel_rfl) (by kernel_rfl) (by kernel_rfl) (fun _ _ _ h => h) (Or.inl ⟨by kernel_rfl, ?_⟩) (by assumption) ?_
                              rotate_left 1
                              · (intro w hSw; (try dsimp only at hSw); go_simp) <;> (with_reducible rfl)
                              (try simp only [Act.put, List.setIfInBounds_toArray, List.set_cons_succ, List.set_cons_zero])
                              refine wpAnyH_take (i := 24) (oi := ⟨some 83, _, _, _, _, _⟩) (v := ?_) rfl (by kernel_rfl) (by kernel_rfl) (by kernel_rfl) (fun _ _ _ h => h) (Or.inl ⟨by kernel_rfl, ?_⟩) (by assumption) ?_
                              rotate_left 1
                              · (intro w hSw; (try dsimp only at hSw); go_simp) <;> (with_reducible rfl)
                              (try simp only [Act.put, List.setIfInBounds_toArray, List.set_cons_succ, List.set_cons_zero])
                              refine wpAnyH_take (i := 25) (oi := ⟨some 84, _, _, _, _, _⟩) (v := ?_) rfl (by kernel_rfl) (by kernel_rfl) (by kernel_rfl) (fun _ _ _ h => h) (Or.inl ⟨by kernel_rfl, ?_⟩) (by assumption) ?_
                              rotate_left 1
                              · (intro w hSw; (try dsimp only at hSw); go_simp) <;> (with_reducible rfl)
                              (try simp only [Act.put, List.setIfInBounds_toArray, List.set_cons_succ, List.set_cons_zero])
                              refine wpAnyH_take (i := 26) (oi := ⟨some 85, _, _, _, _, _⟩) (v := ?_) rfl (by kernel_rfl) (by kernel_rfl) (by kernel_rfl) (fun _ _ _ h => h) (Or.inl ⟨by kernel_rfl, ?_⟩) (by assumption) ?_
                              rotate_left 1
                              · (intro w hSw; (try dsimp only at hSw); go_simp) <;> (with_reducible rfl)
                              (try simp only [Act.put, List.setIfInBounds_toArray, List.set_cons_succ, List.set_cons_zero])
                              refine wpAnyH_take (i := 27) (oi := ⟨some 86, _, _, _, _, _⟩) (v := ?_) rfl (by kernel_rfl) (by kernel_rfl) (by kernel_rfl) (fun _ _ _ h => h) (Or.inl ⟨by kernel_rfl, ?_⟩) (by assumption) ?_
                              rotate_left 1
                              · (intro w hSw; (try dsimp only at hSw); go_simp) <;> (with_reducible rfl)
                              (try simp only [Act.put, List.setIfInBounds_toArray, List.set_cons_succ, List.set_cons_zero])
                              refine wpAnyH_done (by kernel_rfl) ?_ _
                              refine NoPanic.normal ?_
                              have X2 := hide (X.out.below KK.out)
                              have K2 := hide (btrans K.out KK.out)
                              clear X K KK CE C
                              go_wp2
                              go_roundw
                              case rel => first | exact ⟨k + 1, by omega, by go_num, N1, X2, K2⟩ | ((repeat apply Exists.intro); exact ⟨⟨k + 1, by omega, by go_num, N1, X2, K2⟩, rfl⟩)
                              case measure => simp [intOf]; omega
                            · have d3 : (wd != 0) = true := by simp [c3]
                              have E := hide (BD.out (fun g => c3 ((FD.out.1 g).2 c2')))
                              clear BD NX FD
                              replace c1 := hide c1
                              replace c2' := hide c2'
                              refine wp_region_noPanic ?_
                              refine wp_region_held_drew (S := (fun w => w.cell? ⟨g, 0, none⟩ = some (.int .i64 M.sz) ∧ w.cell? ⟨g, 1, none⟩ = some (.slice As M.sp.length cs) ∧ w.cell? ⟨g, 2, none⟩ = some (.slice (some ⟨b, off, none⟩) M.fr.length cf) ∧ w.cell? ⟨g, 3, none⟩ = some (.int .i64 M.cp) ∧ w.cell? ⟨b, off + k * 2, none⟩ = some (.int .i64 cnt) ∧ w.cell? ⟨b, off + k * 2 + 1, none⟩ = some (.int .i64 wd))) (by kernel_rfl) ?_ (fun hHeld => ?_)
                              · exact CE.out _ (below_drewN (brefl w3) 1)
                              have KK := hide (below_drewN (brefl w3) 1)
                              change Hid (Below w3.heap.size w3 w3.drew) at KK
                              generalize w3.drew = w4 at *
                              refine wpAnyH_take (i := 0) (oi := ⟨some 59, _, _, _, _, _⟩) (v := ?_) rfl (by kernel_rfl) (by kernel_rfl) (by kernel_rfl) (fun _ _ _ h => h) (Or.inl ⟨by kernel_rfl, ?_⟩) (by assumption) ?_
                              rotate_left 1
                              · (intro w hSw; (try dsimp only at hSw); go_simp) <;> (with_reducible rfl)
                              (try simp only [Act.put, List.setIfInBounds_toArray, List.set_cons_succ, List.set_cons_zero])
                              refine wpAnyH_take (i := 1) (oi := ⟨some 60, _, _, _, _, _⟩) (v := ?_) rfl (by kernel_rfl) (by kernel_rfl) (by kernel_rfl) (fun _ _ _ h => h) (Or.inl ⟨by kernel_rfl, ?_⟩) (by assumption) ?_
                              rotate_left 1
                              · (intro w hSw; (try dsimp only at hSw); go_simp) <;> (with_reducible rfl)
                              (try simp only [Act.put, List.setIfInBounds_toArray, List.set_cons_succ, List.set_cons_zero])
                              refine wpAnyH_take (i := 2) (oi := ⟨some 61, _, _, _, _, _⟩) (v := ?_) rfl (by kernel_rfl) (by kernel_rfl) (by kernel_rfl) (fun _ _ _ h => h) (Or.inl ⟨by kernel_rfl, ?_⟩) (by assumption) ?_
                              rotate_left 1
                              · (intro w hSw; (try dsimp only at hSw); go_simp) <;> (with_reducible rfl)
                              (try simp only [Act.put, List.setIfInBounds_toArray, List.set_cons_succ, List.set_cons_zero])
                              refine wpAnyH_take (i := 3) (oi := ⟨some 62, _, _, _, _, _⟩) (v := ?_) rfl (by kernel_rfl) (by kernel_rfl) (by kernel_rfl) (fun _ _ _ h => h) (Or.inl ⟨by kernel_rfl, ?_⟩) (by assumption) ?_
                              rotate_left 1
                              · (intro w hSw; (try dsimp only at hSw); go_simp) <;> (with_reducible rfl)
                              (try simp only [Act.put, List.setIfInBounds_toArray, List.set_cons_succ, List.set_cons_zero])
                              refine wpAnyH_take (i := 4) (oi := ⟨some 63, _, _, _, _, _⟩) (v := ?_) rfl (by kernel_rfl) (by kernel_rfl) (by kernel_rfl) (fun _ _ _ h => h) (Or.inl ⟨by kernel_rfl, ?_⟩) (by assumption) ?_
                              rotate_left 1
                              · (intro w hSw; (try dsimp only at hSw); go_simp) <;> (with_reducible rfl)
                              (try simp only [Act.put, List.setIfInBounds_toArray, List.set_cons_succ, List.set_cons_zero])
                              refine wpAnyH_take (i := 5) (oi := ⟨some 64, _, _, _, _, _⟩) (v := ?_) rfl (by kernel_rfl) (by kernel_rfl) (by kernel_rfl) (fun _ _ _ h => h) (Or.inl ⟨by kernel_rfl, ?_⟩) (by assumption) ?_
                              rotate_left 1
                              · (intro w hSw; (try dsimp only at hSw); go_simp) <;> (with_reducible rfl)
                              (try simp only [Act.put, List.setIfInBounds_toArray, List.set_cons_succ, List.set_cons_zero])
                              refine wpAnyH_take (i := 6) (oi := ⟨some 65, _, _, _, _, _⟩) (v := ?_) rfl (by kernel_rfl) (by kernel_rfl) (by kernel_rfl) (fun _ _ _ h => h) (Or.inl ⟨by kernel_rfl, ?_⟩) (by assumption) ?_
                              rotate_left 1
                              · (intro w hSw; (try dsimp only at hSw); go_simp) <;> (with_reducible rfl)
                              (try simp only [Act.put, List.setIfInBounds_toArray, List.set_cons_succ, List.set_cons_zero])
                              refine wpAnyH_take (i := 7) (oi := ⟨some 66, _, _, _, _, _⟩) (v := ?_) rfl (by kernel_rfl) (by kernel_rfl) (by kernel_rfl) (fun _ _ _ h => h) (Or.inl ⟨by kernel_rfl, ?_⟩) (by assumption) ?_
                              rotate_left 1
                              · (intro w hSw; (try dsimp only at hSw); go_simp) <;> (with_reducible rfl)
                              (try simp only [Act.put, List.setIfInBounds_toArray, List.set_cons_succ, List.set_cons_zero])
                              refine wpAnyH_ready (rs := [8]) (by kernel_rfl) (by simp) ?_
                              refine AllReadyH.cons (o := ⟨some 67, _, _, _, _, _⟩) rfl (fun K' hK => ?_) AllReadyH.nil
                              go_simp
                              refine (C.out _ KK.out).mono ?_
                              rintro e wn ⟨rfl, hb⟩
                              replace KK := hide (btrans KK.out hb)
                              clear hb
                              refine hK.out _ _ ?_ (fun hHeld => ?_)
                              · exact CE.out _ KK.out
                              clear hK K'
                              (try simp only [Act.put, List.setIfInBounds_toArray, List.set_cons_succ, List.set_cons_zero])
                              refine wpAnyH_take (i := 9) (oi := ⟨some 68, _, _, _, _, _⟩) (v := ?_) rfl (by kernel_rfl) (by kernel_rfl) (by kernel_rfl) (fun _ _ _ h => h) (Or.inl ⟨by kernel_rfl, ?_⟩) (by assumption) ?_
                              rotate_left 1
                              · (intro w hSw; (try dsimp only at hSw); go_simp) <;> (with_reducible rfl)
                              (try simp only [Act.put, List.setIfInBounds_toArray, List.set_cons_succ, List.set_cons_zero])
                              refine wpAnyH_take (i := 10) (oi := ⟨some 69, _, _, _, _, _⟩) (v := ?_) rfl (by kernel_rfl) (by kernel_rfl) (by kernel_rfl) (fun _ _ _ h => h) (Or.inl ⟨by kernel_rfl, ?_⟩) (by assumption) ?_
                              rotate_left 1
                              · (intro w hSw; (try dsimp only at hSw); go_simp) <;> (with_reducible rfl)
                              (try simp only [Act.put, List.setIfInBounds_toArray, List.set_cons_succ, List.set_cons_zero])
                              refine wpAnyH_take (i := 11) (oi := ⟨some 70, _, _, _, _, _⟩) (v := ?_) rfl (by kernel_rfl) (by kernel_rfl) (by kernel_rfl) (fun _ _ _ h => h) (Or.inl ⟨by kernel_rfl, ?_⟩) (by assumption) ?_
                              rotate_left 1
                              · (intro w hSw; (try dsimp only at hSw); go_simp) <;> (with_reducible rfl)
                              (try simp only [Act.put, List.setIfInBounds_toArray, List.set_cons_succ, List.set_cons_zero])
                              refine wpAnyH_take (i := 12) (oi := ⟨some 71, _, _, _, _, _⟩) (v := ?_) rfl (by kernel_rfl) (by kernel_rfl) (by kernel_rfl) (fun _ _ _ h => h) (Or.inl ⟨by kernel_rfl, ?_⟩) (by assumption) ?_
                              rotate_left 1
                              · (intro w hSw; (try dsimp only at hSw); go_simp) <;> (with_reducible rfl)
                              (try simp only [Act.put, List.setIfInBounds_toArray, List.set_cons_succ, List.set_cons_zero])
                              refine wpAnyH_take (i := 13) (oi := ⟨some 72, _, _, _, _, _⟩) (v := ?_) rfl (by kernel_rfl) (by kernel_rfl) (by kernel_rfl) (fun _ _ _ h => h) (Or.inl ⟨by kernel_rfl, ?_⟩) (by assumption) ?_
                              rotate_left 1
                              · (intro w hSw; (try dsimp only at hSw); go_simp) <;> (with_reducible rfl)
                              (try simp only [Act.put, List.setIfInBounds_toArray, List.set_cons_succ, List.set_cons_zero])
                              refine wpAnyH_take (i := 14) (oi := ⟨some 73, _, _, _, _, _⟩) (v := ?_) rfl (by kernel_rfl) (by kernel_rfl) (by kernel_rfl) (fun _ _ _ h => h) (Or.inl ⟨by kernel_rfl, ?_⟩) (by assumption) ?_
                              rotate_left 1
                              · (intro w hSw; (try dsimp only at hSw); go_simp) <;> (with_reducible rfl)
                              (try simp only [Act.put, List.setIfInBounds_toArray, List.set_cons_succ, List.set_cons_zero])
                              refine wpAnyH_take (i := 15) (oi := ⟨some 74, _, _, _, _, _⟩) (v := ?_) rfl (by kernel_rfl) (by kernel_rfl) (by kernel_rfl) (fun _ _ _ h => h) (Or.inl ⟨by kernel_rfl, ?_⟩) (by assumption) ?_
                              rotate_left 1
                              · (intro w hSw; (try dsimp only at hSw); go_simp) <;> (with_reducible rfl)
                              (try simp only [Act.put, List.setIfInBounds_toArray, List.set_cons_succ, List.set_cons_zero])
                              refine wpAnyH_take (i := 16) (oi := ⟨some 75, _, _, _, _, _⟩) (v := ?_) rfl (by kernel_rfl) (by kernel_rfl) (by kernel_rfl) (fun _ _ _ h => h) (Or.inl ⟨by kernel_rfl, ?_⟩) (by assumption) ?_
                              rotate_left 1
                              · (intro w hSw; (try dsimp only at hSw); go_simp) <;> (with_reducible rfl)
                              (try simp only [Act.put, List.setIfInBounds_toArray, List.set_cons_succ, List.set_cons_zero])
                              refine wpAnyH_take (i := 17) (oi := ⟨some 76, _, _, _, _, _⟩) (v := ?_) rfl (by kernel_rfl) (by kernel_rfl) (by kernel_rfl) (fun _ _ _ h => h) (Or.inl ⟨by kernel_rfl, ?_⟩) (by assumption) ?_
                              rotate_left 1
                              · (intro w hSw; (try dsimp only at hSw); go_simp) <;> (with_reducible rfl)
                              (try simp only [Act.put, List.setIfInBounds_toArray, List.set_cons_succ, List.set_cons_zero])
                              refine wpAnyH_take (i := 18) (oi := ⟨some 77, _, _, _, _, _⟩) (v := ?_) rfl (by kernel_rfl) (by kernel_rfl) (by kernel_rfl) (fun _ _ _ h => h) (Or.inl ⟨by kernel_rfl, ?_⟩) (by assumption) ?_
                              rotate_left 1
                              · (intro w hSw; (try dsimp only at hSw); go_simp) <;> (with_reducible rfl)
                              (try simp only [Act.put, List.setIfInBounds_toArray, List.set_cons_succ, List.set_cons_zero])
                              refine wpAnyH_take (i := 19) (oi := ⟨some 78, _, _, _, _, _⟩) (v := ?_) rfl (by kernel_rfl) (by kernel_rfl) (by kernel_rfl) (fun _ _ _ h => h) (Or.inl ⟨by kernel_rfl, ?_⟩) (by assumption) ?_
                              rotate_left 1
                              · (intro w hSw; (try dsimp only at hSw); go_simp) <;> (with_reducible rfl)
                              (try simp only [Act.put, List.setIfInBounds_toArray, List.set_cons_succ, List.set_cons_zero])
                              refine wpAnyH_take (i := 20) (oi := ⟨some 79, _, _, _, _, _⟩) (v := ?_) rfl (by kernel_rfl) (by kernel_rfl) (by kernel_rfl) (fun _ _ _ h => h) (Or.inl ⟨by kernel_rfl, ?_⟩) (by assumption) ?_
                              rotate_left 1
                              · (intro w hSw; (try dsimp only at hSw); go_simp) <;> (with_reducible rfl)
                              (try simp only [Act.put, List.setIfInBounds_toArray, List.set_cons_succ, List.set_cons_zero])
                              refine wpAnyH_take (i := 21) (oi := ⟨some 80, _, _, _, _, _⟩) (v := ?_) rfl (by kernel_rfl) (by kernel_rfl) (by kernel_rfl) (fun _ _ _ h => h) (Or.inl ⟨by kernel_rfl, ?_⟩) (by assumption) ?_
                              rotate_left 1
                              · (intro w hSw; (try dsimp only at hSw); go_simp) <;> (with_reducible rfl)
                              (try simp only [Act.put, List.setIfInBounds_toArray, List.set_cons_succ, List.set_cons_zero])
                              refine wpAnyH_take (i := 22) (oi := ⟨some 81, _, _, _, _, _⟩) (v := ?_) rfl (by kernel_rfl) (by kernel_rfl) (by kernel_rfl) (fun _ _ _ h => h) (Or.inl ⟨by kernel_rfl, ?_⟩) (by assumption) ?_
                              rotate_left 1
                              · (intro w hSw; (try dsimp only at hSw); go_simp) <;> (with_reducible rfl)
                              (try simp only [Act.put, List.setIfInBounds_toArray, List.set_cons_succ, List.set_cons_zero])
                              refine wpAnyH_take (i := 23) (oi := ⟨some 82, _, _, _, _, _⟩) (v := ?_) rfl (by kernel_rfl) (by kernel_rfl) (by kernel_rfl) (fun _ _ _ h => h) (Or.inl ⟨by kernel_rfl, ?_⟩) (by assumption) ?_
                              rotate_left 1
                              · (intro w hSw; (try dsimp only at hSw); go_simp) <;> (with_reducible rfl)
                              (try simp only [Act.put, List.setIfInBounds_toArray, List.set_cons_succ, List.set_cons_zero])
                              refine wpAnyH_take (i := 24) (oi := ⟨some 83, _, _, _, _, _⟩) (v := ?_) rfl (by kernel_rfl) (by kernel_rfl) (by kernel_rfl) (fun _ _ _ h => h) (Or.inl ⟨by kernel_rfl, ?_⟩) (by assumption) ?_
                              rotate_left 1
                              · (intro w hSw; (try dsimp only at hSw); go_simp) <;> (with_reducible rfl)
                              (try simp only [Act.put, List.setIfInBounds_toArray, List.set_cons_succ, List.set_cons_zero])
                              refine wpAnyH_take (i := 25) (oi := ⟨some 84, _, _, _, _, _⟩) (v := ?_) rfl (by kernel_rfl) (by kernel_rfl) (by kernel_rfl) (fun _ _ _ h => h) (Or.inl ⟨by kernel_rfl, ?_⟩) (by assumption) ?_
                              rotate_left 1
                              · (intro w hSw; (try dsimp only at hSw); go_simp) <;> (with_reducible rfl)
                              (try simp only [Act.put, List.setIfInBounds_toArray, List.set_cons_succ, List.set_cons_zero])
                              refine wpAnyH_take (i := 26) (oi := ⟨some 85, _, _, _, _, _⟩) (v := ?_) rfl (by kernel_rfl) (by kernel_rfl) (by kernel_rfl) (fun _ _ _ h => h) (Or.inl ⟨by kernel_rfl, ?_⟩) (by assumption) ?_
                              rotate_left 1
                              · (intro w hSw; (try dsimp only at hSw); go_simp) <;> (with_reducible rfl)
                              (try simp only [Act.put, List.setIfInBounds_toArray, List.set_cons_succ, List.set_cons_zero])
                              refine wpAnyH_take (i := 27) (oi := ⟨some 86, _, _, _, _, _⟩) (v := ?_) rfl (by kernel_rfl) (by kernel_rfl) (by kernel_rfl) (fun _ _ _ h => h) (Or.inl ⟨by kernel_rfl, ?_⟩) (by assumption) ?_
                              rotate_left 1
                              · (intro w hSw; (try dsimp only at hSw); go_simp) <;> (with_reducible rfl)
                              (try simp only [Act.put, List.setIfInBounds_toArray, List.set_cons_succ, List.set_cons_zero])
                              refine wpAnyH_done (by kernel_rfl) ?_ _
                              refine NoPanic.normal ?_
                              go_wp2
                              go_ret
                              exact ⟨ret_int E.out.symm, btrans K.out KK.out⟩
                          · have d2 : (cnt == 0) = false := by simp [c2']
                            have N1 := hide (NX.out (FD.out.2 ⟨c1, fun g => absurd g c2'⟩))
                            clear BD NX FD
                            replace c1 := hide c1
                            refine wp_region_noPanic ?_
                            refine wp_region_held_drew (S := (fun w => w.cell? ⟨g, 0, none⟩ = some (.int .i64 M.sz) ∧ w.cell? ⟨g, 1, none⟩ = some (.slice As M.sp.length cs) ∧ w.cell? ⟨g, 2, none⟩ = some (.slice (some ⟨b, off, none⟩) M.fr.length cf) ∧ w.cell? ⟨g, 3, none⟩ = some (.int .i64 M.cp) ∧ w.cell? ⟨b, off + k * 2, none⟩ = some (.int .i64 cnt) ∧ w.cell? ⟨b, off + k * 2 + 1, none⟩ = some (.int .i64 wd))) (by kernel_rfl) ?_ (fun hHeld => ?_)
                            · exact CE.out _ (below_drewN (brefl w3) 1)
                            have KK := hide (below_drewN (brefl w3) 1)
                            change Hid (Below w3.heap.size w3 w3.drew) at KK
                            generalize w3.drew = w4 at *
                            refine wpAnyH_take (i := 0) (oi := ⟨some 59, _, _, _, _, _⟩) (v := ?_) rfl (by kernel_rfl) (by kernel_rfl) (by kernel_rfl) (fun _ _ _ h => h) (Or.inl ⟨by kernel_rfl, ?_⟩) (by assumption) ?_
                            rotate_left 1
                            · (intro w hSw; (try dsimp only at hSw); go_simp) <;> (with_reducible rfl)
                            (try simp only [Act.put, List.setIfInBounds_toArray, List.set_cons_succ, List.set_cons_zero])
                            refine wpAnyH_take (i := 1) (oi := ⟨some 60, _, _, _, _, _⟩) (v := ?_) rfl (by kernel_rfl) (by kernel_rfl) (by kernel_rfl) (fun _ _ _ h => h) (Or.inl ⟨by kernel_rfl, ?_⟩) (by assumption) ?_
                            rotate_left 1
                            · (intro w hSw; (try dsimp only at hSw); go_simp) <;> (with_reducible rfl)
                            (try simp only [Act.put, List.setIfInBounds_toArray, List.set_cons_succ, List.set_cons_zero])
                            refine wpAnyH_take (i := 2) (oi := ⟨some 61, _, _, _, _, _⟩) (v := ?_) rfl (by kernel_rfl) (by kernel_rfl) (by kernel_rfl) (fun _ _ _ h => h) (Or.inl ⟨by kernel_rfl, ?_⟩) (by assumption) ?_
                            rotate_left 1
                            · (intro w hSw; (try dsimp only at hSw); go_simp) <;> (with_reducible rfl)
                            (try simp only [Act.put, List.setIfInBounds_toArray, List.set_cons_succ, List.set_cons_zero])
                            refine wpAnyH_take (i := 3) (oi := ⟨some 62, _, _, _, _, _⟩) (v := ?_) rfl (by kernel_rfl) (by kernel_rfl) (by kernel_rfl) (fun _ _ _ h => h) (Or.inl ⟨by kernel_rfl, ?_⟩) (by assumption) ?_
                            rotate_left 1
                            · (intro w hSw; (try dsimp only at hSw); go_simp) <;> (with_reducible rfl)
                            (try simp only [Act.put, List.setIfInBounds_toArray, List.set_cons_succ, List.set_cons_zero])
                            refine wpAnyH_take (i := 4) (oi := ⟨some 63, _, _, _, _, _⟩) (v := ?_) rfl (by kernel_rfl) (by kernel_rfl) (by kernel_rfl) (fun _ _ _ h => h) (Or.inl ⟨by kernel_rfl, ?_⟩) (by assumption) ?_
                            rotate_left 1
                            · (intro w hSw; (try dsimp only at hSw); go_simp) <;> (with_reducible rfl)
                            (try simp only [Act.put, List.setIfInBounds_toArray, List.set_cons_succ, List.set_cons_zero])
                            refine wpAnyH_take (i := 5) (oi := ⟨some 64, _, _, _, _, _⟩) (v := ?_) rfl (by kernel_rfl) (by kernel_rfl) (by kernel_rfl) (fun _ _ _ h => h) (Or.inl ⟨by kernel_rfl, ?_⟩) (by assumption) ?_
                            rotate_left 1
                            · (intro w hSw; (try dsimp only at hSw); go_simp) <;> (with_reducible rfl)
                            (try simp only [Act.put, List.setIfInBounds_toArray, List.set_cons_succ, List.set_cons_zero])
                            refine wpAnyH_take (i := 6) (oi := ⟨some 65, _, _, _, _, _⟩) (v := ?_) rfl (by kernel_rfl) (by kernel_rfl) (by kernel_rfl) (fun _ _ _ h => h) (Or.inl ⟨by kernel_rfl, ?_⟩) (by assumption) ?_
                            rotate_left 1
                            · (intro w hSw; (try dsimp only at hSw); go_simp) <;> (with_reducible rfl)
                            (try simp only [Act.put, List.setIfInBounds_toArray, List.set_cons_succ, List.set_cons_zero])
                            refine wpAnyH_take (i := 7) (oi := ⟨some 66, _, _, _, _, _⟩) (v := ?_) rfl (by kernel_rfl) (by kernel_rfl) (by kernel_rfl) (fun _ _ _ h => h) (Or.inl ⟨by kernel_rfl, ?_⟩) (by assumption) ?_
                            rotate_left 1
                            · (intro w hSw; (try dsimp only at hSw); go_simp) <;> (with_reducible rfl)
                            (try simp only [Act.put, List.setIfInBounds_toArray, List.set_cons_succ, List.set_cons_zero])
                            refine wpAnyH_ready (rs := [8]) (by kernel_rfl) (by simp) ?_
                            refine AllReadyH.cons (o := ⟨some 67, _, _, _, _, _⟩) rfl (fun K' hK => ?_) AllReadyH.nil
                            go_simp
                            refine (C.out _ KK.out).mono ?_
                            rintro e wn ⟨rfl, hb⟩
                            replace KK := hide (btrans KK.out hb)
                            clear hb
                            refine hK.out _ _ ?_ (fun hHeld => ?_)
                            · exact CE.out _ KK.out
                            clear hK K'
                            (try simp only [Act.put, List.setIfInBounds_toArray, List.set_cons_succ, List.set_cons_zero])
                            refine wpAnyH_take (i := 9) (oi := ⟨some 68, _, _, _, _, _⟩) (v := ?_) rfl (by kernel_rfl) (by kernel_rfl) (by kernel_rfl) (fun _ _ _ h => h) (Or.inl ⟨by kernel_rfl, ?_⟩) (by assumption) ?_
                            rotate_left 1
                            · (intro w hSw; (try dsimp only at hSw); go_simp) <;> (with_reducible rfl)
                            (try simp only [Act.put, List.setIfInBounds_toArray, List.set_cons_succ, List.set_cons_zero])
                            refine wpAnyH_take (i := 10) (oi := ⟨some 69, _, _, _, _, _⟩) (v := ?_) rfl (by kernel_rfl) (by kernel_rfl) (by kernel_rfl) (fun _ _ _ h => h) (Or.inl ⟨by kernel_rfl, ?_⟩) (by assumption) ?_
                            rotate_left 1
                            · (intro w hSw; (try dsimp only at hSw); go_simp) <;> (with_reducible rfl)
                            (try simp only [Act.put, List.setIfInBounds_toArray, List.set_cons_succ, List.set_cons_zero])
                            refine wpAnyH_take (i := 11) (oi := ⟨some 70, _, _, _, _, _⟩) (v := ?_) rfl (by kernel_rfl) (by kernel_rfl) (by kernel_rfl) (fun _ _ _ h => h) (Or.inl ⟨by kernel_rfl, ?_⟩) (by assumption) ?_
                            rotate_left 1
                            · (intro w hSw; (try dsimp only at hSw); go_simp) <;> (with_reducible rfl)
                            (try simp only [Act.put, List.setIfInBounds_toArray, List.set_cons_succ, List.set_cons_zero])
                            refine wpAnyH_take (i := 12) (oi := ⟨some 71, _, _, _, _, _⟩) (v := ?_) rfl (by kernel_rfl) (by kernel_rfl) (by kernel_rfl) (fun _ _ _ h => h) (Or.inl ⟨by kernel_rfl, ?_⟩) (by assumption) ?_
                            rotate_left 1
                            · (intro w hSw; (try dsimp only at hSw); go_simp) <;> (with_reducible rfl)
                            (try simp only [Act.put, List.setIfInBounds_toArray, List.set_cons_succ, List.set_cons_zero])
                            refine wpAnyH_take (i := 13) (oi := ⟨some 72, _, _, _, _, _⟩) (v := ?_) rfl (by kernel_rfl) (by kernel_rfl) (by kernel_rfl) (fun _ _ _ h => h) (Or.inl ⟨by kernel_rfl, ?_⟩) (by assumption) ?_
                            rotate_left 1
                            · (intro w hSw; (try dsimp only at hSw); go_simp) <;> (with_reducible rfl)
                            (try simp only [Act.put, List.setIfInBounds_toArray, List.set_cons_succ, List.set_cons_zero])
                            refine wpAnyH_take (i := 14) (oi := ⟨some 73, _, _, _, _, _⟩) (v := ?_) rfl (by kernel_rfl) (by kernel_rfl) (by kernel_rfl) (fun _ _ _ h => h) (Or.inl ⟨by kernel_rfl, ?_⟩) (by assumption) ?_
                            rotate_left 1
                            · (intro w hSw; (try dsimp only at hSw); go_simp) <;> (with_reducible rfl)
                            (try simp only [Act.put, List.setIfInBounds_toArray, List.set_cons_succ, List.set_cons_zero])
                            refine wpAnyH_take (i := 15) (oi := ⟨some 74, _, _, _, _, _⟩) (v := ?_) rfl (by kernel_rfl) (by kernel_rfl) (by kernel_rfl) (fun _ _ _ h => h) (Or.inl ⟨by kernel_rfl, ?_⟩) (by assumption) ?_
                            rotate_left 1
                            · (intro w hSw; (try dsimp only at hSw); go_simp) <;> (with_reducible rfl)
                            (try simp only [Act.put, List.setIfInBounds_toArray, List.set_cons_succ, List.set_cons_zero])
                            refine wpAnyH_take (i := 16) (oi := ⟨some 75, _, _, _, _, _⟩) (v := ?_) rfl (by kernel_rfl) (by kernel_rfl) (by kernel_rfl) (fun _ _ _ h => h) (Or.inl ⟨by kernel_rfl, ?_⟩) (by assumption) ?_
                            rotate_left 1
                            · (intro w hSw; (try dsimp only at hSw); go_simp) <;> (with_reducible rfl)
                            (try simp only [Act.put, List.setIfInBounds_toArray, List.set_cons_succ, List.set_cons_zero])
                            refine wpAnyH_take (i := 17) (oi := ⟨some 76, _, _, _, _, _⟩) (v := ?_) rfl (by kernel_rfl) (by kernel_rfl) (by kernel_rfl) (fun _ _ _ h => h) (Or.inl ⟨by kernel_rfl, ?_⟩) (by assumption) ?_
                            rotate_left 1
                            · (intro w hSw; (try dsimp only at hSw); go_simp) <;> (with_reducible rfl)
                            (try simp only [Act.put, List.setIfInBounds_toArray, List.set_cons_succ, List.set_cons_zero])
                            refine wpAnyH_take (i := 18) (oi := ⟨some 77, _, _, _, _, _⟩) (v := ?_) rfl (by kernel_rfl) (by kernel_rfl) (by kernel_rfl) (fun _ _ _ h => h) (Or.inl ⟨by kernel_rfl, ?_⟩) (by assumption) ?_
                            rotate_left 1
                            · (intro w hSw; (try dsimp only at hSw); go_simp) <;> (with_reducible rfl)
                            (try simp only [Act.put, List.setIfInBounds_toArray, List.set_cons_succ, List.set_cons_zero])
                            refine wpAnyH_take (i := 19) (oi := ⟨some 78, _, _, _, _, _⟩) (v := undef) rfl (by kernel_rfl) (by kernel_rfl) (by kernel_rfl) (fun _ _ _ h => h) (Or.inr ⟨by kernel_rfl, rfl⟩) (by assumption) ?_
                            (try simp only [Act.put, List.setIfInBounds_toArray, List.set_cons_succ, List.set_cons_zero])
                            refine wpAnyH_take (i := 20) (oi := ⟨some 79, _, _, _, _, _⟩) (v := undef) rfl (by kernel_rfl) (by kernel_rfl) (by kernel_rfl) (fun _ _ _ h => h) (Or.inr ⟨by kernel_rfl, rfl⟩) (by assumption) ?_
                            (try simp only [Act.put, List.setIfInBounds_toArray, List.set_cons_succ, List.set_cons_zero])
                            refine wpAnyH_take (i := 21) (oi := ⟨some 80, _, _, _, _, _⟩) (v := undef) rfl (by kernel_rfl) (by kernel_rfl) (by kernel_rfl) (fun _ _ _ h => h) (Or.inr ⟨by kernel_rfl, rfl⟩) (by assumption) ?_
                            (try simp only [Act.put, List.setIfInBounds_toArray, List.set_cons_succ, List.set_cons_zero])
                            refine wpAnyH_take (i := 22) (oi := ⟨some 81, _, _, _, _, _⟩) (v := undef) rfl (by kernel_rfl) (by kernel_rfl) (by kernel_rfl) (fun _ _ _ h => h) (Or.inr ⟨by kernel_rfl, rfl⟩) (by assumption) ?_
                            (try simp only [Act.put, List.setIfInBounds_toArray, List.set_cons_succ, List.set_cons_zero])
                            refine wpAnyH_take (i := 23) (oi := ⟨some 82, _, _, _, _, _⟩) (v := undef) rfl (by kernel_rfl) (by kernel_rfl) (by kernel_rfl) (fun _ _ _ h => h) (Or.inr ⟨by kernel_rfl, rfl⟩) (by assumption) ?_
                            (try simp only [Act.put, List.setIfInBounds_toArray, List.set_cons_succ, List.set_cons_zero])
                            refine wpAnyH_take (i := 24) (oi := ⟨some 83, _, _, _, _, _⟩) (v := undef) rfl (by kernel_rfl) (by kernel_rfl) (by kernel_rfl) (fun _ _ _ h => h) (Or.inr ⟨by kernel_rfl, rfl⟩) (by assumption) ?_
                            (try simp only [Act.put, List.setIfInBounds_toArray, List.set_cons_succ, List.set_cons_zero])
                            refine wpAnyH_take (i := 25) (oi := ⟨some 84, _, _, _, _, _⟩) (v := undef) rfl (by kernel_rfl) (by kernel_rfl) (by kernel_rfl) (fun _ _ _ h => h) (Or.inr ⟨by kernel_rfl, rfl⟩) (by assumption) ?_
                            (try simp only [Act.put, List.setIfInBounds_toArray, List.set_cons_succ, List.set_cons_zero])
                            refine wpAnyH_take (i := 26) (oi := ⟨some 85, _, _, _, _, _⟩) (v := ?_) rfl (by kernel_rfl) (by kernel_rfl) (by kernel_rfl) (fun _ _ _ h => h) (Or.inl ⟨by kernel_rfl, ?_⟩) (by assumption) ?_
                            rotate_left 1
                            · (intro w hSw; (try dsimp only at hSw); go_simp) <;> (with_reducible rfl)
                            (try simp only [Act.put, List.setIfInBounds_toArray, List.set_cons_succ, List.set_cons_zero])
                            refine wpAnyH_take (i := 27) (oi := ⟨some 86, _, _, _, _, _⟩) (v := ?_) rfl (by kernel_rfl) (by kernel_rfl) (by kernel_rfl) (fun _ _ _ h => h) (Or.inl ⟨by kernel_rfl, ?_⟩) (by assumption) ?_
                            rotate_left 1
                            · (intro w hSw; (try dsimp only at hSw); go_simp) <;> (with_reducible rfl)
                            (try simp only [Act.put, List.setIfInBounds_toArray, List.set_cons_succ, List.set_cons_zero])
                            refine wpAnyH_done (by kernel_rfl) ?_ _
                            refine NoPanic.normal ?_
                            have X2 := hide (X.out.below KK.out)
                            have K2 := hide (btrans K.out KK.out)
                            clear X K KK CE C
                            go_wp2
                            go_roundw
                            case rel => first | exact ⟨k + 1, by omega, by go_num, N1, X2, K2⟩ | ((repeat apply Exists.intro); exact ⟨⟨k + 1, by omega, by go_num, N1, X2, K2⟩, rfl⟩)
                            case measure => simp [intOf]; omega
                        · have d1 : (cnt == (cn : Int)) = false := by simp [c1]
                          have d1n : (cnt != (cn : Int)) = true := by simp [c1]
                          have E := hide (BD.out (fun g => c1 (FD.out.1 g).1))
                          clear BD NX FD
                          refine wp_region_noPanic ?_
                          refine wp_region_held_drew (S := (fun w => w.cell? ⟨g, 0, none⟩ = some (.int .i64 M.sz) ∧ w.cell? ⟨g, 1, none⟩ = some (.slice As M.sp.length cs) ∧ w.cell? ⟨g, 2, none⟩ = some (.slice (some ⟨b, off, none⟩) M.fr.length cf) ∧ w.cell? ⟨g, 3, none⟩ = some (.int .i64 M.cp) ∧ w.cell? ⟨b, off + k * 2, none⟩ = some (.int .i64 cnt) ∧ w.cell? ⟨b, off + k * 2 + 1, none⟩ = some (.int .i64 wd))) (by kernel_rfl) ?_ (fun hHeld => ?_)
                          · exact CE.out _ (below_drewN (brefl w3) 1)
                          have KK := hide (below_drewN (brefl w3) 1)
                          change Hid (Below w3.heap.size w3 w3.drew) at KK
                          generalize w3.drew = w4 at *
                          refine wpAnyH_take (i := 0) (oi := ⟨some 59, _, _, _, _, _⟩) (v := ?_) rfl (by kernel_rfl) (by kernel_rfl) (by kernel_rfl) (fun _ _ _ h => h) (Or.inl ⟨by kernel_rfl, ?_⟩) (by assumption) ?_
                          rotate_left 1
                          · (intro w hSw; (try dsimp only at hSw); go_simp) <;> (with_reducible rfl)
                          (try simp only [Act.put, List.setIfInBounds_toArray, List.set_cons_succ, List.set_cons_zero])
                          refine wpAnyH_take (i := 1) (oi := ⟨some 60, _, _, _, _, _⟩) (v := ?_) rfl (by kernel_rfl) (by kernel_rfl) (by kernel_rfl) (fun _ _ _ h => h) (Or.inl ⟨by kernel_rfl, ?_⟩) (by assumption) ?_
                          rotate_left 1
                          · (intro w hSw; (try dsimp only at hSw); go_simp) <;> (with_reducible rfl)
                          (try simp only [Act.put, List.setIfInBounds_toArray, List.set_cons_succ, List.set_cons_zero])
                          refine wpAnyH_take (i := 2) (oi := ⟨some 61, _, _, _, _, _⟩) (v := ?_) rfl (by kernel_rfl) (by kernel_rfl) (by kernel_rfl) (fun _ _ _ h => h) (Or.inl ⟨by kernel_rfl, ?_⟩) (by assumption) ?_
                          rotate_left 1
                          · (intro w hSw; (try dsimp only at hSw); go_simp) <;> (with_reducible rfl)
                          (try simp only [Act.put, List.setIfInBounds_toArray, List.set_cons_succ, List.set_cons_zero])
                          refine wpAnyH_take (i := 3) (oi := ⟨some 62, _, _, _, _, _⟩) (v := ?_) rfl (by kernel_rfl) (by kernel_rfl) (by kernel_rfl) (fun _ _ _ h => h) (Or.inl ⟨by kernel_rfl, ?_⟩) (by assumption) ?_
                          rotate_left 1
                          · (intro w hSw; (try dsimp only at hSw); go_simp) <;> (with_reducible rfl)
                          (try simp only [Act.put, List.setIfInBounds_toArray, List.set_cons_succ, List.set_cons_zero])
                          refine wpAnyH_take (i := 4) (oi := ⟨some 63, _, _, _, _, _⟩) (v := ?_) rfl (by kernel_rfl) (by kernel_rfl) (by kernel_rfl) (fun _ _ _ h => h) (Or.inl ⟨by kernel_rfl, ?_⟩) (by assumption) ?_
                          rotate_left 1
                          · (intro w hSw; (try dsimp only at hSw); go_simp) <;> (with_reducible rfl)
                          (try simp only [Act.put, List.setIfInBounds_toArray, List.set_cons_succ, List.set_cons_zero])
                          refine wpAnyH_take (i := 5) (oi := ⟨some 64, _, _, _, _, _⟩) (v := ?_) rfl (by kernel_rfl) (by kernel_rfl) (by kernel_rfl) (fun _ _ _ h => h) (Or.inl ⟨by kernel_rfl, ?_⟩) (by assumption) ?_
                          rotate_left 1
                          · (intro w hSw; (try dsimp only at hSw); go_simp) <;> (with_reducible rfl)
                          (try simp only [Act.put, List.setIfInBounds_toArray, List.set_cons_succ, List.set_cons_zero])
                          refine wpAnyH_take (i := 6) (oi := ⟨some 65, _, _, _, _, _⟩) (v := ?_) rfl (by kernel_rfl) (by kernel_rfl) (by kernel_rfl) (fun _ _ _ h => h) (Or.inl ⟨by kernel_rfl, ?_⟩) (by assumption) ?_
                          rotate_left 1
                          · (intro w hSw; (try dsimp only at hSw); go_simp) <;> (with_reducible rfl)
                          (try simp only [Act.put, List.setIfInBounds_toArray, List.set_cons_succ, List.set_cons_zero])
                          refine wpAnyH_take (i := 7) (oi := ⟨some 66, _, _, _, _, _⟩) (v := ?_) rfl (by kernel_rfl) (by kernel_rfl) (by kernel_rfl) (fun _ _ _ h => h) (Or.inl ⟨by kernel_rfl, ?_⟩) (by assumption) ?_
                          rotate_left 1
                          · (intro w hSw; (try dsimp only at hSw); go_simp) <;> (with_reducible rfl)
                          (try simp only [Act.put, List.setIfInBounds_toArray, List.set_cons_succ, List.set_cons_zero])
                          refine wpAnyH_ready (rs := [8]) (by kernel_rfl) (by simp) ?_
                          refine AllReadyH.cons (o := ⟨some 67, _, _, _, _, _⟩) rfl (fun K' hK => ?_) AllReadyH.nil
                          go_simp
                          refine (C.out _ KK.out).mono ?_
                          rintro e wn ⟨rfl, hb⟩
                          replace KK := hide (btrans KK.out hb)
                          clear hb
                          refine hK.out _ _ ?_ (fun hHeld => ?_)
                          · exact CE.out _ KK.out
                          clear hK K'
                          (try simp only [Act.put, List.setIfInBounds_toArray, List.set_cons_succ, List.set_cons_zero])
                          refine wpAnyH_take (i := 9) (oi := ⟨some 68, _, _, _, _, _⟩) (v := ?_) rfl (by kernel_rfl) (by kernel_rfl) (by kernel_rfl) (fun _ _ _ h => h) (Or.inl ⟨by kernel_rfl, ?_⟩) (by assumption) ?_
                          rotate_left 1
                          · (intro w hSw; (try dsimp only at hSw); go_simp) <;> (with_reducible rfl)
                          (try simp only [Act.put, List.setIfInBounds_toArray, List.set_cons_succ, List.set_cons_zero])
                          refine wpAnyH_take (i := 10) (oi := ⟨some 69, _, _, _, _, _⟩) (v := ?_) rfl (by kernel_rfl) (by kernel_rfl) (by kernel_rfl) (fun _ _ _ h => h) (Or.inl ⟨by kernel_rfl, ?_⟩) (by assumption) ?_
                          rotate_left 1
                          · (intro w hSw; (try dsimp only at hSw); go_simp) <;> (with_reducible rfl)
                          (try simp only [Act.put, List.setIfInBounds_toArray, List.set_cons_succ, List.set_cons_zero])
                          refine wpAnyH_take (i := 11) (oi := ⟨some 70, _, _, _, _, _⟩) (v := undef) rfl (by kernel_rfl) (by kernel_rfl) (by kernel_rfl) (fun _ _ _ h => h) (Or.inr ⟨by kernel_rfl, rfl⟩) (by assumption) ?_
                          (try simp only [Act.put, List.setIfInBounds_toArray, List.set_cons_succ, List.set_cons_zero])
                          refine wpAnyH_take (i := 12) (oi := ⟨some 71, _, _, _, _, _⟩) (v := undef) rfl (by kernel_rfl) (by kernel_rfl) (by kernel_rfl) (fun _ _ _ h => h) (Or.inr ⟨by kernel_rfl, rfl⟩) (by assumption) ?_
                          (try simp only [Act.put, List.setIfInBounds_toArray, List.set_cons_succ, List.set_cons_zero])
                          refine wpAnyH_take (i := 13) (oi := ⟨some 72, _, _, _, _, _⟩) (v := undef) rfl (by kernel_rfl) (by kernel_rfl) (by kernel_rfl) (fun _ _ _ h => h) (Or.inr ⟨by kernel_rfl, rfl⟩) (by assumption) ?_
                          (try simp only [Act.put, List.setIfInBounds_toArray, List.set_cons_succ, List.set_cons_zero])
                          refine wpAnyH_take (i := 14) (oi := ⟨some 73, _, _, _, _, _⟩) (v := undef) rfl (by kernel_rfl) (by kernel_rfl) (by kernel_rfl) (fun _ _ _ h => h) (Or.inr ⟨by kernel_rfl, rfl⟩) (by assumption) ?_
                          (try simp only [Act.put, List.setIfInBounds_toArray, List.set_cons_succ, List.set_cons_zero])
                          refine wpAnyH_take (i := 15) (oi := ⟨some 74, _, _, _, _, _⟩) (v := undef) rfl (by kernel_rfl) (by kernel_rfl) (by kernel_rfl) (fun _ _ _ h => h) (Or.inr ⟨by kernel_rfl, rfl⟩) (by assumption) ?_
                          (try simp only [Act.put, List.setIfInBounds_toArray, List.set_cons_succ, List.set_cons_zero])
                          refine wpAnyH_take (i := 16) (oi := ⟨some 75, _, _, _, _, _⟩) (v := undef) rfl (by kernel_rfl) (by kernel_rfl) (by kernel_rfl) (fun _ _ _ h => h) (Or.inr ⟨by kernel_rfl, rfl⟩) (by assumption) ?_
                          (try simp only [Act.put, List.setIfInBounds_toArray, List.set_cons_succ, List.set_cons_zero])
                          refine wpAnyH_take (i := 17) (oi := ⟨some 76, _, _, _, _, _⟩) (v := undef) rfl (by kernel_rfl) (by kernel_rfl) (by kernel_rfl) (fun _ _ _ h => h) (Or.inr ⟨by kernel_rfl, rfl⟩) (by assumption) ?_
                          (try simp only [Act.put, List.setIfInBounds_toArray, List.set_cons_succ, List.set_cons_zero])
                          refine wpAnyH_take (i := 18) (oi := ⟨some 77, _, _, _, _, _⟩) (v := undef) rfl (by kernel_rfl) (by kernel_rfl) (by kernel_rfl) (fun _ _ _ h => h) (Or.inr ⟨by kernel_rfl, rfl⟩) (by assumption) ?_
                          (try simp only [Act.put, List.setIfInBounds_toArray, List.set_cons_succ, List.set_cons_zero])
                          refine wpAnyH_take (i := 19) (oi := ⟨some 78, _, _, _, _, _⟩) (v := undef) rfl (by kernel_rfl) (by kernel_rfl) (by kernel_rfl) (fun _ _ _ h => h) (Or.inr ⟨by kernel_rfl, rfl⟩) (by assumption) ?_
                          (try simp only [Act.put, List.setIfInBounds_toArray, List.set_cons_succ, List.set_cons_zero])
                          refine wpAnyH_take (i := 20) (oi := ⟨some 79, _, _, _, _, _⟩) (v := undef) rfl (by kernel_rfl) (by kernel_rfl) (by kernel_rfl) (fun _ _ _ h => h) (Or.inr ⟨by kernel_rfl, rfl⟩) (by assumption) ?_
                          (try simp only [Act.put, List.setIfInBounds_toArray, List.set_cons_succ, List.set_cons_zero])
                          refine wpAnyH_take (i := 21) (oi := ⟨some 80, _, _, _, _, _⟩) (v := undef) rfl (by kernel_rfl) (by kernel_rfl) (by kernel_rfl) (fun _ _ _ h => h) (Or.inr ⟨by kernel_rfl, rfl⟩) (by assumption) ?_
                          (try simp only [Act.put, List.setIfInBounds_toArray, List.set_cons_succ, List.set_cons_zero])
                          refine wpAnyH_take (i := 22) (oi := ⟨some 81, _, _, _, _, _⟩) (v := undef) rfl (by kernel_rfl) (by kernel_rfl) (by kernel_rfl) (fun _ _ _ h => h) (Or.inr ⟨by kernel_rfl, rfl⟩) (by assumption) ?_
                          (try simp only [Act.put, List.setIfInBounds_toArray, List.set_cons_succ, List.set_cons_zero])
                          refine wpAnyH_take (i := 23) (oi := ⟨some 82, _, _, _, _, _⟩) (v := undef) rfl (by kernel_rfl) (by kernel_rfl) (by kernel_rfl) (fun _ _ _ h => h) (Or.inr ⟨by kernel_rfl, rfl⟩) (by assumption) ?_
                          (try simp only [Act.put, List.setIfInBounds_toArray, List.set_cons_succ, List.set_cons_zero])
                          refine wpAnyH_take (i := 24) (oi := ⟨some 83, _, _, _, _, _⟩) (v := undef) rfl (by kernel_rfl) (by kernel_rfl) (by kernel_rfl) (fun _ _ _ h => h) (Or.inr ⟨by kernel_rfl, rfl⟩) (by assumption) ?_
                          (try simp only [Act.put, List.setIfInBounds_toArray, List.set_cons_succ, List.set_cons_zero])
                          refine wpAnyH_take (i := 25) (oi := ⟨some 84, _, _, _, _, _⟩) (v := undef) rfl (by kernel_rfl) (by kernel_rfl) (by kernel_rfl) (fun _ _ _ h => h) (Or.inr ⟨by kernel_rfl, rfl⟩) (by assumption) ?_
                          (try simp only [Act.put, List.setIfInBounds_toArray, List.set_cons_succ, List.set_cons_zero])
                          refine wpAnyH_take (i := 26) (oi := ⟨some 85, _, _, _, _, _⟩) (v := undef) rfl (by kernel_rfl) (by kernel_rfl) (by kernel_rfl) (fun _ _ _ h => h) (Or.inr ⟨by kernel_rfl, rfl⟩) (by assumption) ?_
                          (try simp only [Act.put, List.setIfInBounds_toArray, List.set_cons_succ, List.set_cons_zero])
                          refine wpAnyH_take (i := 27) (oi := ⟨some 86, _, _, _, _, _⟩) (v := ?_) rfl (by kernel_rfl) (by kernel_rfl) (by kernel_rfl) (fun _ _ _ h => h) (Or.inl ⟨by kernel_rfl, ?_⟩) (by assumption) ?_
                          rotate_left 1
                          · (intro w hSw; (try dsimp only at hSw); go_simp) <;> (with_reducible rfl)
                          (try simp only [Act.put, List.setIfInBounds_toArray, List.set_cons_succ, List.set_cons_zero])
                          refine wpAnyH_done (by kernel_rfl) ?_ _
                          refine NoPanic.normal ?_
                          go_wp2
                          go_ret
                          exact ⟨ret_int E.out.symm, btrans K.out KK.out⟩
                      · obtain rfl : M.fr.length = k := by omega
                        have ST := hide (show stG M from FG.out)
                        have EZ2 := hide (EZ.out ST.out)
                        have E12b := hide (fun i (hi : i < M.sp.length) j (hj : j < (sAt M.sp i).2.length) (hb : ¬ wrG M.fr (pAt (sAt M.sp i).2 j)) => E12.out ST.out (fun g => hb (g _ (sAt_mem hi) _ (pAt_mem hj))))
                        clear EZ E12 E11 CS FG hlt hk ST
                        go_wp2
                        clear x0 x1 x2 x3
                        go_loopw [4] (fun q wr => ∃ i : Nat, i ≤ M.sp.length ∧ q = .int .i64 i ∧ Hid (∀ m, m < i → ∀ j, j < (sAt M.sp m).2.length → wrG M.fr (pAt (sAt M.sp m).2 j)) ∧ Hid (Box wr g 28 #[.int .i64 M.sz, .slice As M.sp.length cs, .slice Af M.fr.length cf, .int .i64 M.cp]) ∧ Hid (Below w.heap.size w wr)) (fun q _ => M.sp.length - (intOf q).toNat)
                        case atStart => exact ⟨0, Nat.zero_le _, rfl, hide (fun m hm => absurd hm (Nat.not_lt_zero _)), X, K⟩
                        case round =>
                          clear X K
                          obtain ⟨i, hk, rfl, WG, X, K⟩ := hrel
                          obtain ⟨x0, x1, x2, x3⟩ := box4 X.out
                          by_cases hlt : i < M.sp.length
                          · have hl2 : (i : Int) < (M.sp.length : Int) := by omega
                            have hk0 : (0 : Int) ≤ (i : Int) := by omega
                            have PN := hide (PL.out i hlt)
                            have WN := hide (fun (h : ∀ j, j < (sAt M.sp i).2.length → wrG M.fr (pAt (sAt M.sp i).2 j)) m (hm : m < i + 1) => show ∀ j, j < (sAt M.sp m).2.length → wrG M.fr (pAt (sAt M.sp m).2 j) from if e : m = i then e ▸ h else WG.out m (by omega))
                            have BD := hide (E12b.out i hlt)
                            have PF := hide (fun j (hj : j < (sAt M.sp i).2.length) => (FM.out _ (sAt_mem hlt)).2 _ (pAt_mem hj))
                            obtain ⟨Ls, hLs⟩ : ∃ Ls, Ls = (sAt M.sp i).2 := ⟨_, rfl⟩
                            have RR := hide (fun w' (hb : Below w.heap.size w w') => show ∃ b off A2 c2, As = some ⟨b, off, none⟩ ∧ w'.cell? ⟨b, off + i * 2 + 1, none⟩ = some (.slice A2 Ls.length c2) ∧ RdP w' A2 Ls by
                              obtain ⟨b, off, v, eA, _, _, t1, A2, c2, ev, _, hR⟩ := W0.out.rs.cells hb hlt
                              rw [hLs]
                              exact ⟨b, off, A2, c2, eA, by rw [t1, ev], hR⟩)
                            rw [← hLs] at PN WN BD PF
                            clear hLs WG
                            go_wp2
                            clear x0 x1 x2 x3
                            go_loopw [5] (fun q wr => ∃ j : Nat, j ≤ Ls.length ∧ q = .int .i64 j ∧ Hid (∀ m, m < j → wrG M.fr (pAt Ls m)) ∧ Hid (Box wr g 28 #[.int .i64 M.sz, .slice As M.sp.length cs, .slice Af M.fr.length cf, .int .i64 M.cp]) ∧ Hid (Below w.heap.size w wr)) (fun q _ => Ls.length - (intOf q).toNat)
                            case atStart => exact ⟨0, Nat.zero_le _, rfl, hide (fun m hm => absurd hm (Nat.not_lt_zero _)), X, K⟩
                            case round =>
                              clear X K
                              obtain ⟨j, hj, rfl, WG, X, K⟩ := hrel
                              obtain ⟨x0, x1, x2, x3⟩ := box4 X.out
                              obtain ⟨b, off, A2, c2, rfl, t1, hR⟩ := RR.out _ K.out
                              have pn := PN.out
                              by_cases hjl : j < Ls.length
                              · have hj2 : (j : Int) < (Ls.length : Int) := by omega
                                have hj0 : (0 : Int) ≤ (j : Int) := by omega
                                obtain ⟨b2, o2, rfl, hb2, z0, z1⟩ := hR.cells (brefl _) hjl
                                have N0 := hide (fun (h : wrG M.fr (pAt Ls j)) m (hm : m < j + 1) => show wrG M.fr (pAt Ls m) from if e : m = j then e ▸ h else WG.out m (by omega))
                                have B0 := hide (BD.out j hjl)
                                have P0 := hide (PF.out j hjl)
                                rcases hpp : pAt Ls j with ⟨pf, pw⟩
                                rw [hpp] at z0 z1 N0 B0 P0
                                dsimp only at z0 z1
                                clear hpp WG hR
                                have X6 := hide (Box.new wr 64 #[.int .i64 pf, .bool pw])
                                have M6 := bal (brefl wr) (.cells #[.int .i64 pf, .bool pw] 64)
                                replace X := hide (X.out.below M6)
                                replace K := hide (btrans K.out M6)
                                clear M6
                                go_upto_region 17 with fail
                                generalize hg6 : wr.heap.size = g6 at *
                                clear hg6 z0 z1 x0 x1 x2 x3 t1
                                generalize wr.alloc (.cells #[.int .i64 pf, .bool pw] 64) = w6 at *
                                obtain ⟨x0, x1, x2, x3⟩ := box4 X.out
                                obtain ⟨v0, v1⟩ := box2 X6.out
                                cases pw
                                · have G := hide (N0.out (fun h => by cases h))
                                  clear N0 B0 P0
                                  go_wp2
                                  go_roundw
                                  case rel => first | exact ⟨j + 1, by omega, by go_num, G, X, K⟩ | ((repeat apply Exists.intro); exact ⟨⟨j + 1, by omega, by go_num, G, X, K⟩, rfl⟩)
                                  case measure => simp [intOf]; omega
                                · obtain ⟨q0, q1, q2⟩ := pg_of P0.out
                                  have q3 : pf ≠ -1 := fun e => by have := q2 e; cases this
                                  obtain ⟨fn, rfl⟩ : ∃ fn : Nat, pf = fn := ⟨pf.toNat, by omega⟩
                                  have hfn : fn < M.fr.length := by omega
                                  obtain ⟨b3, o3, rfl, hb3, u0, u1⟩ := W0.out.rf.cells K.out hfn
                                  clear u1 q0 q2 q3
                                  have WD := hide (show wrG M.fr ((fn : Int), true) ↔ (fAt M.fr fn).1 = 1 by
                                    unfold wrG
                                    dsimp only
                                    rw [Int.toNat_natCast]
                                    exact ⟨fun h => h rfl, fun h _ => h⟩)
                                  generalize (fAt M.fr fn).1 = cc at *
                                  by_cases c1 : cc = 1
                                  · have d1 : (cc != 1) = false := by simp [c1]
                                    have G := hide (N0.out (WD.out.2 c1))
                                    clear N0 B0 P0 WD c1
                                    go_wp2
                                    go_roundw
                                    case rel => first | exact ⟨j + 1, by omega, by go_num, G, X, K⟩ | ((repeat apply Exists.intro); exact ⟨⟨j + 1, by omega, by go_num, G, X, K⟩, rfl⟩)
                                    case measure => simp [intOf]; omega
                                  · have d1 : (cc != 1) = true := by simp [c1]
                                    have E := hide (B0.out (fun g => c1 (WD.out.1 g)))
                                    clear N0 B0 P0 WD c1
                                    go_wp2
                                    go_ret
                                    exact ⟨ret_int E.out.symm, K.out⟩
                              · obtain rfl : Ls.length = j := by omega
                                have G := hide (WN.out WG.out)
                                go_wp2
                                go_roundw
                                case rel => first | exact ⟨i + 1, by omega, by go_num, G, X, K⟩ | ((repeat apply Exists.intro); exact ⟨⟨i + 1, by omega, by go_num, G, X, K⟩, rfl⟩)
                                case measure => simp [intOf]; omega
                          · obtain rfl : M.sp.length = i := by omega
                            have E := hide (EZ2.out (fun s hs r hr => by
                              obtain ⟨m, hm, e⟩ := sAt_mem2 hs
                              rw [← e] at hr
                              obtain ⟨q, hq, e2⟩ := List.mem_iff_getElem.1 hr
                              have := WG.out m hm q hq
                              rw [pAt_get hq, e2] at this
                              exact this))
                            go_wp2
                            go_ret
                            exact ⟨ret_int E.out.symm, K.out⟩
                  · rw [decide_eq_false hfm]
                    have E := hide (EFM.out hfm)
                    clear hfm
                    go_wp2
                    go_ret
                    exact ⟨ret_int E.out.symm, K.out⟩
end Go.Proofs.Ytoogdggiemacjaa.Cw
