import Derived.Test.YtiopfeleaifpbabR1
namespace Go.Proofs.Ytiopfeleaifpbab.Bd
open Go Go.RowKit
set_option linter.unusedVariables false
set_option maxRecDepth 100000 in
set_option maxHeartbeats 8000000 in
theorem rlist_any (p : Pm) (v : Nat → Value) (L : Fl) (w : World) (hp : par p) (hz : ZIn w p v L) : Calls Try.prog 42 #[.agg (znC p v)] w fun e w' => e = .returned (.int .i64 (listE p L)) ∧ Below w.heap.size w w' := by
  have X := hide (Box.new w 44 (znC p v))
  have K0 := hide (bal (brefl w) (.cells (znC p v) 44))
  have HZ := hide hz
  have HP := hide hp
  obtain ⟨res, hres⟩ : ∃ r, r = listE p L := ⟨_, rfl⟩
  rw [← hres]
  have HRes := hide hres
  clear hres hz hp
  obtain ⟨g, hg⟩ : ∃ g, g = w.heap.size := ⟨_, rfl⟩
  obtain ⟨W0, hW0⟩ : ∃ W0, W0 = (w.alloc (.cells (znC p v) 44)) := ⟨_, rfl⟩
  rw [← hg, ← hW0] at X
  rw [← hW0] at K0
  go_enter Try.func42, Try.ntmps42
  go_upto_region 1 with fail
  rw [← hg, ← hW0]
  clear hg hW0
  replace HZ := hide (HZ.out.below K0.out)
  go_wp2
  go_loopw [3] (fun a wr => ∃ k : Nat, k ≤ 5 ∧ a = .int .i64 k ∧ Hid (Box wr g 44 (znC p v)) ∧ Hid (Below W0.heap.size W0 wr) ∧ Hid (∀ j, j < k → eAt p L j = 0)) (fun a _ => 5 - (intOf a).toNat)
  case atStart => exact ⟨0, Nat.zero_le _, rfl, X, hide (brefl _), hide (fun j hj => absurd hj (Nat.not_lt_zero _))⟩
  case round =>
    clear X
    obtain ⟨k, hk, rfl, X, K, N⟩ := hrel
    by_cases h5 : k < 5
    · have hk5 : (k : Int) < 5 := by omega
      have hle : decide ((k : Int) ≤ 4) = true := decide_eq_true (by omega)
      have H5 := hide h5
      obtain ⟨A, c, ev, hcap, r⟩ := HZ.out.rd k h5
      have HV := hide ev
      have R := hide r
      have LN := hide (HZ.out.len k h5)
      have HW := hide (HZ.out.wf k h5)
      have HE := hide (show eAt p L k = lE p k (pvA (L k) 0) ((L k).drop 0) from rfl)
      have KW := hide K.out
      have XW := hide X.out
      clear ev r hcap K X
      obtain ⟨l, hl⟩ : ∃ l, l = L k := ⟨_, rfl⟩
      rw [← hl] at HV R LN HW HE
      clear hl
      go_wp2
      go_loopw [4] (fun a wr => ∃ i : Nat, i ≤ l.length ∧ a = .int .i64 i ∧ Hid (Box wr g 44 (znC p v)) ∧ Hid (Below W0.heap.size W0 wr) ∧ Hid (eAt p L k = lE p k (pvA l i) (l.drop i))) (fun a _ => l.length - (intOf a).toNat)
      case atStart => exact ⟨0, Nat.zero_le _, rfl, XW, KW, HE⟩
      case round =>
        clear XW KW HE
        obtain ⟨i, hi, rfl, X, K, E⟩ := hrel
        have s0 := box_list X.out H5.out
        rw [HV.out] at s0
        have hln := LN.out
        by_cases hlt : i < l.length
        · have hz := HW.out _ (getD_mem hlt)
          have BL := hide (fun w1 => rblock_in p v (l.getD i 0) k H5.out hz HP.out w1)
          have E1 := E.out
          rw [drop_at0 hlt, lE_cons] at E1
          have KD : Below wr.heap.size wr wr.drew := below_drewN (brefl _) 1
          obtain ⟨b, off, eA, hbl, c0, c1⟩ := R.out.cell2 K.out hlt
          subst eA
          replace X := hide (X.out.below KD)
          replace K := hide (btrans K.out KD)
          have CE := hide (show (fun W => Box W g 44 (znC p v) ∧ W.cell? ⟨g, 5 + k, none⟩ = some (.slice (some ⟨b, off, none⟩) l.length c) ∧ W.cell? ⟨b, off + i, none⟩ = some (.int .i64 (l.getD i 0))) wr.drew from ⟨X.out, s0, c0⟩)
          have C1 := hide (show wr.drew.cell? ⟨b, off + (i - 1), none⟩ = some (.int .i64 (l.getD (i - 1) 0)) from c1)
          clear KD c0 c1 X
          by_cases hb : blk p k (l.getD i 0)
          · rw [decide_eq_true hb] at BL
            rw [if_pos hb] at E1
            have hbd := blk_bd HP.out hb
            have HC := hide (show (i = 0 → eAt p L k = lE p k (pvA l (i + 1)) (l.drop (i + 1))) ∧ (i ≠ 0 → (l.getD i 0 ≤ l.getD (i - 1) 0 → eAt p L k = 10) ∧ (¬ l.getD i 0 ≤ l.getD (i - 1) 0 → eAt p L k = lE p k (pvA l (i + 1)) (l.drop (i + 1)))) by
              have e2 : pvA l (i + 1) = l.getD i 0 := by unfold pvA; rw [if_neg (by omega)]; rfl
              rw [e2]
              constructor
              · intro h0
                have e0 : pvA l i = -1 := by unfold pvA; rw [if_pos h0]
                rw [e0, if_neg (by omega)] at E1
                exact E1
              · intro h0
                have e0 : pvA l i = l.getD (i - 1) 0 := by unfold pvA; rw [if_neg h0]
                rw [e0] at E1
                constructor
                · intro h; rwa [if_pos h] at E1
                · intro h; rwa [if_neg h] at E1)
            clear E E1 hz hb hbd
            generalize l.getD i 0 = z at *
            generalize l.getD (i - 1) 0 = z0 at *
            obtain ⟨n, hn⟩ : ∃ n, n = l.length := ⟨_, rfl⟩
            rw [← hn] at CE s0
            have HN := hide hn
            rw [← hn] at hlt hi hln
            clear hn
            go_wp2
            refine wp_region_noPanic ?_
            refine wp_region_held_drew (S := (fun W => Box W g 44 (znC p v) ∧ W.cell? ⟨g, 5 + k, none⟩ = some (.slice (some ⟨b, off, none⟩) n c) ∧ W.cell? ⟨b, off + i, none⟩ = some (.int .i64 z))) (by kernel_rfl) ?_ (fun hHeld => ?_)
            · exact CE.out
            generalize wr.drew = w2 at *
            refine wpAnyH_take (i := 0) (oi := ⟨some 18, _, _, _, _, _⟩) (v := .agg (znC p v)) rfl (by kernel_rfl) (by kernel_rfl) (by kernel_rfl) (fun _ _ _ h => h) (Or.inl ⟨by kernel_rfl, ?_⟩) (by assumption) ?_
            · (intro w hSw; obtain ⟨y0, y1, y2, y3, y4, y5, y6, y7, y8, y9⟩ := box_all hSw.1; go_simp) <;> rfl
            (try simp only [Act.put, List.setIfInBounds_toArray, List.set_cons_succ, List.set_cons_zero])
            refine wpAnyH_take (i := 1) (oi := ⟨some 19, _, _, _, _, _⟩) (v := ?_) rfl (by kernel_rfl) (by kernel_rfl) (by kernel_rfl) (fun _ _ _ h => h) (Or.inl ⟨by kernel_rfl, ?_⟩) (by assumption) ?_
            rotate_left 1
            · (intro w hSw; (try dsimp only at hSw); go_simp) <;> (with_reducible rfl)
            (try simp only [Act.put, List.setIfInBounds_toArray, List.set_cons_succ, List.set_cons_zero])
            refine wpAnyH_take (i := 2) (oi := ⟨some 20, _, _, _, _, _⟩) (v := ?_) rfl (by kernel_rfl) (by kernel_rfl) (by kernel_rfl) (fun _ _ _ h => h) (Or.inl ⟨by kernel_rfl, ?_⟩) (by assumption) ?_
            rotate_left 1
            · (intro w hSw; (try dsimp only at hSw); go_simp) <;> (with_reducible rfl)
            (try simp only [Act.put, List.setIfInBounds_toArray, List.set_cons_succ, List.set_cons_zero])
            refine wpAnyH_take (i := 3) (oi := ⟨some 21, _, _, _, _, _⟩) (v := ?_) rfl (by kernel_rfl) (by kernel_rfl) (by kernel_rfl) (fun _ _ _ h => h) (Or.inl ⟨by kernel_rfl, ?_⟩) (by assumption) ?_
            rotate_left 1
            · (intro w hSw; (try dsimp only at hSw); go_simp) <;> (with_reducible rfl)
            (try simp only [Act.put, List.setIfInBounds_toArray, List.set_cons_succ, List.set_cons_zero])
            refine wpAnyH_take (i := 4) (oi := ⟨some 22, _, _, _, _, _⟩) (v := ?_) rfl (by kernel_rfl) (by kernel_rfl) (by kernel_rfl) (fun _ _ _ h => h) (Or.inl ⟨by kernel_rfl, ?_⟩) (by assumption) ?_
            rotate_left 1
            · (intro w hSw; (try dsimp only at hSw); go_simp) <;> (with_reducible rfl)
            (try simp only [Act.put, List.setIfInBounds_toArray, List.set_cons_succ, List.set_cons_zero])
            refine wpAnyH_take (i := 5) (oi := ⟨some 23, _, _, _, _, _⟩) (v := ?_) rfl (by kernel_rfl) (by kernel_rfl) (by kernel_rfl) (fun _ _ _ h => h) (Or.inl ⟨by kernel_rfl, ?_⟩) (by assumption) ?_
            rotate_left 1
            · (intro w hSw; (try dsimp only at hSw); go_simp) <;> (with_reducible rfl)
            (try simp only [Act.put, List.setIfInBounds_toArray, List.set_cons_succ, List.set_cons_zero])
            refine wpAnyH_take (i := 6) (oi := ⟨some 24, _, _, _, _, _⟩) (v := ?_) rfl (by kernel_rfl) (by kernel_rfl) (by kernel_rfl) (fun _ _ _ h => h) (Or.inl ⟨by kernel_rfl, ?_⟩) (by assumption) ?_
            rotate_left 1
            · (intro w hSw; (try dsimp only at hSw); go_simp) <;> (with_reducible rfl)
            (try simp only [Act.put, List.setIfInBounds_toArray, List.set_cons_succ, List.set_cons_zero])
            refine wpAnyH_take (i := 7) (oi := ⟨some 25, _, _, _, _, _⟩) (v := ?_) rfl (by kernel_rfl) (by kernel_rfl) (by kernel_rfl) (fun _ _ _ h => h) (Or.inl ⟨by kernel_rfl, ?_⟩) (by assumption) ?_
            rotate_left 1
            · (intro w hSw; (try dsimp only at hSw); go_simp) <;> (with_reducible rfl)
            (try simp only [Act.put, List.setIfInBounds_toArray, List.set_cons_succ, List.set_cons_zero])
            refine wpAnyH_take (i := 8) (oi := ⟨some 26, _, _, _, _, _⟩) (v := ?_) rfl (by kernel_rfl) (by kernel_rfl) (by kernel_rfl) (fun _ _ _ h => h) (Or.inl ⟨by kernel_rfl, ?_⟩) (by assumption) ?_
            rotate_left 1
            · (intro w hSw; (try dsimp only at hSw); go_simp) <;> (with_reducible rfl)
            (try simp only [Act.put, List.setIfInBounds_toArray, List.set_cons_succ, List.set_cons_zero])
            refine wpAnyH_ready (rs := [9]) (by kernel_rfl) (by simp) ?_
            refine AllReadyH.cons (o := _) rfl (fun K' hK => ?_) AllReadyH.nil
            go_simp
            refine (BL.out _).mono ?_
            rintro e w5 ⟨rfl, hb⟩
            replace CE := hide (show (fun W => Box W g 44 (znC p v) ∧ W.cell? ⟨g, 5 + k, none⟩ = some (.slice (some ⟨b, off, none⟩) n c) ∧ W.cell? ⟨b, off + i, none⟩ = some (.int .i64 z)) w5 from ⟨CE.out.1.below hb, (hb.cell (p := ⟨g, 5 + k, none⟩) CE.out.1.lt).trans CE.out.2.1, (hb.cell (p := ⟨b, off + i, none⟩) (Nat.lt_of_lt_of_le hbl K.out.size)).trans CE.out.2.2⟩)
            have KO := K
            replace K := hide (btrans K.out hb)
            refine hK.out _ _ ?_ (fun hHeld => ?_)
            · exact CE.out
            clear hK K'
            (try simp only [Act.put, List.setIfInBounds_toArray, List.set_cons_succ, List.set_cons_zero])
            refine wpAnyH_take (i := 10) (oi := ⟨some 28, _, _, _, _, _⟩) (v := ?_) rfl (by kernel_rfl) (by kernel_rfl) (by kernel_rfl) (fun _ _ _ h => h) (Or.inl ⟨by kernel_rfl, ?_⟩) (by assumption) ?_
            rotate_left 1
            · (intro w hSw; (try dsimp only at hSw); go_simp) <;> (with_reducible rfl)
            (try simp only [Act.put, List.setIfInBounds_toArray, List.set_cons_succ, List.set_cons_zero])
            refine wpAnyH_done (by kernel_rfl) ?_ _
            refine NoPanic.normal ?_
            have s5 := CE.out.2.1
            have c5 := CE.out.2.2
            have c6 := (hb.cell (p := ⟨b, off + (i - 1), none⟩) (Nat.lt_of_lt_of_le hbl KO.out.size)).trans C1.out
            clear s0 C1 BL hb
            by_cases h0 : i = 0
            · have EN := hide (HC.out.1 h0)
              have d0 : decide (0 < i) = false := decide_eq_false (by omega)
              clear HC c6
              go_wp2
              go_quiet (fail)
              go_wp2
              go_roundw
              case rel => first | exact ⟨i + 1, by have := HN.out; omega, by go_num, hide (CE.out.1.below (below_drewN (brefl _) _)), hide (below_drewN K.out _), EN⟩ | ((repeat apply Exists.intro); exact ⟨⟨i + 1, by have := HN.out; omega, by go_num, hide (CE.out.1.below (below_drewN (brefl _) _)), hide (below_drewN K.out _), EN⟩, rfl⟩)
              case measure => simp [intOf]; have := HN.out; omega
            · have hpos : 0 < i := by omega
              have d0 : decide (0 < i) = true := decide_eq_true hpos
              by_cases hzz : z ≤ z0
              · have E10 := (HC.out.2 h0).1 hzz
                have E := hide (show res = 10 by rw [HRes.out, listE_at H5.out N.out (by rw [E10]; decide), E10])
                clear HC E10
                go_wp2
                go_quiet (fail)
                go_wp2
                go_ret
                exact ⟨ret_int E.out.symm, btrans K0.out (below_drewN K.out _)⟩
              · have EN := hide ((HC.out.2 h0).2 (by omega))
                clear HC
                go_wp2
                go_quiet (fail)
                go_wp2
                go_roundw
                case rel => first | exact ⟨i + 1, by have := HN.out; omega, by go_num, hide (CE.out.1.below (below_drewN (brefl _) _)), hide (below_drewN K.out _), EN⟩ | ((repeat apply Exists.intro); exact ⟨⟨i + 1, by have := HN.out; omega, by go_num, hide (CE.out.1.below (below_drewN (brefl _) _)), hide (below_drewN K.out _), EN⟩, rfl⟩)
                case measure => simp [intOf]; have := HN.out; omega
          · rw [decide_eq_false hb] at BL
            rw [if_neg hb] at E1
            have E := hide (show res = 3 by rw [HRes.out, listE_at H5.out N.out (by rw [E1]; decide), E1])
            clear E1 hz hb C1
            generalize l.getD i 0 = z at *
            obtain ⟨n, hn⟩ : ∃ n, n = l.length := ⟨_, rfl⟩
            rw [← hn] at CE s0
            rw [← hn] at hlt hi hln
            clear hn
            go_wp2
            refine wp_region_noPanic ?_
            refine wp_region_held_drew (S := (fun W => Box W g 44 (znC p v) ∧ W.cell? ⟨g, 5 + k, none⟩ = some (.slice (some ⟨b, off, none⟩) n c) ∧ W.cell? ⟨b, off + i, none⟩ = some (.int .i64 z))) (by kernel_rfl) ?_ (fun hHeld => ?_)
            · exact CE.out
            generalize wr.drew = w2 at *
            refine wpAnyH_take (i := 0) (oi := ⟨some 18, _, _, _, _, _⟩) (v := .agg (znC p v)) rfl (by kernel_rfl) (by kernel_rfl) (by kernel_rfl) (fun _ _ _ h => h) (Or.inl ⟨by kernel_rfl, ?_⟩) (by assumption) ?_
            · (intro w hSw; obtain ⟨y0, y1, y2, y3, y4, y5, y6, y7, y8, y9⟩ := box_all hSw.1; go_simp) <;> rfl
            (try simp only [Act.put, List.setIfInBounds_toArray, List.set_cons_succ, List.set_cons_zero])
            refine wpAnyH_take (i := 1) (oi := ⟨some 19, _, _, _, _, _⟩) (v := ?_) rfl (by kernel_rfl) (by kernel_rfl) (by kernel_rfl) (fun _ _ _ h => h) (Or.inl ⟨by kernel_rfl, ?_⟩) (by assumption) ?_
            rotate_left 1
            · (intro w hSw; (try dsimp only at hSw); go_simp) <;> (with_reducible rfl)
            (try simp only [Act.put, List.setIfInBounds_toArray, List.set_cons_succ, List.set_cons_zero])
            refine wpAnyH_take (i := 2) (oi := ⟨some 20, _, _, _, _, _⟩) (v := ?_) rfl (by kernel_rfl) (by kernel_rfl) (by kernel_rfl) (fun _ _ _ h => h) (Or.inl ⟨by kernel_rfl, ?_⟩) (by assumption) ?_
            rotate_left 1
            · (intro w hSw; (try dsimp only at hSw); go_simp) <;> (with_reducible rfl)
            (try simp only [Act.put, List.setIfInBounds_toArray, List.set_cons_succ, List.set_cons_zero])
            refine wpAnyH_take (i := 3) (oi := ⟨some 21, _, _, _, _, _⟩) (v := ?_) rfl (by kernel_rfl) (by kernel_rfl) (by kernel_rfl) (fun _ _ _ h => h) (Or.inl ⟨by kernel_rfl, ?_⟩) (by assumption) ?_
            rotate_left 1
            · (intro w hSw; (try dsimp only at hSw); go_simp) <;> (with_reducible rfl)
            (try simp only [Act.put, List.setIfInBounds_toArray, List.set_cons_succ, List.set_cons_zero])
            refine wpAnyH_take (i := 4) (oi := ⟨some 22, _, _, _, _, _⟩) (v := ?_) rfl (by kernel_rfl) (by kernel_rfl) (by kernel_rfl) (fun _ _ _ h => h) (Or.inl ⟨by kernel_rfl, ?_⟩) (by assumption) ?_
            rotate_left 1
            · (intro w hSw; (try dsimp only at hSw); go_simp) <;> (with_reducible rfl)
            (try simp only [Act.put, List.setIfInBounds_toArray, List.set_cons_succ, List.set_cons_zero])
            refine wpAnyH_take (i := 5) (oi := ⟨some 23, _, _, _, _, _⟩) (v := ?_) rfl (by kernel_rfl) (by kernel_rfl) (by kernel_rfl) (fun _ _ _ h => h) (Or.inl ⟨by kernel_rfl, ?_⟩) (by assumption) ?_
            rotate_left 1
            · (intro w hSw; (try dsimp only at hSw); go_simp) <;> (with_reducible rfl)
            (try simp only [Act.put, List.setIfInBounds_toArray, List.set_cons_succ, List.set_cons_zero])
            refine wpAnyH_take (i := 6) (oi := ⟨some 24, _, _, _, _, _⟩) (v := ?_) rfl (by kernel_rfl) (by kernel_rfl) (by kernel_rfl) (fun _ _ _ h => h) (Or.inl ⟨by kernel_rfl, ?_⟩) (by assumption) ?_
            rotate_left 1
            · (intro w hSw; (try dsimp only at hSw); go_simp) <;> (with_reducible rfl)
            (try simp only [Act.put, List.setIfInBounds_toArray, List.set_cons_succ, List.set_cons_zero])
            refine wpAnyH_take (i := 7) (oi := ⟨some 25, _, _, _, _, _⟩) (v := ?_) rfl (by kernel_rfl) (by kernel_rfl) (by kernel_rfl) (fun _ _ _ h => h) (Or.inl ⟨by kernel_rfl, ?_⟩) (by assumption) ?_
            rotate_left 1
            · (intro w hSw; (try dsimp only at hSw); go_simp) <;> (with_reducible rfl)
            (try simp only [Act.put, List.setIfInBounds_toArray, List.set_cons_succ, List.set_cons_zero])
            refine wpAnyH_take (i := 8) (oi := ⟨some 26, _, _, _, _, _⟩) (v := ?_) rfl (by kernel_rfl) (by kernel_rfl) (by kernel_rfl) (fun _ _ _ h => h) (Or.inl ⟨by kernel_rfl, ?_⟩) (by assumption) ?_
            rotate_left 1
            · (intro w hSw; (try dsimp only at hSw); go_simp) <;> (with_reducible rfl)
            (try simp only [Act.put, List.setIfInBounds_toArray, List.set_cons_succ, List.set_cons_zero])
            refine wpAnyH_ready (rs := [9]) (by kernel_rfl) (by simp) ?_
            refine AllReadyH.cons (o := _) rfl (fun K' hK => ?_) AllReadyH.nil
            go_simp
            refine (BL.out _).mono ?_
            rintro e w5 ⟨rfl, hb⟩
            replace CE := hide (show (fun W => Box W g 44 (znC p v) ∧ W.cell? ⟨g, 5 + k, none⟩ = some (.slice (some ⟨b, off, none⟩) n c) ∧ W.cell? ⟨b, off + i, none⟩ = some (.int .i64 z)) w5 from ⟨CE.out.1.below hb, (hb.cell (p := ⟨g, 5 + k, none⟩) CE.out.1.lt).trans CE.out.2.1, (hb.cell (p := ⟨b, off + i, none⟩) (Nat.lt_of_lt_of_le hbl K.out.size)).trans CE.out.2.2⟩)
            have KO := K
            replace K := hide (btrans K.out hb)
            refine hK.out _ _ ?_ (fun hHeld => ?_)
            · exact CE.out
            clear hK K'
            (try simp only [Act.put, List.setIfInBounds_toArray, List.set_cons_succ, List.set_cons_zero])
            refine wpAnyH_take (i := 10) (oi := ⟨some 28, _, _, _, _, _⟩) (v := ?_) rfl (by kernel_rfl) (by kernel_rfl) (by kernel_rfl) (fun _ _ _ h => h) (Or.inl ⟨by kernel_rfl, ?_⟩) (by assumption) ?_
            rotate_left 1
            · (intro w hSw; (try dsimp only at hSw); go_simp) <;> (with_reducible rfl)
            (try simp only [Act.put, List.setIfInBounds_toArray, List.set_cons_succ, List.set_cons_zero])
            refine wpAnyH_done (by kernel_rfl) ?_ _
            refine NoPanic.normal ?_
            clear s0 BL hb
            go_wp2
            go_ret
            exact ⟨ret_int E.out.symm, btrans K0.out K.out⟩
        · obtain rfl : i = l.length := by omega
          have E1 := E.out
          rw [List.drop_length, lE_nil] at E1
          have N2 := hide (show ∀ j, j < k + 1 → eAt p L j = 0 from fun j hj => by
            by_cases e : j = k
            · rw [e]; exact E1
            · exact N.out j (by omega))
          clear E E1 N
          go_wp2
          go_roundw
          case rel => exact ⟨k + 1, by have := H5.out; omega, by go_num, X, K, N2⟩
          case measure => simp [intOf]; omega
    · obtain rfl : k = 5 := by omega
      have E := hide (show res = 0 by rw [HRes.out]; exact listE_all N.out)
      go_wp2
      go_ret
      exact ⟨ret_int E.out.symm, btrans K0.out K.out⟩
end Go.Proofs.Ytiopfeleaifpbab.Bd
