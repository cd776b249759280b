import Derived.Test.YtioffnpnoohbiaaF2
namespace Go.Proofs.Ytioffnpnoohbiaa.Rm
open Go Go.RowKit
set_option linter.unusedVariables false
set_option linter.unusedSimpArgs false
set_option maxRecDepth 100000 in
set_option maxHeartbeats 8000000 in
theorem check_any (A : Option Addr) (cp : Nat) (L : List Mp) (w : World) (hr : Ms w A L) (hn : L.length ≤ 1000000) : Calls Try.prog 15 #[.slice A L.length cp] w fun e w' => e = .returned (.int .i64 (ck L)) ∧ Below w.heap.size w w' := by
  have HR := hide hr
  have K := hide (brefl w)
  have E2 := hide (fun (h : ¬ aok L) => ck_2 h)
  have E10 := hide (fun (h : aok L) (h2 : ¬ Srt L) => ck_10 h h2)
  have E0 := hide (fun (h : aok L) (h2 : Srt L) => ck_0 h h2)
  obtain ⟨ce, hce⟩ : ∃ c, c = ck L := ⟨_, rfl⟩
  rw [← hce] at E2 E10 E0 ⊢
  clear hr hce
  go_enter Try.func15, Try.ntmps15
  go_wp2
  go_loopw [4, 8] (fun _ c wr => ∃ k : Nat, k ≤ L.length ∧ c = .int .i64 k ∧ Hid (Below w.heap.size w wr) ∧ Hid (∀ j, j < k → vM (at' L j))) (fun _ c _ => L.length - (intOf c).toNat)
  case atStart => exact ⟨0, Nat.zero_le _, rfl, K, hide (fun j h => by omega)⟩
  case round =>
    clear K
    obtain ⟨k, hk, rfl, K, N⟩ := hrel
    by_cases hlt : k < L.length
    · have hl2 : (k : Int) < (L.length : Int) := by omega
      have hk0 : (0 : Int) ≤ (k : Int) := by omega
      obtain ⟨b, off, rfl, hbl, y0, y1⟩ := HR.out.cells K.out hlt
      have NX := hide (fun (h : vM (at' L k)) j (hj : j < k + 1) => (if e : j = k then e ▸ h else N.out j (by omega) : vM (at' L j)))
      have BD := hide (fun (h : ¬ vM (at' L k)) => E2.out (fun g => h (g _ (at_mem hlt))))
      obtain ⟨a, ha⟩ : ∃ a, a = at' L k := ⟨_, rfl⟩
      rw [← ha] at y0 y1 NX BD
      clear ha
      obtain ⟨s, p⟩ := a
      dsimp only at y0 y1
      have C := hide (fun w => val_any s p w)
      replace K := hide (btrans K.out (bal (brefl wr) (.cells #[.int .i64 s, .int .i64 p] 26)))
      by_cases hq : vM ⟨s, p⟩
      · rw [decide_eq_true hq] at C
        have G := hide (NX.out hq)
        clear hq NX BD
        go_wp2_with fail
        refine (C.out _).mono ?_
        rintro e w2 ⟨rfl, hb⟩
        replace K := hide (btrans K.out hb)
        clear hb
        clear y0 y1
        go_wp2
        go_roundw
        case rel => exact ⟨k + 1, by omega, by go_num, K, G⟩
        case measure => simp [intOf]; omega
      · rw [decide_eq_false hq] at C
        have G := hide (BD.out hq)
        clear hq NX BD
        go_wp2_with fail
        refine (C.out _).mono ?_
        rintro e w2 ⟨rfl, hb⟩
        replace K := hide (btrans K.out hb)
        clear hb
        clear y0 y1
        go_wp2
        go_ret
        exact ⟨ret_int G.out.symm, K.out⟩
    · obtain rfl : k = L.length := by omega
      have OK := hide (aok_at N.out)
      clear N E2 hk hlt
      go_wp2
      go_loopw [5] (fun c wr => ∃ j : Nat, j ≤ L.length ∧ c = .int .i64 ((j : Int) + 1) ∧ Hid (Below w.heap.size w wr) ∧ Hid (∀ i, 1 ≤ i → i < j + 1 → i < L.length → ltM (at' L (i - 1)) (at' L i))) (fun c _ => L.length + 1 - (intOf c).toNat)
      case atStart => exact ⟨0, Nat.zero_le _, rfl, K, hide (fun i h1 h2 => by omega)⟩
      case round =>
        clear K
        obtain ⟨j, hj, rfl, K, N⟩ := hrel
        by_cases hlt : j + 1 < L.length
        · have hl2 : (j : Int) + 1 < (L.length : Int) := by omega
          have hl3 : (j : Int) < (L.length : Int) := by omega
          have hk0 : (0 : Int) ≤ (j : Int) := by omega
          have hk1 : (0 : Int) ≤ (j : Int) + 1 := by omega
          have htn : ((j : Int) + 1).toNat = j + 1 := by omega
          have hj1 : j < L.length := by omega
          have hwj : IntKind.i64.wrap (j : Int) = (j : Int) := by rw [IntKind.wrap_i64]; omega
          obtain ⟨b, off, rfl, hbl, y0, y1⟩ := HR.out.cells K.out hlt
          obtain ⟨z0, z1⟩ := (HR.out.below K.out).at hj1
          have FX := hide (fun w' (h : Below w.heap.size w w') => And.intro ((HR.out.below h).at hj1) ((HR.out.below h).at hlt))
          have NX := hide (fun (h : ltM (at' L j) (at' L (j + 1))) i (h1 : 1 ≤ i) (h2 : i < j + 1 + 1) (h3 : i < L.length) => (if e : i = j + 1 then by rw [e]; exact h else N.out i h1 (by omega) h3 : ltM (at' L (i - 1)) (at' L i)))
          have BD := hide (fun (h : ¬ ltM (at' L j) (at' L (j + 1))) => E10.out OK.out (fun g => h (srt_lt g (Nat.lt_succ_self _) hlt)))
          obtain ⟨a, ha⟩ : ∃ a, a = at' L j := ⟨_, rfl⟩
          obtain ⟨d, hd⟩ : ∃ a, a = at' L (j + 1) := ⟨_, rfl⟩
          rw [← ha] at z0 z1 NX BD FX
          rw [← hd] at y0 y1 NX BD FX
          clear ha hd
          obtain ⟨s, p⟩ := a
          obtain ⟨t, q⟩ := d
          dsimp only at y0 y1 z0 z1 FX
          have C := hide (fun w => cmpr_any s p t q w)
          by_cases hq : ltM ⟨s, p⟩ ⟨t, q⟩
          · have hc := cmM_neg.2 hq
            generalize cmM ⟨s, p⟩ ⟨t, q⟩ = r at *
            have hr0 : ¬ 0 ≤ r := by omega
            have G := hide (NX.out hq)
            clear hq NX BD
            go_upto_region 10 with fail
            replace K := hide (show Below w.heap.size w wr.drew from btrans K.out (below_drewN (brefl _) 1))
            refine wp_region_noPanic ?_
            refine wp_region_held_drew (S := (fun W => (W.cell? ⟨b, off + j * 2, none⟩ = some (.int .i64 s) ∧ W.cell? ⟨b, off + j * 2 + 1, none⟩ = some (.int .i64 p)) ∧ W.cell? ⟨b, off + (j + 1) * 2, none⟩ = some (.int .i64 t) ∧ W.cell? ⟨b, off + (j + 1) * 2 + 1, none⟩ = some (.int .i64 q))) (by kernel_rfl) ?_ (fun hHeld => ?_)
            · exact FX.out _ K.out
            generalize wr.drew = wd at *
            refine wpAnyH_take (i := 0) (oi := ⟨some 22, _, _, _, _, _⟩) (v := ?_) rfl (by kernel_rfl) (by kernel_rfl) (by kernel_rfl) (fun _ _ _ h => h) (Or.inl ⟨by kernel_rfl, ?_⟩) (by assumption) ?_
            rotate_left 1
            · (intro w hSw; (try dsimp only at hSw); go_simp) <;> (with_reducible rfl)
            (try simp only [Act.put, List.setIfInBounds_toArray, List.set_cons_succ, List.set_cons_zero])
            refine wpAnyH_take (i := 1) (oi := ⟨some 23, _, _, _, _, _⟩) (v := ?_) rfl (by kernel_rfl) (by kernel_rfl) (by kernel_rfl) (fun _ _ _ h => h) (Or.inl ⟨by kernel_rfl, ?_⟩) (by assumption) ?_
            rotate_left 1
            · (intro w hSw; (try dsimp only at hSw); go_simp) <;> (with_reducible rfl)
            (try simp only [Act.put, List.setIfInBounds_toArray, List.set_cons_succ, List.set_cons_zero])
            refine wpAnyH_take (i := 2) (oi := ⟨some 24, _, _, _, _, _⟩) (v := ?_) rfl (by kernel_rfl) (by kernel_rfl) (by kernel_rfl) (fun _ _ _ h => h) (Or.inl ⟨by kernel_rfl, ?_⟩) (by assumption) ?_
            rotate_left 1
            · (intro w hSw; (try dsimp only at hSw); go_simp) <;> (with_reducible rfl)
            (try simp only [Act.put, List.setIfInBounds_toArray, List.set_cons_succ, List.set_cons_zero])
            refine wpAnyH_take (i := 3) (oi := ⟨some 25, _, _, _, _, _⟩) (v := ?_) rfl (by kernel_rfl) (by kernel_rfl) (by kernel_rfl) (fun _ _ _ h => h) (Or.inl ⟨by kernel_rfl, ?_⟩) (by assumption) ?_
            rotate_left 1
            · (intro w hSw; (try dsimp only at hSw); go_simp) <;> (with_reducible rfl)
            (try simp only [Act.put, List.setIfInBounds_toArray, List.set_cons_succ, List.set_cons_zero])
            refine wpAnyH_take (i := 4) (oi := ⟨some 26, _, _, _, _, _⟩) (v := ?_) rfl (by kernel_rfl) (by kernel_rfl) (by kernel_rfl) (fun _ _ _ h => h) (Or.inl ⟨by kernel_rfl, ?_⟩) (by assumption) ?_
            rotate_left 1
            · (intro w hSw; (try dsimp only at hSw); go_simp) <;> (with_reducible rfl)
            (try simp only [Act.put, List.setIfInBounds_toArray, List.set_cons_succ, List.set_cons_zero])
            refine wpAnyH_take (i := 5) (oi := ⟨some 27, _, _, _, _, _⟩) (v := ?_) rfl (by kernel_rfl) (by kernel_rfl) (by kernel_rfl) (fun _ _ _ h => h) (Or.inl ⟨by kernel_rfl, ?_⟩) (by assumption) ?_
            rotate_left 1
            · (intro w hSw; (try dsimp only at hSw); go_simp) <;> (with_reducible rfl)
            (try simp only [Act.put, List.setIfInBounds_toArray, List.set_cons_succ, List.set_cons_zero])
            refine wpAnyH_take (i := 6) (oi := ⟨some 28, _, _, _, _, _⟩) (v := ?_) rfl (by kernel_rfl) (by kernel_rfl) (by kernel_rfl) (fun _ _ _ h => h) (Or.inl ⟨by kernel_rfl, ?_⟩) (by assumption) ?_
            rotate_left 1
            · (intro w hSw; (try dsimp only at hSw); go_simp) <;> (with_reducible rfl)
            (try simp only [Act.put, List.setIfInBounds_toArray, List.set_cons_succ, List.set_cons_zero])
            refine wpAnyH_take (i := 7) (oi := ⟨some 29, _, _, _, _, _⟩) (v := ?_) rfl (by kernel_rfl) (by kernel_rfl) (by kernel_rfl) (fun _ _ _ h => h) (Or.inl ⟨by kernel_rfl, ?_⟩) (by assumption) ?_
            rotate_left 1
            · (intro w hSw; (try dsimp only at hSw); go_simp) <;> (with_reducible rfl)
            (try simp only [Act.put, List.setIfInBounds_toArray, List.set_cons_succ, List.set_cons_zero])
            refine wpAnyH_take (i := 8) (oi := ⟨some 30, _, _, _, _, _⟩) (v := ?_) rfl (by kernel_rfl) (by kernel_rfl) (by kernel_rfl) (fun _ _ _ h => h) (Or.inl ⟨by kernel_rfl, ?_⟩) (by assumption) ?_
            rotate_left 1
            · (intro w hSw; (try dsimp only at hSw); go_simp) <;> (with_reducible rfl)
            (try simp only [Act.put, List.setIfInBounds_toArray, List.set_cons_succ, List.set_cons_zero])
            refine wpAnyH_ready (rs := [9]) (by kernel_rfl) (by simp) ?_
            refine AllReadyH.cons (o := ⟨some 31, _, _, _, _, _⟩) rfl (fun K' hK => ?_) AllReadyH.nil
            go_simp
            refine (C.out _).mono ?_
            rintro e w2 ⟨rfl, hb⟩
            replace K := hide (btrans K.out hb)
            clear hb
            refine hK.out _ _ ?_ (fun hHeld => ?_)
            · exact FX.out _ K.out
            clear hK K'
            (try simp only [Act.put, List.setIfInBounds_toArray, List.set_cons_succ, List.set_cons_zero])
            refine wpAnyH_take (i := 10) (oi := ⟨some 32, _, _, _, _, _⟩) (v := ?_) rfl (by kernel_rfl) (by kernel_rfl) (by kernel_rfl) (fun _ _ _ h => h) (Or.inl ⟨by kernel_rfl, ?_⟩) (by assumption) ?_
            rotate_left 1
            · (intro w hSw; (try dsimp only at hSw); go_simp) <;> (with_reducible rfl)
            (try simp only [Act.put, List.setIfInBounds_toArray, List.set_cons_succ, List.set_cons_zero])
            refine wpAnyH_done (by kernel_rfl) ?_ _
            refine NoPanic.normal ?_
            clear y0 y1 z0 z1
            go_wp2
            go_roundw
            case rel => exact ⟨j + 1, by omega, by go_num, K, G⟩
            case measure => simp [intOf]; omega
          · have hc := cmM_ge.2 hq
            generalize cmM ⟨s, p⟩ ⟨t, q⟩ = r at *
            have G := hide (BD.out hq)
            clear hq NX BD
            go_upto_region 10 with fail
            replace K := hide (show Below w.heap.size w wr.drew from btrans K.out (below_drewN (brefl _) 1))
            refine wp_region_noPanic ?_
            refine wp_region_held_drew (S := (fun W => (W.cell? ⟨b, off + j * 2, none⟩ = some (.int .i64 s) ∧ W.cell? ⟨b, off + j * 2 + 1, none⟩ = some (.int .i64 p)) ∧ W.cell? ⟨b, off + (j + 1) * 2, none⟩ = some (.int .i64 t) ∧ W.cell? ⟨b, off + (j + 1) * 2 + 1, none⟩ = some (.int .i64 q))) (by kernel_rfl) ?_ (fun hHeld => ?_)
            · exact FX.out _ K.out
            generalize wr.drew = wd at *
            refine wpAnyH_take (i := 0) (oi := ⟨some 22, _, _, _, _, _⟩) (v := ?_) rfl (by kernel_rfl) (by kernel_rfl) (by kernel_rfl) (fun _ _ _ h => h) (Or.inl ⟨by kernel_rfl, ?_⟩) (by assumption) ?_
            rotate_left 1
            · (intro w hSw; (try dsimp only at hSw); go_simp) <;> (with_reducible rfl)
            (try simp only [Act.put, List.setIfInBounds_toArray, List.set_cons_succ, List.set_cons_zero])
            refine wpAnyH_take (i := 1) (oi := ⟨some 23, _, _, _, _, _⟩) (v := ?_) rfl (by kernel_rfl) (by kernel_rfl) (by kernel_rfl) (fun _ _ _ h => h) (Or.inl ⟨by kernel_rfl, ?_⟩) (by assumption) ?_
            rotate_left 1
            · (intro w hSw; (try dsimp only at hSw); go_simp) <;> (with_reducible rfl)
            (try simp only [Act.put, List.setIfInBounds_toArray, List.set_cons_succ, List.set_cons_zero])
            refine wpAnyH_take (i := 2) (oi := ⟨some 24, _, _, _, _, _⟩) (v := ?_) rfl (by kernel_rfl) (by kernel_rfl) (by kernel_rfl) (fun _ _ _ h => h) (Or.inl ⟨by kernel_rfl, ?_⟩) (by assumption) ?_
            rotate_left 1
            · (intro w hSw; (try dsimp only at hSw); go_simp) <;> (with_reducible rfl)
            (try simp only [Act.put, List.setIfInBounds_toArray, List.set_cons_succ, List.set_cons_zero])
            refine wpAnyH_take (i := 3) (oi := ⟨some 25, _, _, _, _, _⟩) (v := ?_) rfl (by kernel_rfl) (by kernel_rfl) (by kernel_rfl) (fun _ _ _ h => h) (Or.inl ⟨by kernel_rfl, ?_⟩) (by assumption) ?_
            rotate_left 1
            · (intro w hSw; (try dsimp only at hSw); go_simp) <;> (with_reducible rfl)
            (try simp only [Act.put, List.setIfInBounds_toArray, List.set_cons_succ, List.set_cons_zero])
            refine wpAnyH_take (i := 4) (oi := ⟨some 26, _, _, _, _, _⟩) (v := ?_) rfl (by kernel_rfl) (by kernel_rfl) (by kernel_rfl) (fun _ _ _ h => h) (Or.inl ⟨by kernel_rfl, ?_⟩) (by assumption) ?_
            rotate_left 1
            · (intro w hSw; (try dsimp only at hSw); go_simp) <;> (with_reducible rfl)
            (try simp only [Act.put, List.setIfInBounds_toArray, List.set_cons_succ, List.set_cons_zero])
            refine wpAnyH_take (i := 5) (oi := ⟨some 27, _, _, _, _, _⟩) (v := ?_) rfl (by kernel_rfl) (by kernel_rfl) (by kernel_rfl) (fun _ _ _ h => h) (Or.inl ⟨by kernel_rfl, ?_⟩) (by assumption) ?_
            rotate_left 1
            · (intro w hSw; (try dsimp only at hSw); go_simp) <;> (with_reducible rfl)
            (try simp only [Act.put, List.setIfInBounds_toArray, List.set_cons_succ, List.set_cons_zero])
            refine wpAnyH_take (i := 6) (oi := ⟨some 28, _, _, _, _, _⟩) (v := ?_) rfl (by kernel_rfl) (by kernel_rfl) (by kernel_rfl) (fun _ _ _ h => h) (Or.inl ⟨by kernel_rfl, ?_⟩) (by assumption) ?_
            rotate_left 1
            · (intro w hSw; (try dsimp only at hSw); go_simp) <;> (with_reducible rfl)
            (try simp only [Act.put, List.setIfInBounds_toArray, List.set_cons_succ, List.set_cons_zero])
            refine wpAnyH_take (i := 7) (oi := ⟨some 29, _, _, _, _, _⟩) (v := ?_) rfl (by kernel_rfl) (by kernel_rfl) (by kernel_rfl) (fun _ _ _ h => h) (Or.inl ⟨by kernel_rfl, ?_⟩) (by assumption) ?_
            rotate_left 1
            · (intro w hSw; (try dsimp only at hSw); go_simp) <;> (with_reducible rfl)
            (try simp only [Act.put, List.setIfInBounds_toArray, List.set_cons_succ, List.set_cons_zero])
            refine wpAnyH_take (i := 8) (oi := ⟨some 30, _, _, _, _, _⟩) (v := ?_) rfl (by kernel_rfl) (by kernel_rfl) (by kernel_rfl) (fun _ _ _ h => h) (Or.inl ⟨by kernel_rfl, ?_⟩) (by assumption) ?_
            rotate_left 1
            · (intro w hSw; (try dsimp only at hSw); go_simp) <;> (with_reducible rfl)
            (try simp only [Act.put, List.setIfInBounds_toArray, List.set_cons_succ, List.set_cons_zero])
            refine wpAnyH_ready (rs := [9]) (by kernel_rfl) (by simp) ?_
            refine AllReadyH.cons (o := ⟨some 31, _, _, _, _, _⟩) rfl (fun K' hK => ?_) AllReadyH.nil
            go_simp
            refine (C.out _).mono ?_
            rintro e w2 ⟨rfl, hb⟩
            replace K := hide (btrans K.out hb)
            clear hb
            refine hK.out _ _ ?_ (fun hHeld => ?_)
            · exact FX.out _ K.out
            clear hK K'
            (try simp only [Act.put, List.setIfInBounds_toArray, List.set_cons_succ, List.set_cons_zero])
            refine wpAnyH_take (i := 10) (oi := ⟨some 32, _, _, _, _, _⟩) (v := ?_) rfl (by kernel_rfl) (by kernel_rfl) (by kernel_rfl) (fun _ _ _ h => h) (Or.inl ⟨by kernel_rfl, ?_⟩) (by assumption) ?_
            rotate_left 1
            · (intro w hSw; (try dsimp only at hSw); go_simp) <;> (with_reducible rfl)
            (try simp only [Act.put, List.setIfInBounds_toArray, List.set_cons_succ, List.set_cons_zero])
            refine wpAnyH_done (by kernel_rfl) ?_ _
            refine NoPanic.normal ?_
            clear y0 y1 z0 z1
            go_wp2
            go_ret
            exact ⟨ret_int G.out.symm, K.out⟩
        · have hlt2 : ¬ ((j : Int) + 1 < (L.length : Int)) := by omega
          have OS := hide (E0.out OK.out (srt_at fun i h1 h2 => N.out i h1 (by omega) h2))
          clear N
          go_wp2
          go_ret
          exact ⟨ret_int OS.out.symm, K.out⟩
set_option maxRecDepth 100000 in
set_option maxHeartbeats 8000000 in
theorem rcheck_any (A : Option Addr) (cp : Nat) (L : List Mp) (w : World) (hr : Ms w A L) (hn : L.length ≤ 1000000) : Calls Try.prog 14 #[.slice A L.length cp] w fun e w' => e = .returned (.int .i64 (ck L)) ∧ Below w.heap.size w w' := by
  have HR := hide hr
  have K := hide (brefl w)
  have E2 := hide (fun (h : ¬ aok L) => ck_2 h)
  have E10 := hide (fun (h : aok L) (h2 : ¬ Srt L) => ck_10 h h2)
  have E0 := hide (fun (h : aok L) (h2 : Srt L) => ck_0 h h2)
  obtain ⟨ce, hce⟩ : ∃ c, c = ck L := ⟨_, rfl⟩
  rw [← hce] at E2 E10 E0 ⊢
  clear hr hce
  go_enter Try.func14, Try.ntmps14
  go_wp2
  go_loopw [3] (fun c wr => ∃ k : Nat, k ≤ L.length ∧ c = .int .i64 k ∧ Hid (Below w.heap.size w wr) ∧ Hid (∀ j, j < k → vM (at' L j))) (fun c _ => L.length - (intOf c).toNat)
  case atStart => exact ⟨0, Nat.zero_le _, rfl, K, hide (fun j h => by omega)⟩
  case round =>
    clear K
    obtain ⟨k, hk, rfl, K, N⟩ := hrel
    by_cases hlt : k < L.length
    · have hl2 : (k : Int) < (L.length : Int) := by omega
      have hk0 : (0 : Int) ≤ (k : Int) := by omega
      obtain ⟨b, off, rfl, hbl, y0, y1⟩ := HR.out.cells K.out hlt
      have NX := hide (fun (h : vM (at' L k)) j (hj : j < k + 1) => (if e : j = k then e ▸ h else N.out j (by omega) : vM (at' L j)))
      have BD := hide (fun (h : ¬ vM (at' L k)) => E2.out (fun g => h (g _ (at_mem hlt))))
      obtain ⟨a, ha⟩ : ∃ a, a = at' L k := ⟨_, rfl⟩
      rw [← ha] at y0 y1 NX BD
      clear ha
      obtain ⟨s, p⟩ := a
      dsimp only at y0 y1
      have C := hide (fun w => rval_any s p w)
      by_cases hq : vM ⟨s, p⟩
      · rw [decide_eq_true hq] at C
        have G := hide (NX.out hq)
        clear hq NX BD
        go_wp2_with fail
        refine (C.out _).mono ?_
        rintro e w2 ⟨rfl, hb⟩
        replace K := hide (btrans K.out hb)
        clear hb
        clear y0 y1
        go_wp2
        go_roundw
        case rel => exact ⟨k + 1, by omega, by go_num, K, G⟩
        case measure => simp [intOf]; omega
      · rw [decide_eq_false hq] at C
        have G := hide (BD.out hq)
        clear hq NX BD
        go_wp2_with fail
        refine (C.out _).mono ?_
        rintro e w2 ⟨rfl, hb⟩
        replace K := hide (btrans K.out hb)
        clear hb
        clear y0 y1
        go_wp2
        go_ret
        exact ⟨ret_int G.out.symm, K.out⟩
    · obtain rfl : k = L.length := by omega
      have OK := hide (aok_at N.out)
      clear N E2 hk hlt
      go_wp2
      go_loopw [4] (fun c wr => ∃ j : Nat, j ≤ L.length ∧ c = .int .i64 ((j : Int) + 1) ∧ Hid (Below w.heap.size w wr) ∧ Hid (∀ i, 1 ≤ i → i < j + 1 → i < L.length → ltM (at' L (i - 1)) (at' L i))) (fun c _ => L.length + 1 - (intOf c).toNat)
      case atStart => exact ⟨0, Nat.zero_le _, rfl, K, hide (fun i h1 h2 => by omega)⟩
      case round =>
        clear K
        obtain ⟨j, hj, rfl, K, N⟩ := hrel
        by_cases hlt : j + 1 < L.length
        · have hl2 : (j : Int) + 1 < (L.length : Int) := by omega
          have hl3 : (j : Int) < (L.length : Int) := by omega
          have hk0 : (0 : Int) ≤ (j : Int) := by omega
          have hk1 : (0 : Int) ≤ (j : Int) + 1 := by omega
          have htn : ((j : Int) + 1).toNat = j + 1 := by omega
          have hj1 : j < L.length := by omega
          have hwj : IntKind.i64.wrap (j : Int) = (j : Int) := by rw [IntKind.wrap_i64]; omega
          obtain ⟨b, off, rfl, hbl, y0, y1⟩ := HR.out.cells K.out hlt
          obtain ⟨z0, z1⟩ := (HR.out.below K.out).at hj1
          have FX := hide (fun w' (h : Below w.heap.size w w') => And.intro ((HR.out.below h).at hj1) ((HR.out.below h).at hlt))
          have NX := hide (fun (h : ltM (at' L j) (at' L (j + 1))) i (h1 : 1 ≤ i) (h2 : i < j + 1 + 1) (h3 : i < L.length) => (if e : i = j + 1 then by rw [e]; exact h else N.out i h1 (by omega) h3 : ltM (at' L (i - 1)) (at' L i)))
          have BD := hide (fun (h : ¬ ltM (at' L j) (at' L (j + 1))) => E10.out OK.out (fun g => h (srt_lt g (Nat.lt_succ_self _) hlt)))
          obtain ⟨a, ha⟩ : ∃ a, a = at' L j := ⟨_, rfl⟩
          obtain ⟨d, hd⟩ : ∃ a, a = at' L (j + 1) := ⟨_, rfl⟩
          rw [← ha] at z0 z1 NX BD FX
          rw [← hd] at y0 y1 NX BD FX
          clear ha hd
          obtain ⟨s, p⟩ := a
          obtain ⟨t, q⟩ := d
          dsimp only at y0 y1 z0 z1 FX
          have C := hide (fun w => bef_any s p t q w)
          by_cases hq : ltM ⟨s, p⟩ ⟨t, q⟩
          · rw [decide_eq_true hq] at C
            have G := hide (NX.out hq)
            clear hq NX BD
            go_upto_region 9 with fail
            replace K := hide (show Below w.heap.size w wr.drew from btrans K.out (below_drewN (brefl _) 1))
            refine wp_region_noPanic ?_
            refine wp_region_held_drew (S := (fun W => (W.cell? ⟨b, off + j * 2, none⟩ = some (.int .i64 s) ∧ W.cell? ⟨b, off + j * 2 + 1, none⟩ = some (.int .i64 p)) ∧ W.cell? ⟨b, off + (j + 1) * 2, none⟩ = some (.int .i64 t) ∧ W.cell? ⟨b, off + (j + 1) * 2 + 1, none⟩ = some (.int .i64 q))) (by kernel_rfl) ?_ (fun hHeld => ?_)
            · exact FX.out _ K.out
            generalize wr.drew = wd at *
            refine wpAnyH_take (i := 0) (oi := ⟨some 23, _, _, _, _, _⟩) (v := ?_) rfl (by kernel_rfl) (by kernel_rfl) (by kernel_rfl) (fun _ _ _ h => h) (Or.inl ⟨by kernel_rfl, ?_⟩) (by assumption) ?_
            rotate_left 1
            · (intro w hSw; (try dsimp only at hSw); go_simp) <;> (with_reducible rfl)
            (try simp only [Act.put, List.setIfInBounds_toArray, List.set_cons_succ, List.set_cons_zero])
            refine wpAnyH_take (i := 1) (oi := ⟨some 24, _, _, _, _, _⟩) (v := ?_) rfl (by kernel_rfl) (by kernel_rfl) (by kernel_rfl) (fun _ _ _ h => h) (Or.inl ⟨by kernel_rfl, ?_⟩) (by assumption) ?_
            rotate_left 1
            · (intro w hSw; (try dsimp only at hSw); go_simp) <;> (with_reducible rfl)
            (try simp only [Act.put, List.setIfInBounds_toArray, List.set_cons_succ, List.set_cons_zero])
            refine wpAnyH_take (i := 2) (oi := ⟨some 25, _, _, _, _, _⟩) (v := ?_) rfl (by kernel_rfl) (by kernel_rfl) (by kernel_rfl) (fun _ _ _ h => h) (Or.inl ⟨by kernel_rfl, ?_⟩) (by assumption) ?_
            rotate_left 1
            · (intro w hSw; (try dsimp only at hSw); go_simp) <;> (with_reducible rfl)
            (try simp only [Act.put, List.setIfInBounds_toArray, List.set_cons_succ, List.set_cons_zero])
            refine wpAnyH_take (i := 3) (oi := ⟨some 26, _, _, _, _, _⟩) (v := ?_) rfl (by kernel_rfl) (by kernel_rfl) (by kernel_rfl) (fun _ _ _ h => h) (Or.inl ⟨by kernel_rfl, ?_⟩) (by assumption) ?_
            rotate_left 1
            · (intro w hSw; (try dsimp only at hSw); go_simp) <;> (with_reducible rfl)
            (try simp only [Act.put, List.setIfInBounds_toArray, List.set_cons_succ, List.set_cons_zero])
            refine wpAnyH_take (i := 4) (oi := ⟨some 27, _, _, _, _, _⟩) (v := ?_) rfl (by kernel_rfl) (by kernel_rfl) (by kernel_rfl) (fun _ _ _ h => h) (Or.inl ⟨by kernel_rfl, ?_⟩) (by assumption) ?_
            rotate_left 1
            · (intro w hSw; (try dsimp only at hSw); go_simp) <;> (with_reducible rfl)
            (try simp only [Act.put, List.setIfInBounds_toArray, List.set_cons_succ, List.set_cons_zero])
            refine wpAnyH_take (i := 5) (oi := ⟨some 28, _, _, _, _, _⟩) (v := ?_) rfl (by kernel_rfl) (by kernel_rfl) (by kernel_rfl) (fun _ _ _ h => h) (Or.inl ⟨by kernel_rfl, ?_⟩) (by assumption) ?_
            rotate_left 1
            · (intro w hSw; (try dsimp only at hSw); go_simp) <;> (with_reducible rfl)
            (try simp only [Act.put, List.setIfInBounds_toArray, List.set_cons_succ, List.set_cons_zero])
            refine wpAnyH_take (i := 6) (oi := ⟨some 29, _, _, _, _, _⟩) (v := ?_) rfl (by kernel_rfl) (by kernel_rfl) (by kernel_rfl) (fun _ _ _ h => h) (Or.inl ⟨by kernel_rfl, ?_⟩) (by assumption) ?_
            rotate_left 1
            · (intro w hSw; (try dsimp only at hSw); go_simp) <;> (with_reducible rfl)
            (try simp only [Act.put, List.setIfInBounds_toArray, List.set_cons_succ, List.set_cons_zero])
            refine wpAnyH_take (i := 7) (oi := ⟨some 30, _, _, _, _, _⟩) (v := ?_) rfl (by kernel_rfl) (by kernel_rfl) (by kernel_rfl) (fun _ _ _ h => h) (Or.inl ⟨by kernel_rfl, ?_⟩) (by assumption) ?_
            rotate_left 1
            · (intro w hSw; (try dsimp only at hSw); go_simp) <;> (with_reducible rfl)
            (try simp only [Act.put, List.setIfInBounds_toArray, List.set_cons_succ, List.set_cons_zero])
            refine wpAnyH_take (i := 8) (oi := ⟨some 31, _, _, _, _, _⟩) (v := ?_) rfl (by kernel_rfl) (by kernel_rfl) (by kernel_rfl) (fun _ _ _ h => h) (Or.inl ⟨by kernel_rfl, ?_⟩) (by assumption) ?_
            rotate_left 1
            · (intro w hSw; (try dsimp only at hSw); go_simp) <;> (with_reducible rfl)
            (try simp only [Act.put, List.setIfInBounds_toArray, List.set_cons_succ, List.set_cons_zero])
            refine wpAnyH_ready (rs := [9]) (by kernel_rfl) (by simp) ?_
            refine AllReadyH.cons (o := ⟨some 32, _, _, _, _, _⟩) rfl (fun K' hK => ?_) AllReadyH.nil
            go_simp
            refine (C.out _).mono ?_
            rintro e w2 ⟨rfl, hb⟩
            replace K := hide (btrans K.out hb)
            clear hb
            refine hK.out _ _ ?_ (fun hHeld => ?_)
            · exact FX.out _ K.out
            clear hK K'
            (try simp only [Act.put, List.setIfInBounds_toArray, List.set_cons_succ, List.set_cons_zero])
            refine wpAnyH_take (i := 10) (oi := ⟨some 33, _, _, _, _, _⟩) (v := ?_) rfl (by kernel_rfl) (by kernel_rfl) (by kernel_rfl) (fun _ _ _ h => h) (Or.inl ⟨by kernel_rfl, ?_⟩) (by assumption) ?_
            rotate_left 1
            · (intro w hSw; (try dsimp only at hSw); go_simp) <;> (with_reducible rfl)
            (try simp only [Act.put, List.setIfInBounds_toArray, List.set_cons_succ, List.set_cons_zero])
            refine wpAnyH_done (by kernel_rfl) ?_ _
            refine NoPanic.normal ?_
            clear y0 y1 z0 z1
            go_wp2
            go_roundw
            case rel => exact ⟨j + 1, by omega, by go_num, K, G⟩
            case measure => simp [intOf]; omega
          · rw [decide_eq_false hq] at C
            have G := hide (BD.out hq)
            clear hq NX BD
            go_upto_region 9 with fail
            replace K := hide (show Below w.heap.size w wr.drew from btrans K.out (below_drewN (brefl _) 1))
            refine wp_region_noPanic ?_
            refine wp_region_held_drew (S := (fun W => (W.cell? ⟨b, off + j * 2, none⟩ = some (.int .i64 s) ∧ W.cell? ⟨b, off + j * 2 + 1, none⟩ = some (.int .i64 p)) ∧ W.cell? ⟨b, off + (j + 1) * 2, none⟩ = some (.int .i64 t) ∧ W.cell? ⟨b, off + (j + 1) * 2 + 1, none⟩ = some (.int .i64 q))) (by kernel_rfl) ?_ (fun hHeld => ?_)
            · exact FX.out _ K.out
            generalize wr.drew = wd at *
            refine wpAnyH_take (i := 0) (oi := ⟨some 23, _, _, _, _, _⟩) (v := ?_) rfl (by kernel_rfl) (by kernel_rfl) (by kernel_rfl) (fun _ _ _ h => h) (Or.inl ⟨by kernel_rfl, ?_⟩) (by assumption) ?_
            rotate_left 1
            · (intro w hSw; (try dsimp only at hSw); go_simp) <;> (with_reducible rfl)
            (try simp only [Act.put, List.setIfInBounds_toArray, List.set_cons_succ, List.set_cons_zero])
            refine wpAnyH_take (i := 1) (oi := ⟨some 24, _, _, _, _, _⟩) (v := ?_) rfl (by kernel_rfl) (by kernel_rfl) (by kernel_rfl) (fun _ _ _ h => h) (Or.inl ⟨by kernel_rfl, ?_⟩) (by assumption) ?_
            rotate_left 1
            · (intro w hSw; (try dsimp only at hSw); go_simp) <;> (with_reducible rfl)
            (try simp only [Act.put, List.setIfInBounds_toArray, List.set_cons_succ, List.set_cons_zero])
            refine wpAnyH_take (i := 2) (oi := ⟨some 25, _, _, _, _, _⟩) (v := ?_) rfl (by kernel_rfl) (by kernel_rfl) (by kernel_rfl) (fun _ _ _ h => h) (Or.inl ⟨by kernel_rfl, ?_⟩) (by assumption) ?_
            rotate_left 1
            · (intro w hSw; (try dsimp only at hSw); go_simp) <;> (with_reducible rfl)
            (try simp only [Act.put, List.setIfInBounds_toArray, List.set_cons_succ, List.set_cons_zero])
            refine wpAnyH_take (i := 3) (oi := ⟨some 26, _, _, _, _, _⟩) (v := ?_) rfl (by kernel_rfl) (by kernel_rfl) (by kernel_rfl) (fun _ _ _ h => h) (Or.inl ⟨by kernel_rfl, ?_⟩) (by assumption) ?_
            rotate_left 1
            · (intro w hSw; (try dsimp only at hSw); go_simp) <;> (with_reducible rfl)
            (try simp only [Act.put, List.setIfInBounds_toArray, List.set_cons_succ, List.set_cons_zero])
            refine wpAnyH_take (i := 4) (oi := ⟨some 27, _, _, _, _, _⟩) (v := ?_) rfl (by kernel_rfl) (by kernel_rfl) (by kernel_rfl) (fun _ _ _ h => h) (Or.inl ⟨by kernel_rfl, ?_⟩) (by assumption) ?_
            rotate_left 1
            · (intro w hSw; (try dsimp only at hSw); go_simp) <;> (with_reducible rfl)
            (try simp only [Act.put, List.setIfInBounds_toArray, List.set_cons_succ, List.set_cons_zero])
            refine wpAnyH_take (i := 5) (oi := ⟨some 28, _, _, _, _, _⟩) (v := ?_) rfl (by kernel_rfl) (by kernel_rfl) (by kernel_rfl) (fun _ _ _ h => h) (Or.inl ⟨by kernel_rfl, ?_⟩) (by assumption) ?_
            rotate_left 1
            · (intro w hSw; (try dsimp only at hSw); go_simp) <;> (with_reducible rfl)
            (try simp only [Act.put, List.setIfInBounds_toArray, List.set_cons_succ, List.set_cons_zero])
            refine wpAnyH_take (i := 6) (oi := ⟨some 29, _, _, _, _, _⟩) (v := ?_) rfl (by kernel_rfl) (by kernel_rfl) (by kernel_rfl) (fun _ _ _ h => h) (Or.inl ⟨by kernel_rfl, ?_⟩) (by assumption) ?_
            rotate_left 1
            · (intro w hSw; (try dsimp only at hSw); go_simp) <;> (with_reducible rfl)
            (try simp only [Act.put, List.setIfInBounds_toArray, List.set_cons_succ, List.set_cons_zero])
            refine wpAnyH_take (i := 7) (oi := ⟨some 30, _, _, _, _, _⟩) (v := ?_) rfl (by kernel_rfl) (by kernel_rfl) (by kernel_rfl) (fun _ _ _ h => h) (Or.inl ⟨by kernel_rfl, ?_⟩) (by assumption) ?_
            rotate_left 1
            · (intro w hSw; (try dsimp only at hSw); go_simp) <;> (with_reducible rfl)
            (try simp only [Act.put, List.setIfInBounds_toArray, List.set_cons_succ, List.set_cons_zero])
            refine wpAnyH_take (i := 8) (oi := ⟨some 31, _, _, _, _, _⟩) (v := ?_) rfl (by kernel_rfl) (by kernel_rfl) (by kernel_rfl) (fun _ _ _ h => h) (Or.inl ⟨by kernel_rfl, ?_⟩) (by assumption) ?_
            rotate_left 1
            · (intro w hSw; (try dsimp only at hSw); go_simp) <;> (with_reducible rfl)
            (try simp only [Act.put, List.setIfInBounds_toArray, List.set_cons_succ, List.set_cons_zero])
            refine wpAnyH_ready (rs := [9]) (by kernel_rfl) (by simp) ?_
            refine AllReadyH.cons (o := ⟨some 32, _, _, _, _, _⟩) rfl (fun K' hK => ?_) AllReadyH.nil
            go_simp
            refine (C.out _).mono ?_
            rintro e w2 ⟨rfl, hb⟩
            replace K := hide (btrans K.out hb)
            clear hb
            refine hK.out _ _ ?_ (fun hHeld => ?_)
            · exact FX.out _ K.out
            clear hK K'
            (try simp only [Act.put, List.setIfInBounds_toArray, List.set_cons_succ, List.set_cons_zero])
            refine wpAnyH_take (i := 10) (oi := ⟨some 33, _, _, _, _, _⟩) (v := ?_) rfl (by kernel_rfl) (by kernel_rfl) (by kernel_rfl) (fun _ _ _ h => h) (Or.inl ⟨by kernel_rfl, ?_⟩) (by assumption) ?_
            rotate_left 1
            · (intro w hSw; (try dsimp only at hSw); go_simp) <;> (with_reducible rfl)
            (try simp only [Act.put, List.setIfInBounds_toArray, List.set_cons_succ, List.set_cons_zero])
            refine wpAnyH_done (by kernel_rfl) ?_ _
            refine NoPanic.normal ?_
            clear y0 y1 z0 z1
            go_wp2
            go_ret
            exact ⟨ret_int G.out.symm, K.out⟩
        · have hlt2 : ¬ ((j : Int) + 1 < (L.length : Int)) := by omega
          have OS := hide (E0.out OK.out (srt_at fun i h1 h2 => N.out i h1 (by omega) h2))
          clear N
          go_wp2
          go_ret
          exact ⟨ret_int OS.out.symm, K.out⟩
end Go.Proofs.Ytioffnpnoohbiaa.Rm
