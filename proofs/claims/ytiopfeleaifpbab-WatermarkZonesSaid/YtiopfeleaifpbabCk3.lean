import Derived.Test.YtiopfeleaifpbabCk2
namespace Go.Proofs.Ytiopfeleaifpbab.Bd
open Go Go.RowKit
set_option linter.unusedVariables false
set_option maxRecDepth 100000 in
set_option maxHeartbeats 8000000 in
theorem hasb_any (p : Pm) (v : Nat → Value) (L : Fl) (w : World) (hp : par p) (hl : Lst p L) (hr : RdZ w v L) :
    Calls Try.prog 40 #[.agg (znC p v)] w fun e w' => e = .returned (.bool (decide (¬ Nb L))) ∧ Below w.heap.size w w' := by
  have X := hide (Box.new w 44 (znC p v))
  have K0 := hide (bal (brefl w) (.cells (znC p v) 44))
  have HR := hide hr
  have HL := hide hl
  have HP := hide hp
  obtain ⟨res, hres⟩ : ∃ r, r = decide (¬ Nb L) := ⟨_, rfl⟩
  rw [← hres]
  have HRes := hide hres
  clear hr hl hp hres
  go_enter Try.func40, Try.ntmps40
  go_upto_region 1 with fail
  obtain ⟨g, hg⟩ : ∃ g, g = w.heap.size := ⟨_, rfl⟩
  obtain ⟨W0, hW0⟩ : ∃ W0, W0 = (w.alloc (.cells (znC p v) 44)) := ⟨_, rfl⟩
  rw [← hg] at X
  rw [← hg, ← hW0]
  rw [← hW0] at X K0
  clear hg hW0
  go_wp2
  go_loopw [8] (fun a wr => ∃ k : Nat, k ≤ 4 ∧ a = .int .i64 k ∧ Hid (Box wr g 44 (znC p v)) ∧ Hid (Below w.heap.size w wr) ∧ Hid (∀ j, j < k → ∀ f ∈ L j, bud j f ∉ L j)) (fun a _ => 5 - (intOf a).toNat)
  case atStart => exact ⟨0, by omega, rfl, X, K0, hide (fun j hj => absurd hj (Nat.not_lt_zero _))⟩
  case round =>
    clear X K0
    obtain ⟨k, hk, rfl, X, K, N⟩ := hrel
    by_cases h4 : k < 4
    · have h5 : k < 5 := by omega
      have hk5 : (k : Int) < 5 := by omega
      have h4i : decide ((k : Int) < 4) = true := decide_eq_true (by omega)
      have s0 := box_list X.out h5
      obtain ⟨A, c, ev, hcap, r⟩ := HR.out k h5
      have R := hide r
      have ln := lst_len HP.out HL.out h5
      rw [ev] at s0
      have FD0 := hide (fun f w1 (hb : Below w.heap.size w w1) => find_any p v L f k h5 w1 (HR.out.below hb) (HL.out.srt k h5) (by omega))
      obtain ⟨l, hl⟩ : ∃ l, l = L k := ⟨_, rfl⟩
      have HLk := hide hl
      rw [← hl] at s0 R ln FD0
      clear ev r hcap hl
      have KW := hide K.out
      have XW := hide X.out
      have H4 := hide h4
      have N0 := hide (show ∀ t, t < 0 → bud k (l.getD t 0) ∉ l from fun t ht => absurd ht (Nat.not_lt_zero _))
      clear K X
      go_wp2
      clear s0
      go_loopw [16] (fun a wr => ∃ i : Nat, i ≤ l.length ∧ a = .int .i64 i ∧ Hid (Box wr g 44 (znC p v)) ∧ Hid (Below w.heap.size w wr) ∧ Hid (∀ t, t < i → bud k (l.getD t 0) ∉ l)) (fun a _ => l.length - (intOf a).toNat)
      case atStart => exact ⟨0, Nat.zero_le _, rfl, XW, KW, N0⟩
      case round =>
        clear XW KW N0
        obtain ⟨i, hi, rfl, X1, K, M⟩ := hrel
        by_cases hlt : i < l.length
        · obtain ⟨b, off, eA, hbl, c0⟩ := R.out.cells K.out hlt
          subst eA
          have hmem : l.getD i 0 ∈ L k := by rw [← HLk.out]; exact getD_mem hlt
          have hblk := HL.out.blk k (by have := H4.out; omega) _ hmem
          have hbd := blk_bd HP.out hblk
          have bp := bw_pos k
          have hw := wr2 (show k < 5 by have := H4.out; omega)
          have hw3 := wr3 (show k < 5 by have := H4.out; omega)
          have hx := xor_bud H4.out (l.getD i 0) (by omega) (by omega) hblk.1
          have FD := hide (FD0.out (bud k (l.getD i 0)))
          by_cases hin : bud k (l.getD i 0) ∈ l
          · have E := hide (show res = true by
              rw [HRes.out]
              exact decide_eq_true (fun h => h k H4.out _ hmem (by rw [← HLk.out]; exact hin)))
            rw [decide_eq_true hin] at FD
            clear hin hmem hblk M
            generalize hd : bud k (l.getD i 0) = d at *
            generalize pos l d = q at *
            generalize l.getD i 0 = z at *
            clear hd hbd bp
            go_wp2
            refine wp_region_noPanic ?_
            refine wp_region_held_drew (S := (fun W => Box W g 44 (znC p v) ∧ Below w.heap.size w W)) (by kernel_rfl) ?_ (fun hHeld => ?_)
            · exact ⟨X1.out.below (below_drewN (brefl _) 1), below_drewN K.out 1⟩
            replace X1 := hide (hHeld.1)
            replace K := hide (hHeld.2)
            generalize wr.drew = wr at *
            refine wpAnyH_take (i := 0) (oi := ⟨some 21, _, _, _, _, _⟩) (v := .agg (znC p v)) rfl (by kernel_rfl) (by kernel_rfl) (by kernel_rfl) (fun _ _ _ h => h) (Or.inl ⟨by kernel_rfl, ?_⟩) (by assumption) ?_
            · (intro w hSw; obtain ⟨y0, y1, y2, y3, y4, y5, y6, y7, y8, y9⟩ := box_all hSw.1; go_simp) <;> rfl
            (try simp only [Act.put, List.setIfInBounds_toArray, List.set_cons_succ, List.set_cons_zero])
            refine wpAnyH_take (i := 1) (oi := ⟨some 22, _, _, _, _, _⟩) (v := ?_) rfl (by kernel_rfl) (by kernel_rfl) (by kernel_rfl) (fun _ _ _ h => h) (Or.inl ⟨by kernel_rfl, ?_⟩) (by assumption) ?_
            rotate_left 1
            · (intro w hSw; (try dsimp only at hSw); go_simp) <;> (with_reducible rfl)
            (try simp only [Act.put, List.setIfInBounds_toArray, List.set_cons_succ, List.set_cons_zero])
            refine wpAnyH_take (i := 2) (oi := ⟨some 23, _, _, _, _, _⟩) (v := ?_) rfl (by kernel_rfl) (by kernel_rfl) (by kernel_rfl) (fun _ _ _ h => h) (Or.inl ⟨by kernel_rfl, ?_⟩) (by assumption) ?_
            rotate_left 1
            · (intro w hSw; (try dsimp only at hSw); go_simp) <;> (with_reducible rfl)
            (try simp only [Act.put, List.setIfInBounds_toArray, List.set_cons_succ, List.set_cons_zero])
            refine wpAnyH_take (i := 3) (oi := ⟨some 24, _, _, _, _, _⟩) (v := ?_) rfl (by kernel_rfl) (by kernel_rfl) (by kernel_rfl) (fun _ _ _ h => h) (Or.inl ⟨by kernel_rfl, ?_⟩) (by assumption) ?_
            rotate_left 1
            · (intro w hSw; (try dsimp only at hSw); go_simp) <;> (with_reducible rfl)
            (try simp only [Act.put, List.setIfInBounds_toArray, List.set_cons_succ, List.set_cons_zero])
            refine wpAnyH_take (i := 4) (oi := ⟨some 25, _, _, _, _, _⟩) (v := ?_) rfl (by kernel_rfl) (by kernel_rfl) (by kernel_rfl) (fun _ _ _ h => h) (Or.inl ⟨by kernel_rfl, ?_⟩) (by assumption) ?_
            rotate_left 1
            · (intro w hSw; (try dsimp only at hSw); go_simp) <;> (with_reducible rfl)
            (try simp only [Act.put, List.setIfInBounds_toArray, List.set_cons_succ, List.set_cons_zero])
            refine wpAnyH_take (i := 5) (oi := ⟨some 26, _, _, _, _, _⟩) (v := ?_) rfl (by kernel_rfl) (by kernel_rfl) (by kernel_rfl) (fun _ _ _ h => h) (Or.inl ⟨by kernel_rfl, ?_⟩) (by assumption) ?_
            rotate_left 1
            · (intro w hSw; (try dsimp only at hSw); go_simp) <;> (with_reducible rfl)
            (try simp only [Act.put, List.setIfInBounds_toArray, List.set_cons_succ, List.set_cons_zero])
            refine wpAnyH_ready (rs := [6]) (by kernel_rfl) (by simp) ?_
            refine AllReadyH.cons (o := _) rfl (fun K' hK => ?_) AllReadyH.nil
            go_simp
            refine (FD.out _ K.out).mono ?_
            rintro e w5 ⟨rfl, hb⟩
            replace X1 := hide (X1.out.below hb)
            replace K := hide (K.out.trans (hb.mono K.out.size))
            clear hb
            refine hK.out _ _ ?_ (fun hHeld => ?_)
            · exact ⟨X1.out, K.out⟩
            clear hK K'
            (try simp only [Act.put, List.setIfInBounds_toArray, List.set_cons_succ, List.set_cons_zero])
            refine wpAnyH_take (i := 7) (oi := ⟨some 20, _, _, _, _, _⟩) (v := ?_) rfl (by kernel_rfl) (by kernel_rfl) (by kernel_rfl) (fun _ _ _ h => h) (Or.inl ⟨by kernel_rfl, ?_⟩) (by assumption) ?_
            rotate_left 1
            · (intro w hSw; (try dsimp only at hSw); go_simp) <;> (with_reducible rfl)
            (try simp only [Act.put, List.setIfInBounds_toArray, List.set_cons_succ, List.set_cons_zero])
            refine wpAnyH_take (i := 8) (oi := ⟨some 28, _, _, _, _, _⟩) (v := ?_) rfl (by kernel_rfl) (by kernel_rfl) (by kernel_rfl) (fun _ _ _ h => h) (Or.inl ⟨by kernel_rfl, ?_⟩) (by assumption) ?_
            rotate_left 1
            · (intro w hSw; (try dsimp only at hSw); go_simp) <;> (with_reducible rfl)
            (try simp only [Act.put, List.setIfInBounds_toArray, List.set_cons_succ, List.set_cons_zero])
            refine wpAnyH_take (i := 10) (oi := ⟨some 6, _, _, _, _, _⟩) (v := ?_) rfl (by kernel_rfl) (by kernel_rfl) (by kernel_rfl) (fun _ _ _ h => h) (Or.inl ⟨by kernel_rfl, ?_⟩) (by assumption) ?_
            rotate_left 1
            · (intro w hSw; (try dsimp only at hSw); go_simp) <;> (with_reducible rfl)
            (try simp only [Act.put, List.setIfInBounds_toArray, List.set_cons_succ, List.set_cons_zero])
            refine wpAnyH_take (i := 9) (oi := ⟨some 29, _, _, _, _, _⟩) (v := ?_) rfl (by kernel_rfl) (by kernel_rfl) (by kernel_rfl) (fun _ _ _ h => h) (Or.inl ⟨by kernel_rfl, ?_⟩) (by assumption) ?_
            rotate_left 1
            · (intro w hSw; (try dsimp only at hSw); go_simp) <;> (with_reducible rfl)
            (try simp only [Act.put, List.setIfInBounds_toArray, List.set_cons_succ, List.set_cons_zero])
            refine wpAnyH_take (i := 11) (oi := ⟨some 7, _, _, _, _, _⟩) (v := ?_) rfl (by kernel_rfl) (by kernel_rfl) (by kernel_rfl) (fun _ _ _ h => h) (Or.inl ⟨by kernel_rfl, ?_⟩) (by assumption) ?_
            rotate_left 1
            · (intro w hSw; (try dsimp only at hSw); go_simp) <;> (with_reducible rfl)
            (try simp only [Act.put, List.setIfInBounds_toArray, List.set_cons_succ, List.set_cons_zero])
            refine wpAnyH_done (by kernel_rfl) ?_ _
            refine NoPanic.normal ?_
            go_wp2
            go_ret
            exact ⟨ret_bool E.out.symm, K.out⟩
          · have M2 := hide (show ∀ t, t < i + 1 → bud k (l.getD t 0) ∉ l from fun t ht => by
              by_cases e : t = i
              · rw [e]; exact hin
              · exact M.out t (by omega))
            rw [decide_eq_false hin] at FD
            clear hin hmem hblk M
            generalize hd : bud k (l.getD i 0) = d at *
            generalize pos l d = q at *
            generalize l.getD i 0 = z at *
            clear hd hbd bp
            go_wp2
            refine wp_region_noPanic ?_
            refine wp_region_held_drew (S := (fun W => Box W g 44 (znC p v) ∧ Below w.heap.size w W)) (by kernel_rfl) ?_ (fun hHeld => ?_)
            · exact ⟨X1.out.below (below_drewN (brefl _) 1), below_drewN K.out 1⟩
            replace X1 := hide (hHeld.1)
            replace K := hide (hHeld.2)
            generalize wr.drew = wr at *
            refine wpAnyH_take (i := 0) (oi := ⟨some 21, _, _, _, _, _⟩) (v := .agg (znC p v)) rfl (by kernel_rfl) (by kernel_rfl) (by kernel_rfl) (fun _ _ _ h => h) (Or.inl ⟨by kernel_rfl, ?_⟩) (by assumption) ?_
            · (intro w hSw; obtain ⟨y0, y1, y2, y3, y4, y5, y6, y7, y8, y9⟩ := box_all hSw.1; go_simp) <;> rfl
            (try simp only [Act.put, List.setIfInBounds_toArray, List.set_cons_succ, List.set_cons_zero])
            refine wpAnyH_take (i := 1) (oi := ⟨some 22, _, _, _, _, _⟩) (v := ?_) rfl (by kernel_rfl) (by kernel_rfl) (by kernel_rfl) (fun _ _ _ h => h) (Or.inl ⟨by kernel_rfl, ?_⟩) (by assumption) ?_
            rotate_left 1
            · (intro w hSw; (try dsimp only at hSw); go_simp) <;> (with_reducible rfl)
            (try simp only [Act.put, List.setIfInBounds_toArray, List.set_cons_succ, List.set_cons_zero])
            refine wpAnyH_take (i := 2) (oi := ⟨some 23, _, _, _, _, _⟩) (v := ?_) rfl (by kernel_rfl) (by kernel_rfl) (by kernel_rfl) (fun _ _ _ h => h) (Or.inl ⟨by kernel_rfl, ?_⟩) (by assumption) ?_
            rotate_left 1
            · (intro w hSw; (try dsimp only at hSw); go_simp) <;> (with_reducible rfl)
            (try simp only [Act.put, List.setIfInBounds_toArray, List.set_cons_succ, List.set_cons_zero])
            refine wpAnyH_take (i := 3) (oi := ⟨some 24, _, _, _, _, _⟩) (v := ?_) rfl (by kernel_rfl) (by kernel_rfl) (by kernel_rfl) (fun _ _ _ h => h) (Or.inl ⟨by kernel_rfl, ?_⟩) (by assumption) ?_
            rotate_left 1
            · (intro w hSw; (try dsimp only at hSw); go_simp) <;> (with_reducible rfl)
            (try simp only [Act.put, List.setIfInBounds_toArray, List.set_cons_succ, List.set_cons_zero])
            refine wpAnyH_take (i := 4) (oi := ⟨some 25, _, _, _, _, _⟩) (v := ?_) rfl (by kernel_rfl) (by kernel_rfl) (by kernel_rfl) (fun _ _ _ h => h) (Or.inl ⟨by kernel_rfl, ?_⟩) (by assumption) ?_
            rotate_left 1
            · (intro w hSw; (try dsimp only at hSw); go_simp) <;> (with_reducible rfl)
            (try simp only [Act.put, List.setIfInBounds_toArray, List.set_cons_succ, List.set_cons_zero])
            refine wpAnyH_take (i := 5) (oi := ⟨some 26, _, _, _, _, _⟩) (v := ?_) rfl (by kernel_rfl) (by kernel_rfl) (by kernel_rfl) (fun _ _ _ h => h) (Or.inl ⟨by kernel_rfl, ?_⟩) (by assumption) ?_
            rotate_left 1
            · (intro w hSw; (try dsimp only at hSw); go_simp) <;> (with_reducible rfl)
            (try simp only [Act.put, List.setIfInBounds_toArray, List.set_cons_succ, List.set_cons_zero])
            refine wpAnyH_ready (rs := [6]) (by kernel_rfl) (by simp) ?_
            refine AllReadyH.cons (o := _) rfl (fun K' hK => ?_) AllReadyH.nil
            go_simp
            refine (FD.out _ K.out).mono ?_
            rintro e w5 ⟨rfl, hb⟩
            replace X1 := hide (X1.out.below hb)
            replace K := hide (K.out.trans (hb.mono K.out.size))
            clear hb
            refine hK.out _ _ ?_ (fun hHeld => ?_)
            · exact ⟨X1.out, K.out⟩
            clear hK K'
            (try simp only [Act.put, List.setIfInBounds_toArray, List.set_cons_succ, List.set_cons_zero])
            refine wpAnyH_take (i := 7) (oi := ⟨some 20, _, _, _, _, _⟩) (v := ?_) rfl (by kernel_rfl) (by kernel_rfl) (by kernel_rfl) (fun _ _ _ h => h) (Or.inl ⟨by kernel_rfl, ?_⟩) (by assumption) ?_
            rotate_left 1
            · (intro w hSw; (try dsimp only at hSw); go_simp) <;> (with_reducible rfl)
            (try simp only [Act.put, List.setIfInBounds_toArray, List.set_cons_succ, List.set_cons_zero])
            refine wpAnyH_take (i := 8) (oi := ⟨some 28, _, _, _, _, _⟩) (v := ?_) rfl (by kernel_rfl) (by kernel_rfl) (by kernel_rfl) (fun _ _ _ h => h) (Or.inl ⟨by kernel_rfl, ?_⟩) (by assumption) ?_
            rotate_left 1
            · (intro w hSw; (try dsimp only at hSw); go_simp) <;> (with_reducible rfl)
            (try simp only [Act.put, List.setIfInBounds_toArray, List.set_cons_succ, List.set_cons_zero])
            refine wpAnyH_take (i := 10) (oi := ⟨some 6, _, _, _, _, _⟩) (v := ?_) rfl (by kernel_rfl) (by kernel_rfl) (by kernel_rfl) (fun _ _ _ h => h) (Or.inl ⟨by kernel_rfl, ?_⟩) (by assumption) ?_
            rotate_left 1
            · (intro w hSw; (try dsimp only at hSw); go_simp) <;> (with_reducible rfl)
            (try simp only [Act.put, List.setIfInBounds_toArray, List.set_cons_succ, List.set_cons_zero])
            refine wpAnyH_take (i := 9) (oi := ⟨some 29, _, _, _, _, _⟩) (v := ?_) rfl (by kernel_rfl) (by kernel_rfl) (by kernel_rfl) (fun _ _ _ h => h) (Or.inl ⟨by kernel_rfl, ?_⟩) (by assumption) ?_
            rotate_left 1
            · (intro w hSw; (try dsimp only at hSw); go_simp) <;> (with_reducible rfl)
            (try simp only [Act.put, List.setIfInBounds_toArray, List.set_cons_succ, List.set_cons_zero])
            refine wpAnyH_take (i := 11) (oi := ⟨some 7, _, _, _, _, _⟩) (v := ?_) rfl (by kernel_rfl) (by kernel_rfl) (by kernel_rfl) (fun _ _ _ h => h) (Or.inl ⟨by kernel_rfl, ?_⟩) (by assumption) ?_
            rotate_left 1
            · (intro w hSw; (try dsimp only at hSw); go_simp) <;> (with_reducible rfl)
            (try simp only [Act.put, List.setIfInBounds_toArray, List.set_cons_succ, List.set_cons_zero])
            refine wpAnyH_done (by kernel_rfl) ?_ _
            refine NoPanic.normal ?_
            go_wp2
            go_roundw
            case rel => first | exact ⟨i + 1, by omega, by go_num, X1, K, M2⟩ | ((repeat apply Exists.intro); exact ⟨⟨i + 1, by omega, by go_num, X1, K, M2⟩, rfl⟩)
            case measure => simp [intOf]; omega
        · obtain rfl : i = l.length := by omega
          have N2 := hide (show ∀ j, j < k + 1 → ∀ f ∈ L j, bud j f ∉ L j from fun j hj => by
            by_cases e : j = k
            · subst e
              intro f hf
              rw [← HLk.out] at hf ⊢
              obtain ⟨t, ht, rfl⟩ := mem_getD hf
              exact M.out t ht
            · exact N.out j (by omega))
          clear M
          go_wp2
          go_roundw
          case rel => exact ⟨k + 1, by have := H4.out; omega, by go_num, X1, K, N2⟩
          case measure => simp [intOf]; have := H4.out; omega
    · obtain rfl : k = 4 := by omega
      have E := hide (show res = false by rw [HRes.out]; exact decide_eq_false (fun h => h N.out))
      go_wp2
      go_ret
      exact ⟨ret_bool E.out.symm, K.out⟩
end Go.Proofs.Ytiopfeleaifpbab.Bd
