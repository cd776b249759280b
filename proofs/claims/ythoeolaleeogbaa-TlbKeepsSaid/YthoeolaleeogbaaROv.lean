import Derived.Test.YthoeolaleeogbaaRTr
namespace Go.Proofs.Ythoeolaleeogbaa.Tb
open Go Go.RowKit Go.Proofs.Ythoeolaleeogbaa.Pt
set_option linter.unusedVariables false
theorem ovl_hit {a b : Te} {i : Nat} (ha : okE a = true) (hb : okE b = true) (hi : i < 8) (h1 : cov a b.1 (b.2.1 - b.2.1 % 8 + (i : Int)) = true) (h2 : cov b b.1 (b.2.1 - b.2.1 % 8 + (i : Int)) = true) : ovl a b = true :=
  ovl_of_both (okE_bd ha).2.2.2 (okE_bd hb).2.2.2 h1 h2
theorem ovl_miss {a b : Te} (ha : okE a = true) (hb : okE b = true) (h : ∀ i : Nat, i < 8 → (cov a b.1 (b.2.1 - b.2.1 % 8 + (i : Int)) && cov b b.1 (b.2.1 - b.2.1 % 8 + (i : Int))) = false) : ovl a b = false := by
  obtain ⟨_, a1, _, a3⟩ := okE_bd ha
  obtain ⟨_, b1, _, b3⟩ := okE_bd hb
  rw [← ovlR_ovl ha hb]
  unfold ovlR
  rw [List.any_eq_false]
  intro i hi
  have ht : b.2.1.tmod 8 = b.2.1 % 8 := Int.tmod_eq_emod_of_nonneg b1.1
  rw [ht, hitR_cov _ _ a1.1, hitR_cov _ _ b1.1, h i (List.mem_range.1 hi)]
  decide
set_option maxHeartbeats 4000000 in
theorem overlaps_any (a b : Te) (w : World) (ha : okE a = true) (hb : okE b = true) (hA : inW a.2.2) (hB : inW b.2.2) :
    Calls Try.prog 33 #[tv a, tv b] w fun r w' => r = .returned (.bool (ovl a b)) ∧ Below w.heap.size w w' := by
  have a1 := (okE_bd ha).2.1
  have b1 := (okE_bd hb).2.1
  obtain ⟨W0, hW0⟩ : ∃ W0, W0 = (w.alloc (.cells #[.int .i64 a.1, .int .i64 a.2.1, .int .u64 a.2.2] 47)).alloc (.cells #[.int .i64 b.1, .int .i64 b.2.1, .int .u64 b.2.2] 47) := ⟨_, rfl⟩
  have K0 := hide (show Below w.heap.size w W0 by rw [hW0]; exact bal (bal (brefl w) _) _)
  have X0 := hide (show Box W0 w.heap.size 47 #[.int .i64 a.1, .int .i64 a.2.1, .int .u64 a.2.2] by rw [hW0]; exact (Box.new w _ _).more _)
  have Y0 := hide (show Box W0 (w.heap.size + 1) 47 #[.int .i64 b.1, .int .i64 b.2.1, .int .u64 b.2.2] by rw [hW0]; exact Box.new2 _ _ _ _)
  have HW := hide hW0
  have H1 := hide (fun (i : Nat) => ovl_hit (i := i) ha hb)
  have H2 := hide (ovl_miss ha hb)
  have C1 := hide (fun (i : Nat) (hi : i < 8) w => hits_any a b.1 (b.2.1 - b.2.1 % 8 + (i : Int)) w a1.1 (by unfold inP; omega) hA)
  have C2 := hide (fun (i : Nat) (hi : i < 8) w => hits_any b b.1 (b.2.1 - b.2.1 % 8 + (i : Int)) w b1.1 (by unfold inP; omega) hB)
  have G := hide (fun w => group_any b.2.1 w b1.1 (by omega))
  have hgq : 0 ≤ b.2.1 - b.2.1 % 8 ∧ b.2.1 - b.2.1 % 8 < 512 := by omega
  unfold tv at *
  obtain ⟨a0, a1', a2⟩ := a
  obtain ⟨b0, b1', b2⟩ := b
  simp only at *
  generalize b1' - b1' % 8 = gq at *
  generalize ovl (a0, a1', a2) (b0, b1', b2) = ov at *
  have HGQ := hide hgq
  clear hW0 ha hb hA hB a1 b1 hgq
  go_enter Try.func33, Try.ntmps33
  go_wp2
  rw [← HW.out]
  go_loopw [5] (fun i wr => ∃ k : Nat, k ≤ 8 ∧ i = .int .i64 k ∧ Hid (∀ i : Nat, i < k → (cov (a0, a1', a2) b0 (gq + (i : Int)) && cov (b0, b1', b2) b0 (gq + (i : Int))) = false) ∧ Below W0.heap.size W0 wr) (fun i _ => 8 - (intOf i).toNat)
  case atStart => exact ⟨0, by omega, rfl, hide (fun i hi => absurd hi (Nat.not_lt_zero _)), brefl _⟩
  case round =>
    obtain ⟨k, hk, rfl, HI, hbw⟩ := hrel
    have KB := hide hbw
    by_cases hlt : k < 8
    · have D1 := hide (C1.out k hlt)
      have D2 := hide (C2.out k hlt)
      have HN := hide (show (cov (a0, a1', a2) b0 (gq + (k : Int)) && cov (b0, b1', b2) b0 (gq + (k : Int))) = false → ∀ i : Nat, i < k + 1 → (cov (a0, a1', a2) b0 (gq + (i : Int)) && cov (b0, b1', b2) b0 (gq + (i : Int))) = false from fun h i hi => by
        by_cases e : i = k
        · rw [e]; exact h
        · exact HI.out i (by omega))
      have HH := hide (H1.out k hlt)
      obtain ⟨x0, x1, x2⟩ := box3_cells X0.out hbw
      obtain ⟨y0, y1, y2⟩ := box3_cells Y0.out hbw
      have hx : IntKind.i64.wrap (gq + (k : Int)) = gq + (k : Int) := by have := HGQ.out; rw [IntKind.wrap_i64]; omega
      clear hbw
      cases hu : cov (a0, a1', a2) b0 (gq + (k : Int))
      · rw [hu] at D1 HN
        have HM := hide (HN.out rfl)
        clear hu HN HH
        generalize cov (b0, b1', b2) b0 (gq + (k : Int)) = zz at D2
        go_wp2
        obtain ⟨t, ht⟩ : ∃ t, t = gq + (k : Int) := ⟨_, rfl⟩
        rw [← ht] at D1 D2
        clear hx
        have hx : IntKind.i64.wrap (gq + (k : Int)) = t := by have := HGQ.out; rw [ht, IntKind.wrap_i64]; omega
        clear ht
        have K := hide (brefl wr)
        refine wp_region_noPanic ?_
        refine wp_region_held_drew (S := (fun w' => w'.cell? ⟨w.heap.size, 0, none⟩ = some (.int .i64 a0) ∧ w'.cell? ⟨w.heap.size, 1, none⟩ = some (.int .i64 a1') ∧ w'.cell? ⟨w.heap.size, 2, none⟩ = some (.int .u64 a2) ∧ w'.cell? ⟨w.heap.size + 1, 0, none⟩ = some (.int .i64 b0) ∧ w'.cell? ⟨w.heap.size + 1, 1, none⟩ = some (.int .i64 b1') ∧ w'.cell? ⟨w.heap.size + 1, 2, none⟩ = some (.int .u64 b2))) (by kernel_rfl) ?_ (fun hHeld => ?_)
        · (have kk := box3_cells X0.out (btrans KB.out K.out); have ll := box3_cells Y0.out (btrans KB.out K.out); exact ⟨kk.1, kk.2.1, kk.2.2, ll.1, ll.2.1, ll.2.2⟩)
        refine wpAnyH_take (i := 0) (v := ?_) rfl (by kernel_rfl) (by kernel_rfl) (by kernel_rfl) (fun _ _ _ h => h) (Or.inl ⟨by rfl, ?_⟩) (by assumption) ?_
        rotate_left 1
        · (intro w hSw; (try dsimp only at hSw); go_simp) <;> (with_reducible rfl)
        (try simp only [Act.put])
        refine wpAnyH_take (i := 1) (v := ?_) rfl (by kernel_rfl) (by kernel_rfl) (by kernel_rfl) (fun _ _ _ h => h) (Or.inl ⟨by rfl, ?_⟩) (by assumption) ?_
        rotate_left 1
        · (intro w hSw; (try dsimp only at hSw); go_simp) <;> (with_reducible rfl)
        (try simp only [Act.put])
        refine wpAnyH_take (i := 2) (v := ?_) rfl (by kernel_rfl) (by kernel_rfl) (by kernel_rfl) (fun _ _ _ h => h) (Or.inl ⟨by rfl, ?_⟩) (by assumption) ?_
        rotate_left 1
        · (intro w hSw; (try dsimp only at hSw); go_simp) <;> (with_reducible rfl)
        (try simp only [Act.put])
        refine wpAnyH_take (i := 3) (v := ?_) rfl (by kernel_rfl) (by kernel_rfl) (by kernel_rfl) (fun _ _ _ h => h) (Or.inl ⟨by rfl, ?_⟩) (by assumption) ?_
        rotate_left 1
        · (intro w hSw; (try dsimp only at hSw); go_simp) <;> (with_reducible rfl)
        (try simp only [Act.put])
        refine wpAnyH_take (i := 4) (v := ?_) rfl (by kernel_rfl) (by kernel_rfl) (by kernel_rfl) (fun _ _ _ h => h) (Or.inl ⟨by rfl, ?_⟩) (by assumption) ?_
        rotate_left 1
        · (intro w hSw; (try dsimp only at hSw); go_simp) <;> (with_reducible rfl)
        (try simp only [Act.put])
        refine wpAnyH_take (i := 6) (v := ?_) rfl (by kernel_rfl) (by kernel_rfl) (by kernel_rfl) (fun _ _ _ h => h) (Or.inl ⟨by rfl, ?_⟩) (by assumption) ?_
        rotate_left 1
        · (intro w hSw; (try dsimp only at hSw); go_simp) <;> (with_reducible rfl)
        (try simp only [Act.put])
        refine wpAnyH_ready (rs := [5]) (by kernel_rfl) (by simp) ?_
        refine AllReadyH.cons (o := _) rfl (fun K' hK => ?_) AllReadyH.nil
        go_simp
        refine (G.out _).mono ?_
        rintro e wk ⟨rfl, rfl⟩
        refine hK.out _ _ ?_ (fun hHeld => ?_)
        · (have kk := box3_cells X0.out (btrans KB.out K.out); have ll := box3_cells Y0.out (btrans KB.out K.out); exact ⟨kk.1, kk.2.1, kk.2.2, ll.1, ll.2.1, ll.2.2⟩)
        clear hK K'
        (try simp only [Act.put])
        refine wpAnyH_take (i := 7) (v := ?_) rfl (by kernel_rfl) (by kernel_rfl) (by kernel_rfl) (fun _ _ _ h => h) (Or.inl ⟨by rfl, ?_⟩) (by assumption) ?_
        rotate_left 1
        · (intro w hSw; (try dsimp only at hSw); go_simp) <;> (with_reducible rfl)
        (try simp only [Act.put])
        refine wpAnyH_ready (rs := [8]) (by kernel_rfl) (by simp) ?_
        refine AllReadyH.cons (o := _) rfl (fun K' hK => ?_) AllReadyH.nil
        go_simp
        refine (D1.out _).mono ?_
        rintro e wk ⟨rfl, hbk⟩
        replace K := hide (by first | exact btrans K.out hbk | exact btrans (below_drewN K.out _) hbk)
        clear hbk
        refine hK.out _ _ ?_ (fun hHeld => ?_)
        · (have kk := box3_cells X0.out (btrans KB.out K.out); have ll := box3_cells Y0.out (btrans KB.out K.out); exact ⟨kk.1, kk.2.1, kk.2.2, ll.1, ll.2.1, ll.2.2⟩)
        clear hK K'
        (try simp only [Act.put])
        refine wpAnyH_take (i := 9) (v := ?_) rfl (by kernel_rfl) (by kernel_rfl) (by kernel_rfl) (fun _ _ _ h => h) (Or.inl ⟨by rfl, ?_⟩) (by assumption) ?_
        rotate_left 1
        · (intro w hSw; (try dsimp only at hSw); go_simp) <;> (with_reducible rfl)
        (try simp only [Act.put])
        refine wpAnyH_take (i := 10) (v := undef) rfl (by kernel_rfl) (by kernel_rfl) (by kernel_rfl) (fun _ _ _ h => h) (Or.inr ⟨by rfl, rfl⟩) (by assumption) ?_
        (try simp only [Act.put])
        refine wpAnyH_take (i := 11) (v := undef) rfl (by kernel_rfl) (by kernel_rfl) (by kernel_rfl) (fun _ _ _ h => h) (Or.inr ⟨by rfl, rfl⟩) (by assumption) ?_
        (try simp only [Act.put])
        refine wpAnyH_take (i := 12) (v := undef) rfl (by kernel_rfl) (by kernel_rfl) (by kernel_rfl) (fun _ _ _ h => h) (Or.inr ⟨by rfl, rfl⟩) (by assumption) ?_
        (try simp only [Act.put])
        refine wpAnyH_take (i := 13) (v := undef) rfl (by kernel_rfl) (by kernel_rfl) (by kernel_rfl) (fun _ _ _ h => h) (Or.inr ⟨by rfl, rfl⟩) (by assumption) ?_
        (try simp only [Act.put])
        refine wpAnyH_take (i := 14) (v := undef) rfl (by kernel_rfl) (by kernel_rfl) (by kernel_rfl) (fun _ _ _ h => h) (Or.inr ⟨by rfl, rfl⟩) (by assumption) ?_
        (try simp only [Act.put])
        refine wpAnyH_take (i := 16) (v := undef) rfl (by kernel_rfl) (by kernel_rfl) (by kernel_rfl) (fun _ _ _ h => h) (Or.inr ⟨by rfl, rfl⟩) (by assumption) ?_
        (try simp only [Act.put])
        refine wpAnyH_ready (rs := [15]) (by kernel_rfl) (by simp) ?_
        refine AllReadyH.cons (o := _) rfl (fun K' hK => ?_) AllReadyH.nil
        go_simp
        refine hK.out _ _ ?_ (fun hHeld => ?_)
        · (have kk := box3_cells X0.out (btrans KB.out K.out); have ll := box3_cells Y0.out (btrans KB.out K.out); exact ⟨kk.1, kk.2.1, kk.2.2, ll.1, ll.2.1, ll.2.2⟩)
        clear hK K'
        (try simp only [Act.put])
        refine wpAnyH_ready (rs := [17]) (by kernel_rfl) (by simp) ?_
        refine AllReadyH.cons (o := _) rfl (fun K' hK => ?_) AllReadyH.nil
        go_simp
        refine hK.out _ _ ?_ (fun hHeld => ?_)
        · (have kk := box3_cells X0.out (btrans KB.out K.out); have ll := box3_cells Y0.out (btrans KB.out K.out); exact ⟨kk.1, kk.2.1, kk.2.2, ll.1, ll.2.1, ll.2.2⟩)
        clear hK K'
        (try simp only [Act.put])
        refine wpAnyH_ready (rs := [18]) (by kernel_rfl) (by simp) ?_
        refine AllReadyH.cons (o := _) rfl (fun K' hK => ?_) AllReadyH.nil
        go_simp
        refine hK.out _ _ ?_ (fun hHeld => ?_)
        · (have kk := box3_cells X0.out (btrans KB.out K.out); have ll := box3_cells Y0.out (btrans KB.out K.out); exact ⟨kk.1, kk.2.1, kk.2.2, ll.1, ll.2.1, ll.2.2⟩)
        clear hK K'
        (try simp only [Act.put])
        refine wpAnyH_take (i := 19) (v := ?_) rfl (by kernel_rfl) (by kernel_rfl) (by kernel_rfl) (fun _ _ _ h => h) (Or.inl ⟨by rfl, ?_⟩) (by assumption) ?_
        rotate_left 1
        · (intro w hSw; (try dsimp only at hSw); go_simp) <;> (with_reducible rfl)
        (try simp only [Act.put])
        refine wpAnyH_done (by kernel_rfl) ?_ _
        refine NoPanic.normal ?_
        all_goals
          go_wp2
          go_roundw
          case rel => exact ⟨k + 1, by omega, by go_num, HM, btrans KB.out (by first | exact K.out | exact below_drewN K.out _)⟩
          case measure => simp [intOf]; omega
      · rw [hu] at D1 HN HH
        clear hu
        cases hv : cov (b0, b1', b2) b0 (gq + (k : Int))
        · rw [hv] at D2 HN
          have HM := hide (HN.out rfl)
          clear hv HN HH
          go_wp2
          obtain ⟨t, ht⟩ : ∃ t, t = gq + (k : Int) := ⟨_, rfl⟩
          rw [← ht] at D1 D2
          clear hx
          have hx : IntKind.i64.wrap (gq + (k : Int)) = t := by have := HGQ.out; rw [ht, IntKind.wrap_i64]; omega
          clear ht
          have K := hide (brefl wr)
          go_region_held3 (fun w' => w'.cell? ⟨w.heap.size, 0, none⟩ = some (.int .i64 a0) ∧ w'.cell? ⟨w.heap.size, 1, none⟩ = some (.int .i64 a1') ∧ w'.cell? ⟨w.heap.size, 2, none⟩ = some (.int .u64 a2) ∧ w'.cell? ⟨w.heap.size + 1, 0, none⟩ = some (.int .i64 b0) ∧ w'.cell? ⟨w.heap.size + 1, 1, none⟩ = some (.int .i64 b1') ∧ w'.cell? ⟨w.heap.size + 1, 2, none⟩ = some (.int .u64 b2))
            ((have kk := box3_cells X0.out (btrans KB.out K.out); have ll := box3_cells Y0.out (btrans KB.out K.out); exact ⟨kk.1, kk.2.1, kk.2.2, ll.1, ll.2.1, ll.2.2⟩))
            (first | (go_at_call 48; (with_reducible refine (G.out _).mono ?_); rintro e wk ⟨rfl, rfl⟩) | (go_at_call 37; (with_reducible refine (D1.out _).mono ?_); rintro e wk ⟨rfl, hbk⟩; replace K := hide (by first | exact btrans K.out hbk | exact btrans (below_drewN K.out _) hbk); clear hbk) | (go_at_call 37; (with_reducible refine (D2.out _).mono ?_); rintro e wk ⟨rfl, hbk⟩; replace K := hide (by first | exact btrans K.out hbk | exact btrans (below_drewN K.out _) hbk); clear hbk))
          all_goals
            go_wp2
            go_roundw
            case rel => exact ⟨k + 1, by omega, by go_num, HM, btrans KB.out (by first | exact K.out | exact below_drewN K.out _)⟩
            case measure => simp [intOf]; omega
        · rw [hv] at D2 HH
          have HM := hide (HH.out rfl rfl)
          clear hv HN HH
          go_wp2
          obtain ⟨t, ht⟩ : ∃ t, t = gq + (k : Int) := ⟨_, rfl⟩
          rw [← ht] at D1 D2
          clear hx
          have hx : IntKind.i64.wrap (gq + (k : Int)) = t := by have := HGQ.out; rw [ht, IntKind.wrap_i64]; omega
          clear ht
          have K := hide (brefl wr)
          go_region_held3 (fun w' => w'.cell? ⟨w.heap.size, 0, none⟩ = some (.int .i64 a0) ∧ w'.cell? ⟨w.heap.size, 1, none⟩ = some (.int .i64 a1') ∧ w'.cell? ⟨w.heap.size, 2, none⟩ = some (.int .u64 a2) ∧ w'.cell? ⟨w.heap.size + 1, 0, none⟩ = some (.int .i64 b0) ∧ w'.cell? ⟨w.heap.size + 1, 1, none⟩ = some (.int .i64 b1') ∧ w'.cell? ⟨w.heap.size + 1, 2, none⟩ = some (.int .u64 b2))
            ((have kk := box3_cells X0.out (btrans KB.out K.out); have ll := box3_cells Y0.out (btrans KB.out K.out); exact ⟨kk.1, kk.2.1, kk.2.2, ll.1, ll.2.1, ll.2.2⟩))
            (first | (go_at_call 48; (with_reducible refine (G.out _).mono ?_); rintro e wk ⟨rfl, rfl⟩) | (go_at_call 37; (with_reducible refine (D1.out _).mono ?_); rintro e wk ⟨rfl, hbk⟩; replace K := hide (by first | exact btrans K.out hbk | exact btrans (below_drewN K.out _) hbk); clear hbk) | (go_at_call 37; (with_reducible refine (D2.out _).mono ?_); rintro e wk ⟨rfl, hbk⟩; replace K := hide (by first | exact btrans K.out hbk | exact btrans (below_drewN K.out _) hbk); clear hbk))
          all_goals
            go_wp2
            go_ret
            exact ⟨ret_bool HM.out.symm, btrans K0.out (btrans KB.out (by first | exact K.out | exact below_drewN K.out _))⟩
    · have HM := hide (H2.out (fun i hi => HI.out i (by omega)))
      have hk8 : ¬ (k : Int) < 8 := by omega
      clear hbw
      go_wp2
      go_ret
      exact ⟨ret_bool HM.out.symm, btrans K0.out KB.out⟩
end Go.Proofs.Ythoeolaleeogbaa.Tb
