import Derived.Test.YtimclgmajhhheaaPgM
namespace Go.Proofs.Ytimclgmajhhheaa.Rg
open Go Go.RowKit Ac
set_option linter.unusedVariables false
set_option linter.unusedSimpArgs false
set_option maxRecDepth 100000 in
set_option maxHeartbeats 8000000 in
theorem law_pages (st pg pr fl fi ix : Int) (a n : Int) (hn : n ≤ 9223372036854775807) (w : World) (hp : pg ≤ 9223372036854775807) : Calls Try.prog 16 #[.agg #[.int .i64 st, .int .i64 pg, .int .i64 pr, .int .i64 fl, .int .i64 fi, .int .i64 ix], .int .i64 a, .int .i64 n] w fun e w' => e = .returned (.bool true) ∧ Below w.heap.size w w' := by
  have AWK := hide (fun w => awake_any w)
  have X := hide (RB.new w st pg pr fl fi ix)
  have K := hide (bal (brefl w) (.cells #[.int .i64 st, .int .i64 pg, .int .i64 pr, .int .i64 fl, .int .i64 fi, .int .i64 ix] 58))
  obtain ⟨W0, hW0⟩ : ∃ W0, W0 = w.alloc (.cells #[.int .i64 st, .int .i64 pg, .int .i64 pr, .int .i64 fl, .int .i64 fi, .int .i64 ix] 58) := ⟨_, rfl⟩
  rw [← hW0] at X K
  obtain ⟨g2, hg2⟩ : ∃ g2, g2 = w.heap.size := ⟨_, rfl⟩
  rw [← hg2] at X
  have HW := hide hW0
  have HB := hide hg2
  clear hW0 hg2
  have M1 := fun w => cut_any st pg pr fl fi ix w hp a n hn
  unfold CuR at M1
  by_cases he : cuE ⟨st, pg, pr, fl, fi, ix⟩ a n = 0
  rotate_left 1
  · have hl := cu_bad rfl he
    rw [hl] at M1
    replace M1 := hide M1
    have he2 := ne_bool he
    generalize cuE ⟨st, pg, pr, fl, fi, ix⟩ a n = ce at *
    clear hl he
    go_enter Try.func16, Try.ntmps16
    go_upto_region 1 with fail
    rw [← HW.out, ← HB.out]
    clear HW HB
    try clear x0 x1 x2 x3 x4 x5
    obtain ⟨x0, x1, x2, x3, x4, x5⟩ := RB.cells X.out
    go_wp2_with fail
    refine (M1.out _).mono ?_
    rintro e w2 ⟨A1, c1, rfl, hr, hb⟩
    have Q := hide hr
    replace K := hide (btrans K.out hb)
    replace X := hide (X.out.below hb)
    clear hb hr
    clear x0 x1 x2 x3 x4 x5 X Q
    go_wp2_with fail
    refine (AWK.out _).mono ?_
    rintro e w6 ⟨rfl, hb⟩
    replace K := hide (btrans K.out hb)
    clear hb
    go_wp2
    go_ret
    exact ⟨rfl, K.out⟩
  have hk := (cu_ok he).1
  have ha := (cu_ok he).2.2.1
  have han := (cu_ok he).2.2.2
  have hn1 := (cu_ok he).2.1
  have o1 := hk.1.1
  have o2 := hk.2.1
  have o3 := hk.2.2.1
  dsimp only at o1 o2 o3
  have PC := hide (fun k h => cu_each he (k := k) h)
  have CT := hide (fun x h1 h2 => cu_cnt (x := x) he h1 h2)
  have SM := hide (cu_sum he)
  have LL := cu_len ⟨st, pg, pr, fl, fi, ix⟩ a n
  rw [he] at M1
  replace M1 := hide M1
  have HS := hide (fun x w => has_any st pg pr fl fi ix w hp x)
  have PG := hide (fun x w => page_any st pg pr fl fi ix w hp x)
  have HR := hide (fun x (h1 : st ≤ x) (h2 : x < st + pg) => (has_iff hk x).2 ⟨h1, h2⟩)
  clear he hk
  generalize cuL ⟨st, pg, pr, fl, fi, ix⟩ a n = L at *
  dsimp only at CT SM
  go_enter Try.func16, Try.ntmps16
  go_upto_region 1 with fail
  rw [← HW.out, ← HB.out]
  clear HW HB
  try clear x0 x1 x2 x3 x4 x5
  obtain ⟨x0, x1, x2, x3, x4, x5⟩ := RB.cells X.out
  go_wp2_with fail
  refine (M1.out _).mono ?_
  rintro e w2 ⟨A1, c1, rfl, hr, hb⟩
  have Q := hide hr
  replace K := hide (btrans K.out hb)
  replace X := hide (X.out.below hb)
  clear hb hr
  try clear x0 x1 x2 x3 x4 x5
  obtain ⟨x0, x1, x2, x3, x4, x5⟩ := RB.cells X.out
  have LL2 : (L.length : Int) ≤ 2 := by omega
  go_upto_region 6 with fail
  go_wp2
  clear x0 x1 x2 x3 x4 x5
  go_loopw [9, 10, 11, 12] (fun p _ _ _ wr => ∃ x : Int, st ≤ x ∧ x ≤ st + pg ∧ p = .int .i64 x ∧ Hid (RB wr g2 ⟨st, pg, pr, fl, fi, ix⟩) ∧ Hid (Rs wr A1 L) ∧ Hid (Below w.heap.size w wr)) (fun p _ _ _ _ => (st + pg - intOf p).toNat)
  case atStart => exact ⟨st, Int.le_refl _, by omega, rfl, X, Q, K⟩
  case round =>
    clear X Q K
    obtain ⟨x, hx0, hx1, rfl, X, Q, K⟩ := hrel
    try clear x0 x1 x2 x3 x4 x5
    obtain ⟨x0, x1, x2, x3, x4, x5⟩ := RB.cells X.out
    by_cases hlt : x < st + pg
    · go_wp2
      clear x0 x1 x2 x3 x4 x5
      obtain ⟨wo, rfl⟩ : ∃ wo : World, wo = wr := ⟨_, rfl⟩
      go_loopw [10, 11] (fun n' i wi => ∃ k : Nat, k ≤ L.length ∧ i = .int .i64 k ∧ n' = .int .i64 (cntH L x k) ∧ Hid (RB wi g2 ⟨st, pg, pr, fl, fi, ix⟩) ∧ Hid (Rs wi A1 L) ∧ Hid (Below w.heap.size w wi)) (fun _ i _ => L.length - (intOf i).toNat)
      case atStart => exact ⟨0, by omega, rfl, rfl, X, Q, K⟩
      case round =>
        clear X Q K
        obtain ⟨wi, rfl⟩ : ∃ wi : World, wi = wr := ⟨_, rfl⟩
        obtain ⟨k, hk, rfl, rfl, X, Q, K⟩ := hrel
        by_cases hlt2 : k < L.length
        · have hl2 : (k : Int) < (L.length : Int) := by omega
          have hk0 : (0 : Int) ≤ (k : Int) := by omega
          obtain ⟨b, off, rfl, hbl, -⟩ := Q.out.cells (brefl _) hlt2
          have CE0 := fun W (hW : Below wi.heap.size wi W) => Rs.at (Q.out.below hW) hlt2
          have pc := PC.out k hlt2
          have cbd := cnt_bd L x k
          have ct := cnt_t (L := L) (x := x) (k := k)
          have cf := cnt_f (L := L) (x := x) (k := k)
          obtain ⟨cn, hcn⟩ : ∃ c, c = cntH L x k := ⟨_, rfl⟩
          obtain ⟨cn2, hcn2⟩ : ∃ c, c = cntH L x (k + 1) := ⟨_, rfl⟩
          rw [← hcn] at cbd ct cf ⊢
          rw [← hcn2] at ct cf
          have HCN2 := hide hcn2
          clear hcn hcn2
          obtain ⟨q, hq⟩ : ∃ q, q = rAt L k := ⟨_, rfl⟩
          rw [← hq] at CE0 pc ct cf
          clear hq
          obtain ⟨q0, q1, q2, q3, q4, q5⟩ := q
          obtain ⟨ok, epr, efi, epg, ele⟩ := pc
          dsimp only at CE0 epr efi ele
          subst epr efi
          have hq1 : q1 ≤ 9223372036854775807 := by omega
          have CE := hide CE0
          have KQ := hide (brefl wi)
          have HA := hide (fun w => has_any q0 q1 q2 q3 q4 q5 w hq1 x)
          have PA := hide (fun w => page_any q0 q1 q2 q3 q4 q5 w hq1 x)
          have PX := hide (fun w => PG.out x w)
          clear CE0
          by_cases hh : hasB ⟨q0, q1, q2, q3, q4, q5⟩ x = true
          · have e1 := ct hh
            have e2 := epg x hh
            rw [hh] at HA
            rw [e2] at PA
            have E1 := hide e1
            obtain ⟨pe, hpe⟩ : ∃ v, v = pgE ⟨st, pg, q2, fl, q4, ix⟩ x := ⟨_, rfl⟩
            rw [← hpe] at PA PX
            clear hpe
            clear e1 e2 ct cf hh epg ok
            try clear y0 y1 y2 y3 y4 y5
            obtain ⟨y0, y1, y2, y3, y4, y5⟩ := CE.out _ KQ.out
            go_wp2_with fail
            refine (HA.out _).mono ?_
            rintro e w4 ⟨rfl, hb⟩
            replace K := hide (btrans K.out hb)
            replace X := hide (X.out.below hb)
            replace Q := hide (Q.out.below hb)
            replace KQ := hide (btrans KQ.out hb)
            clear hb
            clear y0 y1 y2 y3 y4 y5
            go_upto_region 15 with fail
            replace K := hide (show Below w.heap.size w w4.drew from btrans K.out (below_drewN (brefl _) 1))
            replace X := hide (X.out.below (show Below w4.heap.size w4 w4.drew from below_drewN (brefl _) 1))
            replace Q := hide (Q.out.below (show Below w4.heap.size w4 w4.drew from below_drewN (brefl _) 1))
            replace KQ := hide (show Below wi.heap.size wi w4.drew from btrans KQ.out (below_drewN (brefl _) 1))
            refine wp_region_noPanic ?_
            refine wp_region_held_drew (S := (fun W => (W.cell? ⟨g2, 0, none⟩ = some (.int .i64 st) ∧ W.cell? ⟨g2, 1, none⟩ = some (.int .i64 pg) ∧ W.cell? ⟨g2, 2, none⟩ = some (.int .i64 q2) ∧ W.cell? ⟨g2, 3, none⟩ = some (.int .i64 fl) ∧ W.cell? ⟨g2, 4, none⟩ = some (.int .i64 q4) ∧ W.cell? ⟨g2, 5, none⟩ = some (.int .i64 ix)) ∧ (W.cell? ⟨b, off + k * 6, none⟩ = some (.int .i64 q0) ∧ W.cell? ⟨b, off + k * 6 + 1, none⟩ = some (.int .i64 q1) ∧ W.cell? ⟨b, off + k * 6 + 2, none⟩ = some (.int .i64 q2) ∧ W.cell? ⟨b, off + k * 6 + 3, none⟩ = some (.int .i64 q3) ∧ W.cell? ⟨b, off + k * 6 + 4, none⟩ = some (.int .i64 q4) ∧ W.cell? ⟨b, off + k * 6 + 5, none⟩ = some (.int .i64 q5)))) (by kernel_rfl) ?_ (fun hHeld => ?_)
            · exact ⟨RB.cells X.out, CE.out _ KQ.out⟩
            refine wpAnyH_take (i := 0) (oi := ⟨some 78, _, _, _, _, _⟩) (v := ?_) rfl (by kernel_rfl) (by kernel_rfl) (by kernel_rfl) (fun _ _ _ h => h) (Or.inl ⟨by kernel_rfl, ?_⟩) (by assumption) ?_
            rotate_left 1
            · (intro w hSw; (try dsimp only at hSw); go_simp) <;> (with_reducible rfl)
            (try simp only [Act.put, List.setIfInBounds_toArray, List.set_cons_succ, List.set_cons_zero])
            refine wpAnyH_take (i := 1) (oi := ⟨some 79, _, _, _, _, _⟩) (v := ?_) rfl (by kernel_rfl) (by kernel_rfl) (by kernel_rfl) (fun _ _ _ h => h) (Or.inl ⟨by kernel_rfl, ?_⟩) (by assumption) ?_
            rotate_left 1
            · (intro w hSw; (try dsimp only at hSw); go_simp) <;> (with_reducible rfl)
            (try simp only [Act.put, List.setIfInBounds_toArray, List.set_cons_succ, List.set_cons_zero])
            refine wpAnyH_take (i := 2) (oi := ⟨some 80, _, _, _, _, _⟩) (v := ?_) rfl (by kernel_rfl) (by kernel_rfl) (by kernel_rfl) (fun _ _ _ h => h) (Or.inl ⟨by kernel_rfl, ?_⟩) (by assumption) ?_
            rotate_left 1
            · (intro w hSw; (try dsimp only at hSw); go_simp) <;> (with_reducible rfl)
            (try simp only [Act.put, List.setIfInBounds_toArray, List.set_cons_succ, List.set_cons_zero])
            refine wpAnyH_take (i := 3) (oi := ⟨some 81, _, _, _, _, _⟩) (v := ?_) rfl (by kernel_rfl) (by kernel_rfl) (by kernel_rfl) (fun _ _ _ h => h) (Or.inl ⟨by kernel_rfl, ?_⟩) (by assumption) ?_
            rotate_left 1
            · (intro w hSw; (try dsimp only at hSw); go_simp) <;> (with_reducible rfl)
            (try simp only [Act.put, List.setIfInBounds_toArray, List.set_cons_succ, List.set_cons_zero])
            refine wpAnyH_take (i := 4) (oi := ⟨some 82, _, _, _, _, _⟩) (v := ?_) rfl (by kernel_rfl) (by kernel_rfl) (by kernel_rfl) (fun _ _ _ h => h) (Or.inl ⟨by kernel_rfl, ?_⟩) (by assumption) ?_
            rotate_left 1
            · (intro w hSw; (try dsimp only at hSw); go_simp) <;> (with_reducible rfl)
            (try simp only [Act.put, List.setIfInBounds_toArray, List.set_cons_succ, List.set_cons_zero])
            refine wpAnyH_take (i := 6) (oi := ⟨some 84, _, _, _, _, _⟩) (v := ?_) rfl (by kernel_rfl) (by kernel_rfl) (by kernel_rfl) (fun _ _ _ h => h) (Or.inl ⟨by kernel_rfl, ?_⟩) (by assumption) ?_
            rotate_left 1
            · (intro w hSw; (try dsimp only at hSw); go_simp) <;> (with_reducible rfl)
            (try simp only [Act.put, List.setIfInBounds_toArray, List.set_cons_succ, List.set_cons_zero])
            refine wpAnyH_take (i := 7) (oi := ⟨some 85, _, _, _, _, _⟩) (v := ?_) rfl (by kernel_rfl) (by kernel_rfl) (by kernel_rfl) (fun _ _ _ h => h) (Or.inl ⟨by kernel_rfl, ?_⟩) (by assumption) ?_
            rotate_left 1
            · (intro w hSw; (try dsimp only at hSw); go_simp) <;> (with_reducible rfl)
            (try simp only [Act.put, List.setIfInBounds_toArray, List.set_cons_succ, List.set_cons_zero])
            refine wpAnyH_ready (rs := [5]) (by kernel_rfl) (by simp) ?_
            refine AllReadyH.cons (o := ⟨some 83, _, _, _, _, _⟩) rfl (fun K' hK => ?_) AllReadyH.nil
            go_simp
            refine (PA.out _).mono ?_
            rintro e w5 ⟨rfl, hb⟩
            replace K := hide (btrans K.out hb)
            replace X := hide (X.out.below hb)
            replace Q := hide (Q.out.below hb)
            replace KQ := hide (btrans KQ.out hb)
            clear hb
            refine hK.out _ _ ?_ (fun hHeld => ?_)
            · exact ⟨RB.cells X.out, CE.out _ KQ.out⟩
            clear hK K'
            (try simp only [Act.put, List.setIfInBounds_toArray, List.set_cons_succ, List.set_cons_zero])
            refine wpAnyH_ready (rs := [8]) (by kernel_rfl) (by simp) ?_
            refine AllReadyH.cons (o := ⟨some 86, _, _, _, _, _⟩) rfl (fun K' hK => ?_) AllReadyH.nil
            go_simp
            refine (PX.out _).mono ?_
            rintro e w6 ⟨rfl, hb⟩
            replace K := hide (btrans K.out hb)
            replace X := hide (X.out.below hb)
            replace Q := hide (Q.out.below hb)
            replace KQ := hide (btrans KQ.out hb)
            clear hb
            refine hK.out _ _ ?_ (fun hHeld => ?_)
            · exact ⟨RB.cells X.out, CE.out _ KQ.out⟩
            clear hK K'
            (try simp only [Act.put, List.setIfInBounds_toArray, List.set_cons_succ, List.set_cons_zero])
            refine wpAnyH_take (i := 9) (oi := ⟨some 87, _, _, _, _, _⟩) (v := ?_) rfl (by kernel_rfl) (by kernel_rfl) (by kernel_rfl) (fun _ _ _ h => h) (Or.inl ⟨by kernel_rfl, ?_⟩) (by assumption) ?_
            rotate_left 1
            · (intro w hSw; (try dsimp only at hSw); go_simp) <;> (with_reducible rfl)
            (try simp only [Act.put, List.setIfInBounds_toArray, List.set_cons_succ, List.set_cons_zero])
            refine wpAnyH_take (i := 10) (oi := ⟨some 88, _, _, _, _, _⟩) (v := ?_) rfl (by kernel_rfl) (by kernel_rfl) (by kernel_rfl) (fun _ _ _ h => h) (Or.inl ⟨by kernel_rfl, ?_⟩) (by assumption) ?_
            rotate_left 1
            · (intro w hSw; (try dsimp only at hSw); go_simp) <;> (with_reducible rfl)
            (try simp only [Act.put, List.setIfInBounds_toArray, List.set_cons_succ, List.set_cons_zero])
            refine wpAnyH_take (i := 11) (oi := ⟨some 89, _, _, _, _, _⟩) (v := ?_) rfl (by kernel_rfl) (by kernel_rfl) (by kernel_rfl) (fun _ _ _ h => h) (Or.inl ⟨by kernel_rfl, ?_⟩) (by assumption) ?_
            rotate_left 1
            · (intro w hSw; (try dsimp only at hSw); go_simp) <;> (with_reducible rfl)
            (try simp only [Act.put, List.setIfInBounds_toArray, List.set_cons_succ, List.set_cons_zero])
            refine wpAnyH_take (i := 12) (oi := ⟨some 90, _, _, _, _, _⟩) (v := ?_) rfl (by kernel_rfl) (by kernel_rfl) (by kernel_rfl) (fun _ _ _ h => h) (Or.inl ⟨by kernel_rfl, ?_⟩) (by assumption) ?_
            rotate_left 1
            · (intro w hSw; (try dsimp only at hSw); go_simp) <;> (with_reducible rfl)
            (try simp only [Act.put, List.setIfInBounds_toArray, List.set_cons_succ, List.set_cons_zero])
            refine wpAnyH_take (i := 13) (oi := ⟨some 91, _, _, _, _, _⟩) (v := ?_) rfl (by kernel_rfl) (by kernel_rfl) (by kernel_rfl) (fun _ _ _ h => h) (Or.inl ⟨by kernel_rfl, ?_⟩) (by assumption) ?_
            rotate_left 1
            · (intro w hSw; (try dsimp only at hSw); go_simp) <;> (with_reducible rfl)
            (try simp only [Act.put, List.setIfInBounds_toArray, List.set_cons_succ, List.set_cons_zero])
            refine wpAnyH_take (i := 14) (oi := ⟨some 92, _, _, _, _, _⟩) (v := ?_) rfl (by kernel_rfl) (by kernel_rfl) (by kernel_rfl) (fun _ _ _ h => h) (Or.inl ⟨by kernel_rfl, ?_⟩) (by assumption) ?_
            rotate_left 1
            · (intro w hSw; (try dsimp only at hSw); go_simp) <;> (with_reducible rfl)
            (try simp only [Act.put, List.setIfInBounds_toArray, List.set_cons_succ, List.set_cons_zero])
            refine wpAnyH_take (i := 15) (oi := ⟨some 93, _, _, _, _, _⟩) (v := ?_) rfl (by kernel_rfl) (by kernel_rfl) (by kernel_rfl) (fun _ _ _ h => h) (Or.inl ⟨by kernel_rfl, ?_⟩) (by assumption) ?_
            rotate_left 1
            · (intro w hSw; (try dsimp only at hSw); go_simp) <;> (with_reducible rfl)
            (try simp only [Act.put, List.setIfInBounds_toArray, List.set_cons_succ, List.set_cons_zero])
            refine wpAnyH_take (i := 16) (oi := ⟨some 94, _, _, _, _, _⟩) (v := ?_) rfl (by kernel_rfl) (by kernel_rfl) (by kernel_rfl) (fun _ _ _ h => h) (Or.inl ⟨by kernel_rfl, ?_⟩) (by assumption) ?_
            rotate_left 1
            · (intro w hSw; (try dsimp only at hSw); go_simp) <;> (with_reducible rfl)
            (try simp only [Act.put, List.setIfInBounds_toArray, List.set_cons_succ, List.set_cons_zero])
            refine wpAnyH_take (i := 17) (oi := ⟨some 95, _, _, _, _, _⟩) (v := ?_) rfl (by kernel_rfl) (by kernel_rfl) (by kernel_rfl) (fun _ _ _ h => h) (Or.inl ⟨by kernel_rfl, ?_⟩) (by assumption) ?_
            rotate_left 1
            · (intro w hSw; (try dsimp only at hSw); go_simp) <;> (with_reducible rfl)
            (try simp only [Act.put, List.setIfInBounds_toArray, List.set_cons_succ, List.set_cons_zero])
            refine wpAnyH_take (i := 18) (oi := ⟨some 96, _, _, _, _, _⟩) (v := ?_) rfl (by kernel_rfl) (by kernel_rfl) (by kernel_rfl) (fun _ _ _ h => h) (Or.inl ⟨by kernel_rfl, ?_⟩) (by assumption) ?_
            rotate_left 1
            · (intro w hSw; (try dsimp only at hSw); go_simp) <;> (with_reducible rfl)
            (try simp only [Act.put, List.setIfInBounds_toArray, List.set_cons_succ, List.set_cons_zero])
            refine wpAnyH_take (i := 19) (oi := ⟨some 97, _, _, _, _, _⟩) (v := ?_) rfl (by kernel_rfl) (by kernel_rfl) (by kernel_rfl) (fun _ _ _ h => h) (Or.inl ⟨by kernel_rfl, ?_⟩) (by assumption) ?_
            rotate_left 1
            · (intro w hSw; (try dsimp only at hSw); go_simp) <;> (with_reducible rfl)
            (try simp only [Act.put, List.setIfInBounds_toArray, List.set_cons_succ, List.set_cons_zero])
            refine wpAnyH_take (i := 20) (oi := ⟨some 98, _, _, _, _, _⟩) (v := ?_) rfl (by kernel_rfl) (by kernel_rfl) (by kernel_rfl) (fun _ _ _ h => h) (Or.inl ⟨by kernel_rfl, ?_⟩) (by assumption) ?_
            rotate_left 1
            · (intro w hSw; (try dsimp only at hSw); go_simp) <;> (with_reducible rfl)
            (try simp only [Act.put, List.setIfInBounds_toArray, List.set_cons_succ, List.set_cons_zero])
            refine wpAnyH_take (i := 21) (oi := ⟨some 99, _, _, _, _, _⟩) (v := ?_) rfl (by kernel_rfl) (by kernel_rfl) (by kernel_rfl) (fun _ _ _ h => h) (Or.inl ⟨by kernel_rfl, ?_⟩) (by assumption) ?_
            rotate_left 1
            · (intro w hSw; (try dsimp only at hSw); go_simp) <;> (with_reducible rfl)
            (try simp only [Act.put, List.setIfInBounds_toArray, List.set_cons_succ, List.set_cons_zero])
            refine wpAnyH_take (i := 22) (oi := ⟨some 100, _, _, _, _, _⟩) (v := ?_) rfl (by kernel_rfl) (by kernel_rfl) (by kernel_rfl) (fun _ _ _ h => h) (Or.inl ⟨by kernel_rfl, ?_⟩) (by assumption) ?_
            rotate_left 1
            · (intro w hSw; (try dsimp only at hSw); go_simp) <;> (with_reducible rfl)
            (try simp only [Act.put, List.setIfInBounds_toArray, List.set_cons_succ, List.set_cons_zero])
            refine wpAnyH_take (i := 23) (oi := ⟨some 101, _, _, _, _, _⟩) (v := ?_) rfl (by kernel_rfl) (by kernel_rfl) (by kernel_rfl) (fun _ _ _ h => h) (Or.inl ⟨by kernel_rfl, ?_⟩) (by assumption) ?_
            rotate_left 1
            · (intro w hSw; (try dsimp only at hSw); go_simp) <;> (with_reducible rfl)
            (try simp only [Act.put, List.setIfInBounds_toArray, List.set_cons_succ, List.set_cons_zero])
            refine wpAnyH_take (i := 24) (oi := ⟨some 102, _, _, _, _, _⟩) (v := ?_) rfl (by kernel_rfl) (by kernel_rfl) (by kernel_rfl) (fun _ _ _ h => h) (Or.inl ⟨by kernel_rfl, ?_⟩) (by assumption) ?_
            rotate_left 1
            · (intro w hSw; (try dsimp only at hSw); go_simp) <;> (with_reducible rfl)
            (try simp only [Act.put, List.setIfInBounds_toArray, List.set_cons_succ, List.set_cons_zero])
            refine wpAnyH_take (i := 25) (oi := ⟨some 103, _, _, _, _, _⟩) (v := ?_) rfl (by kernel_rfl) (by kernel_rfl) (by kernel_rfl) (fun _ _ _ h => h) (Or.inl ⟨by kernel_rfl, ?_⟩) (by assumption) ?_
            rotate_left 1
            · (intro w hSw; (try dsimp only at hSw); go_simp) <;> (with_reducible rfl)
            (try simp only [Act.put, List.setIfInBounds_toArray, List.set_cons_succ, List.set_cons_zero])
            refine wpAnyH_take (i := 26) (oi := ⟨some 104, _, _, _, _, _⟩) (v := ?_) rfl (by kernel_rfl) (by kernel_rfl) (by kernel_rfl) (fun _ _ _ h => h) (Or.inl ⟨by kernel_rfl, ?_⟩) (by assumption) ?_
            rotate_left 1
            · (intro w hSw; (try dsimp only at hSw); go_simp) <;> (with_reducible rfl)
            (try simp only [Act.put, List.setIfInBounds_toArray, List.set_cons_succ, List.set_cons_zero])
            refine wpAnyH_take (i := 27) (oi := ⟨some 105, _, _, _, _, _⟩) (v := ?_) rfl (by kernel_rfl) (by kernel_rfl) (by kernel_rfl) (fun _ _ _ h => h) (Or.inl ⟨by kernel_rfl, ?_⟩) (by assumption) ?_
            rotate_left 1
            · (intro w hSw; (try dsimp only at hSw); go_simp) <;> (with_reducible rfl)
            (try simp only [Act.put, List.setIfInBounds_toArray, List.set_cons_succ, List.set_cons_zero])
            refine wpAnyH_take (i := 28) (oi := ⟨some 106, _, _, _, _, _⟩) (v := ?_) rfl (by kernel_rfl) (by kernel_rfl) (by kernel_rfl) (fun _ _ _ h => h) (Or.inl ⟨by kernel_rfl, ?_⟩) (by assumption) ?_
            rotate_left 1
            · (intro w hSw; (try dsimp only at hSw); go_simp) <;> (with_reducible rfl)
            (try simp only [Act.put, List.setIfInBounds_toArray, List.set_cons_succ, List.set_cons_zero])
            refine wpAnyH_take (i := 29) (oi := ⟨some 107, _, _, _, _, _⟩) (v := ?_) rfl (by kernel_rfl) (by kernel_rfl) (by kernel_rfl) (fun _ _ _ h => h) (Or.inl ⟨by kernel_rfl, ?_⟩) (by assumption) ?_
            rotate_left 1
            · (intro w hSw; (try dsimp only at hSw); go_simp) <;> (with_reducible rfl)
            (try simp only [Act.put, List.setIfInBounds_toArray, List.set_cons_succ, List.set_cons_zero])
            refine wpAnyH_done (by kernel_rfl) ?_ _
            refine NoPanic.normal ?_
            go_wp2
            go_roundw
            case rel => exact ⟨k + 1, by omega, by go_num, by rw [← HCN2.out, E1.out], X, Q, K⟩
            case measure => simp [intOf]; omega
          · rw [Bool.not_eq_true] at hh
            have e1 := cf hh
            rw [hh] at HA
            have E1 := hide e1
            clear e1 ct cf hh epg ok
            try clear y0 y1 y2 y3 y4 y5
            obtain ⟨y0, y1, y2, y3, y4, y5⟩ := CE.out _ KQ.out
            go_wp2_with fail
            refine (HA.out _).mono ?_
            rintro e w4 ⟨rfl, hb⟩
            replace K := hide (btrans K.out hb)
            replace X := hide (X.out.below hb)
            replace Q := hide (Q.out.below hb)
            replace KQ := hide (btrans KQ.out hb)
            clear hb
            clear y0 y1 y2 y3 y4 y5
            go_wp2
            go_roundw
            case rel => exact ⟨k + 1, by omega, by go_num, by rw [← HCN2.out, E1.out], X, Q, K⟩
            case measure => simp [intOf]; omega
        · obtain rfl : k = L.length := by omega
          clear hlt2
          have HX := hide (fun w => HS.out x w)
          have hrx := HR.out x hx0 hlt
          rw [hrx] at HX
          clear hrx
          try clear x0 x1 x2 x3 x4 x5
          obtain ⟨x0, x1, x2, x3, x4, x5⟩ := RB.cells X.out
          by_cases g1 : a ≤ x
          · by_cases g2' : x - a < n
            · have E := hide (CT.out x hx0 hlt)
              unfold wantI at E
              rw [if_pos ⟨g1, g2'⟩] at E
              rw [E.out]
              clear E
              go_wp2_with fail
              refine (HX.out _).mono ?_
              rintro e w7 ⟨rfl, hb⟩
              replace K := hide (btrans K.out hb)
              replace X := hide (X.out.below hb)
              replace Q := hide (Q.out.below hb)
              clear hb x0 x1 x2 x3 x4 x5
              go_wp2
              go_roundw
              case rel => exact ⟨x + 1, by omega, by omega, rfl, X, Q, K⟩
              case measure => simp [intOf]; omega
            · have E := hide (CT.out x hx0 hlt)
              unfold wantI at E
              rw [if_neg (fun h => g2' h.2)] at E
              rw [E.out]
              clear E
              go_wp2_with fail
              refine (HX.out _).mono ?_
              rintro e w7 ⟨rfl, hb⟩
              replace K := hide (btrans K.out hb)
              replace X := hide (X.out.below hb)
              replace Q := hide (Q.out.below hb)
              clear hb x0 x1 x2 x3 x4 x5
              go_wp2
              go_roundw
              case rel => exact ⟨x + 1, by omega, by omega, rfl, X, Q, K⟩
              case measure => simp [intOf]; omega
          · have E := hide (CT.out x hx0 hlt)
            unfold wantI at E
            rw [if_neg (fun h => g1 h.1)] at E
            rw [E.out]
            clear E
            go_wp2_with fail
            refine (HX.out _).mono ?_
            rintro e w7 ⟨rfl, hb⟩
            replace K := hide (btrans K.out hb)
            replace X := hide (X.out.below hb)
            replace Q := hide (Q.out.below hb)
            clear hb x0 x1 x2 x3 x4 x5
            go_wp2
            go_roundw
            case rel => exact ⟨x + 1, by omega, by omega, rfl, X, Q, K⟩
            case measure => simp [intOf]; omega
    · have SB := hide (fun k (h : k ≤ L.length) => sum_bd (L := L) (fun k h => ⟨by have := (PC.out k h).ok.1.1; omega, by have := (PC.out k h).le; dsimp only at this; omega⟩) k h)
      go_wp2
      clear x0 x1 x2 x3 x4 x5
      go_loopw [13, 14] (fun s i wi => ∃ k : Nat, k ≤ L.length ∧ i = .int .i64 k ∧ s = .int .i64 (sumP L k) ∧ Hid (RB wi g2 ⟨st, pg, pr, fl, fi, ix⟩) ∧ Hid (Rs wi A1 L) ∧ Hid (Below w.heap.size w wi)) (fun _ i _ => L.length - (intOf i).toNat)
      case atStart => exact ⟨0, by omega, rfl, rfl, X, Q, K⟩
      case round =>
        clear X Q K
        obtain ⟨wi, rfl⟩ : ∃ wi : World, wi = wr := ⟨_, rfl⟩
        obtain ⟨k, hk, rfl, rfl, X, Q, K⟩ := hrel
        have sb := SB.out k hk
        by_cases hlt2 : k < L.length
        · have hl2 : (k : Int) < (L.length : Int) := by omega
          have hk0 : (0 : Int) ≤ (k : Int) := by omega
          obtain ⟨b, off, rfl, hbl, -⟩ := Q.out.cells (brefl _) hlt2
          have CE0 := fun W (hW : Below wi.heap.size wi W) => Rs.at (Q.out.below hW) hlt2
          have pc := PC.out k hlt2
          have es : sumP L (k + 1) = sumP L k + (rAt L k).pg := rfl
          obtain ⟨s0, hs0⟩ : ∃ c, c = sumP L k := ⟨_, rfl⟩
          rw [← hs0] at sb es ⊢
          clear hs0
          obtain ⟨q, hq⟩ : ∃ q, q = rAt L k := ⟨_, rfl⟩
          rw [← hq] at CE0 pc es
          clear hq
          obtain ⟨q0, q1, q2, q3, q4, q5⟩ := q
          have hq1 := pc.le
          have hq0 := pc.ok.1.1
          have ck := ok_iff.2 pc.ok
          dsimp only at CE0 hq1 hq0 es
          have CK := hide (fun w => check_any q0 q1 q2 q3 q4 q5 w (by omega))
          rw [ck] at CK
          have CE := hide CE0
          have ES := hide es
          have KQ := hide (brefl wi)
          clear CE0 pc ck es
          try clear y0 y1 y2 y3 y4 y5
          obtain ⟨y0, y1, y2, y3, y4, y5⟩ := CE.out _ KQ.out
          go_wp2_with fail
          refine (CK.out _).mono ?_
          rintro e w4 ⟨rfl, hb⟩
          replace K := hide (btrans K.out hb)
          replace X := hide (X.out.below hb)
          replace Q := hide (Q.out.below hb)
          replace KQ := hide (btrans KQ.out hb)
          clear hb
          try clear y0 y1 y2 y3 y4 y5
          obtain ⟨y0, y1, y2, y3, y4, y5⟩ := CE.out _ KQ.out
          go_wp2
          go_roundw
          case rel => exact ⟨k + 1, by omega, by go_num, by rw [ES.out], X, Q, K⟩
          case measure => simp [intOf]; omega
        · obtain rfl : k = L.length := by omega
          clear hlt2
          have sm := SM.out
          generalize sumP L L.length = sl at *
          try clear x0 x1 x2 x3 x4 x5
          obtain ⟨x0, x1, x2, x3, x4, x5⟩ := RB.cells X.out
          go_wp2_with fail
          refine (AWK.out _).mono ?_
          rintro e w9 ⟨rfl, hb⟩
          replace K := hide (btrans K.out hb)
          clear hb
          go_wp2
          go_ret
          exact ⟨rfl, K.out⟩
end Go.Proofs.Ytimclgmajhhheaa.Rg
