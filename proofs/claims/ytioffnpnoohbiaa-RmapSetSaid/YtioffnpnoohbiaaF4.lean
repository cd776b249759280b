import Derived.Shelf.Abstract
import Derived.Test.YtioffnpnoohbiaaF3
namespace Go.Proofs.Ytioffnpnoohbiaa.Rm
open Go Go.RowKit
set_option linter.unusedVariables false
set_option linter.unusedSimpArgs false
def hitB (L : List Mp) (m : Mp) : Bool := decide (ix L m < L.length ∧ at' L (ix L m) = m)
def Enters (g : Nat) : Prop := ∀ args w, (callFunc g args).run Try.prog w = .ok (.enter g args) w
theorem enters30 : Enters 30 := Go.Proofs.enters_of Try.func30 (by kernel_rfl) rfl
theorem agg_eq2 {a b : Mp} : (Value.agg #[.int .i64 a.s, .int .i64 a.p] = Value.agg #[.int .i64 b.s, .int .i64 b.p]) ↔ a = b := by
  obtain ⟨s, p⟩ := a
  obtain ⟨t, q⟩ := b
  simp
set_option maxRecDepth 100000 in
set_option maxHeartbeats 8000000 in
theorem bsearch_any (A : Option Addr) (L : List Mp) (c : Nat) (t q : Int) (w : World) (hr : Ms w A L) (hn : L.length ≤ 1000000) (ha : Srt L) :
    Calls Try.prog 35 #[.slice A L.length c, .agg #[.int .i64 t, .int .i64 q], .func (.func 30) #[] #[]] w fun e w' => e = .returned (.tuple #[.int .i64 (ix L ⟨t, q⟩), .bool (hitB L ⟨t, q⟩)]) ∧ Below w.heap.size w w' := by
  have HR := hide hr
  have HS := hide ha
  have K := hide (bal (brefl w) (.cells #[.int .i64 t, .int .i64 q] 26))
  have X := hide (MB.new w t q)
  obtain ⟨g4, hg4⟩ : ∃ g, g = w.heap.size := ⟨_, rfl⟩
  have HG := hide hg4
  rw [← hg4] at X
  have eg := enters30
  unfold Enters at eg
  clear hr ha hg4
  obtain ⟨m, hm⟩ : ∃ m : Mp, m = ⟨t, q⟩ := ⟨_, rfl⟩
  have HM := hide hm
  rw [← hm] at X ⊢
  clear hm
  go_enter Try.func35, Try.ntmps35
  go_upto_region 1 with fail
  rw [← HG.out]
  generalize w.alloc (.cells #[.int .i64 t, .int .i64 q] 26) = w1 at *
  go_wp2
  go_loopw [9, 10, 11] (fun i j _ wr => ∃ p q : Nat, p ≤ q ∧ q ≤ L.length ∧ i = .int .i64 p ∧ j = .int .i64 q ∧ Hid (∀ k, k < p → ltM (at' L k) m) ∧ Hid (∀ k, q ≤ k → k < L.length → ¬ ltM (at' L k) m) ∧ Hid (Below w.heap.size w wr) ∧ Hid (MB wr g4 m)) (fun i j _ _ => (intOf j).toNat - (intOf i).toNat)
  case atStart => exact ⟨0, L.length, Nat.zero_le _, Nat.le_refl _, rfl, rfl, hide fun t ht => absurd ht (Nat.not_lt_zero _), hide fun t h1 h2 => absurd h2 (by omega), K, X⟩
  case round =>
    clear K X
    obtain ⟨p, r, hpq, hq, rfl, rfl, H1, H2, K, X⟩ := hrel
    have X2 := hide (show MB wr g4 ⟨t, q⟩ by rw [← HM.out]; exact X.out)
    obtain ⟨x0, x1⟩ := MB.cells X2.out
    by_cases hlt : p < r
    · have hh : (p + r) / 2 < L.length := by omega
      have hm0 : (0 : Int) ≤ ((p : Int) + (r : Int)) / 2 := by omega
      have hm1 : ((p : Int) + (r : Int)) / 2 < (L.length : Int) := by omega
      have hm2 : (((p : Int) + (r : Int)) / 2).toNat = (p + r) / 2 := by omega
      obtain ⟨bb, off, rfl, hbl, c0, c1⟩ := HR.out.cells K.out hh
      have FX := hide (fun w' (h : Below wr.heap.size wr w') => And.intro ((HR.out.below (btrans K.out h)).at hh) (MB.cells (X2.out.below h)))
      obtain ⟨z, hz⟩ : ∃ z, z = at' L ((p + r) / 2) := ⟨_, rfl⟩
      have HZ := hide hz
      rw [← hz] at c0 c1 FX
      clear hz
      obtain ⟨u, v⟩ := z
      dsimp only at c0 c1 FX
      have C := hide (fun w => cmpr_any u v t q w)
      by_cases hzb : ltM ⟨u, v⟩ ⟨t, q⟩
      · have N1 := hide (show ∀ k, k < (p + r) / 2 + 1 → ltM (at' L k) m from fun k hk => by
          rcases Nat.lt_or_ge k ((p + r) / 2) with e | e
          · exact ltM_tr (srt_lt HS.out e hh) (by rw [← HZ.out, HM.out]; exact hzb)
          · rw [show k = (p + r) / 2 by omega, ← HZ.out, HM.out]; exact hzb)
        have hc := cmM_neg.2 hzb
        generalize cmM ⟨u, v⟩ ⟨t, q⟩ = d at *
        clear hzb
        go_upto_region 5 with fail
        have KD : Below wr.heap.size wr wr.drew := below_drewN (brefl _) 1
        replace X := hide (X.out.below KD)
        replace K := hide (btrans K.out KD)
        have KR := hide KD
        clear KD
        refine wp_region_noPanic ?_
        refine wp_region_held_drew (S := (fun W => (W.cell? ⟨bb, off + (p + r) / 2 * 2, none⟩ = some (.int .i64 u) ∧ W.cell? ⟨bb, off + (p + r) / 2 * 2 + 1, none⟩ = some (.int .i64 v)) ∧ W.cell? ⟨g4, 0, none⟩ = some (.int .i64 t) ∧ W.cell? ⟨g4, 1, none⟩ = some (.int .i64 q))) (by kernel_rfl) ?_ (fun hHeld => ?_)
        · exact FX.out _ KR.out
        generalize wr.drew = wd at *
        refine wpAnyH_take (i := 0) (oi := ⟨some 24, _, _, _, _, _⟩) (v := ?_) rfl (by kernel_rfl) (by kernel_rfl) (by kernel_rfl) (fun _ _ _ h => h) (Or.inl ⟨by kernel_rfl, ?_⟩) (by assumption) ?_
        rotate_left 1
        · (intro w hSw; (try dsimp only at hSw); go_simp) <;> (with_reducible rfl)
        (try simp only [Act.put, List.setIfInBounds_toArray, List.set_cons_succ, List.set_cons_zero])
        refine wpAnyH_take (i := 1) (oi := ⟨some 25, _, _, _, _, _⟩) (v := ?_) rfl (by kernel_rfl) (by kernel_rfl) (by kernel_rfl) (fun _ _ _ h => h) (Or.inl ⟨by kernel_rfl, ?_⟩) (by assumption) ?_
        rotate_left 1
        · (intro w hSw; (try dsimp only at hSw); go_simp) <;> (with_reducible rfl)
        (try simp only [Act.put, List.setIfInBounds_toArray, List.set_cons_succ, List.set_cons_zero])
        refine wpAnyH_take (i := 2) (oi := ⟨some 26, _, _, _, _, _⟩) (v := ?_) rfl (by kernel_rfl) (by kernel_rfl) (by kernel_rfl) (fun _ _ _ h => h) (Or.inl ⟨by kernel_rfl, ?_⟩) (by assumption) ?_
        rotate_left 1
        · (intro w hSw; (try dsimp only at hSw); go_simp) <;> (with_reducible rfl)
        (try simp only [Act.put, List.setIfInBounds_toArray, List.set_cons_succ, List.set_cons_zero])
        refine wpAnyH_take (i := 3) (oi := ⟨some 27, _, _, _, _, _⟩) (v := ?_) rfl (by kernel_rfl) (by kernel_rfl) (by kernel_rfl) (fun _ _ _ h => h) (Or.inl ⟨by kernel_rfl, ?_⟩) (by assumption) ?_
        rotate_left 1
        · (intro w hSw; (try dsimp only at hSw); go_simp) <;> (with_reducible rfl)
        (try simp only [Act.put, List.setIfInBounds_toArray, List.set_cons_succ, List.set_cons_zero])
        refine wpAnyH_take (i := 4) (oi := ⟨some 28, _, _, _, _, _⟩) (v := ?_) rfl (by kernel_rfl) (by kernel_rfl) (by kernel_rfl) (fun _ _ _ h => h) (Or.inl ⟨by kernel_rfl, ?_⟩) (by assumption) ?_
        rotate_left 1
        · (intro w hSw; (try dsimp only at hSw); go_simp) <;> (with_reducible rfl)
        (try simp only [Act.put, List.setIfInBounds_toArray, List.set_cons_succ, List.set_cons_zero])
        refine wpAnyH_take (i := 5) (oi := ⟨some 29, _, _, _, _, _⟩) (v := ?_) rfl (by kernel_rfl) (by kernel_rfl) (by kernel_rfl) (fun _ _ _ h => h) (Or.inl ⟨by kernel_rfl, ?_⟩) (by assumption) ?_
        rotate_left 1
        · (intro w hSw; (try dsimp only at hSw); go_simp) <;> (with_reducible rfl)
        (try simp only [Act.put, List.setIfInBounds_toArray, List.set_cons_succ, List.set_cons_zero])
        refine wpAnyH_ready (rs := [6]) (by kernel_rfl) (by simp) ?_
        refine AllReadyH.cons (o := ⟨some 30, _, _, _, _, _⟩) rfl (fun K' hK => ?_) AllReadyH.nil
        go_simp
        refine (C.out _).mono ?_
        rintro e w2 ⟨rfl, hb⟩
        replace KR := hide (btrans KR.out hb)
        replace X := hide (X.out.below hb)
        replace K := hide (btrans K.out hb)
        clear hb
        refine hK.out _ _ ?_ (fun hHeld => ?_)
        · exact FX.out _ KR.out
        clear hK K'
        (try simp only [Act.put, List.setIfInBounds_toArray, List.set_cons_succ, List.set_cons_zero])
        refine wpAnyH_take (i := 7) (oi := ⟨some 31, _, _, _, _, _⟩) (v := ?_) rfl (by kernel_rfl) (by kernel_rfl) (by kernel_rfl) (fun _ _ _ h => h) (Or.inl ⟨by kernel_rfl, ?_⟩) (by assumption) ?_
        rotate_left 1
        · (intro w hSw; (try dsimp only at hSw); go_simp) <;> (with_reducible rfl)
        (try simp only [Act.put, List.setIfInBounds_toArray, List.set_cons_succ, List.set_cons_zero])
        refine wpAnyH_done (by kernel_rfl) ?_ _
        refine NoPanic.normal ?_
        clear c0 c1 x0 x1 X2
        go_wp2
        go_roundw
        case rel => exact ⟨(p + r) / 2 + 1, r, by omega, hq, by go_num, rfl, N1, H2, K, X⟩
        case measure => simp [intOf]; omega
      · have N2 := hide (show ∀ k, (p + r) / 2 ≤ k → k < L.length → ¬ ltM (at' L k) m from fun k h1 h2 h => by
          apply hzb
          rcases Nat.lt_or_ge ((p + r) / 2) k with e | e
          · have := ltM_tr (srt_lt HS.out e h2) h
            rw [← HZ.out, HM.out] at this; exact this
          · rw [show k = (p + r) / 2 by omega, ← HZ.out, HM.out] at h; exact h)
        have hc := cmM_ge.2 hzb
        generalize cmM ⟨u, v⟩ ⟨t, q⟩ = d at *
        have hr0 : ¬ d < 0 := by omega
        clear hzb
        go_upto_region 5 with fail
        have KD : Below wr.heap.size wr wr.drew := below_drewN (brefl _) 1
        replace X := hide (X.out.below KD)
        replace K := hide (btrans K.out KD)
        have KR := hide KD
        clear KD
        refine wp_region_noPanic ?_
        refine wp_region_held_drew (S := (fun W => (W.cell? ⟨bb, off + (p + r) / 2 * 2, none⟩ = some (.int .i64 u) ∧ W.cell? ⟨bb, off + (p + r) / 2 * 2 + 1, none⟩ = some (.int .i64 v)) ∧ W.cell? ⟨g4, 0, none⟩ = some (.int .i64 t) ∧ W.cell? ⟨g4, 1, none⟩ = some (.int .i64 q))) (by kernel_rfl) ?_ (fun hHeld => ?_)
        · exact FX.out _ KR.out
        generalize wr.drew = wd at *
        refine wpAnyH_take (i := 0) (oi := ⟨some 24, _, _, _, _, _⟩) (v := ?_) rfl (by kernel_rfl) (by kernel_rfl) (by kernel_rfl) (fun _ _ _ h => h) (Or.inl ⟨by kernel_rfl, ?_⟩) (by assumption) ?_
        rotate_left 1
        · (intro w hSw; (try dsimp only at hSw); go_simp) <;> (with_reducible rfl)
        (try simp only [Act.put, List.setIfInBounds_toArray, List.set_cons_succ, List.set_cons_zero])
        refine wpAnyH_take (i := 1) (oi := ⟨some 25, _, _, _, _, _⟩) (v := ?_) rfl (by kernel_rfl) (by kernel_rfl) (by kernel_rfl) (fun _ _ _ h => h) (Or.inl ⟨by kernel_rfl, ?_⟩) (by assumption) ?_
        rotate_left 1
        · (intro w hSw; (try dsimp only at hSw); go_simp) <;> (with_reducible rfl)
        (try simp only [Act.put, List.setIfInBounds_toArray, List.set_cons_succ, List.set_cons_zero])
        refine wpAnyH_take (i := 2) (oi := ⟨some 26, _, _, _, _, _⟩) (v := ?_) rfl (by kernel_rfl) (by kernel_rfl) (by kernel_rfl) (fun _ _ _ h => h) (Or.inl ⟨by kernel_rfl, ?_⟩) (by assumption) ?_
        rotate_left 1
        · (intro w hSw; (try dsimp only at hSw); go_simp) <;> (with_reducible rfl)
        (try simp only [Act.put, List.setIfInBounds_toArray, List.set_cons_succ, List.set_cons_zero])
        refine wpAnyH_take (i := 3) (oi := ⟨some 27, _, _, _, _, _⟩) (v := ?_) rfl (by kernel_rfl) (by kernel_rfl) (by kernel_rfl) (fun _ _ _ h => h) (Or.inl ⟨by kernel_rfl, ?_⟩) (by assumption) ?_
        rotate_left 1
        · (intro w hSw; (try dsimp only at hSw); go_simp) <;> (with_reducible rfl)
        (try simp only [Act.put, List.setIfInBounds_toArray, List.set_cons_succ, List.set_cons_zero])
        refine wpAnyH_take (i := 4) (oi := ⟨some 28, _, _, _, _, _⟩) (v := ?_) rfl (by kernel_rfl) (by kernel_rfl) (by kernel_rfl) (fun _ _ _ h => h) (Or.inl ⟨by kernel_rfl, ?_⟩) (by assumption) ?_
        rotate_left 1
        · (intro w hSw; (try dsimp only at hSw); go_simp) <;> (with_reducible rfl)
        (try simp only [Act.put, List.setIfInBounds_toArray, List.set_cons_succ, List.set_cons_zero])
        refine wpAnyH_take (i := 5) (oi := ⟨some 29, _, _, _, _, _⟩) (v := ?_) rfl (by kernel_rfl) (by kernel_rfl) (by kernel_rfl) (fun _ _ _ h => h) (Or.inl ⟨by kernel_rfl, ?_⟩) (by assumption) ?_
        rotate_left 1
        · (intro w hSw; (try dsimp only at hSw); go_simp) <;> (with_reducible rfl)
        (try simp only [Act.put, List.setIfInBounds_toArray, List.set_cons_succ, List.set_cons_zero])
        refine wpAnyH_ready (rs := [6]) (by kernel_rfl) (by simp) ?_
        refine AllReadyH.cons (o := ⟨some 30, _, _, _, _, _⟩) rfl (fun K' hK => ?_) AllReadyH.nil
        go_simp
        refine (C.out _).mono ?_
        rintro e w2 ⟨rfl, hb⟩
        replace KR := hide (btrans KR.out hb)
        replace X := hide (X.out.below hb)
        replace K := hide (btrans K.out hb)
        clear hb
        refine hK.out _ _ ?_ (fun hHeld => ?_)
        · exact FX.out _ KR.out
        clear hK K'
        (try simp only [Act.put, List.setIfInBounds_toArray, List.set_cons_succ, List.set_cons_zero])
        refine wpAnyH_take (i := 7) (oi := ⟨some 31, _, _, _, _, _⟩) (v := ?_) rfl (by kernel_rfl) (by kernel_rfl) (by kernel_rfl) (fun _ _ _ h => h) (Or.inl ⟨by kernel_rfl, ?_⟩) (by assumption) ?_
        rotate_left 1
        · (intro w hSw; (try dsimp only at hSw); go_simp) <;> (with_reducible rfl)
        (try simp only [Act.put, List.setIfInBounds_toArray, List.set_cons_succ, List.set_cons_zero])
        refine wpAnyH_done (by kernel_rfl) ?_ _
        refine NoPanic.normal ?_
        clear c0 c1 x0 x1 X2
        go_wp2
        go_roundw
        case rel => exact ⟨p, (p + r) / 2, by omega, by omega, rfl, by go_num, H1, N2, K, X⟩
        case measure => simp [intOf]; omega
    · obtain rfl : p = r := by omega
      have EP := hide (show ix L m = p from ix_eq L m p hq H1.out fun h => H2.out p (Nat.le_refl _) h)
      by_cases hpl : p < L.length
      · obtain ⟨bb, off, rfl, hbl, c0, c1⟩ := HR.out.cells K.out hpl
        have hd : decide ((p : Int) < (L.length : Int)) = true := decide_eq_true (by omega)
        have FX := hide (fun w' (h : Below wr.heap.size wr w') => And.intro ((HR.out.below (btrans K.out h)).at hpl) (MB.cells (X2.out.below h)))
        obtain ⟨z, hz⟩ : ∃ z, z = at' L p := ⟨_, rfl⟩
        have HZ := hide hz
        rw [← hz] at c0 c1 FX
        clear hz
        obtain ⟨u, v⟩ := z
        dsimp only at c0 c1 FX
        have C := hide (fun w => cmpr_any u v t q w)
        by_cases hzb : (⟨u, v⟩ : Mp) = ⟨t, q⟩
        · have EH := hide (show hitB L m = true by unfold hitB; rw [EP.out]; exact decide_eq_true ⟨hpl, by rw [← HZ.out, HM.out]; exact hzb⟩)
          have hc := cmM_zero.2 hzb
          rw [hc] at C
          clear hzb hc
          go_upto_region 8 with fail
          have KD : Below wr.heap.size wr wr.drew := below_drewN (brefl _) 1
          replace K := hide (btrans K.out KD)
          have KR := hide KD
          clear KD
          refine wp_region_noPanic ?_
          refine wp_region_held_drew (S := (fun W => (W.cell? ⟨bb, off + p * 2, none⟩ = some (.int .i64 u) ∧ W.cell? ⟨bb, off + p * 2 + 1, none⟩ = some (.int .i64 v)) ∧ W.cell? ⟨g4, 0, none⟩ = some (.int .i64 t) ∧ W.cell? ⟨g4, 1, none⟩ = some (.int .i64 q))) (by kernel_rfl) ?_ (fun hHeld => ?_)
          · exact FX.out _ KR.out
          generalize wr.drew = wd at *
          refine wpAnyH_take (i := 0) (oi := ⟨some 35, _, _, _, _, _⟩) (v := ?_) rfl (by kernel_rfl) (by kernel_rfl) (by kernel_rfl) (fun _ _ _ h => h) (Or.inl ⟨by kernel_rfl, ?_⟩) (by assumption) ?_
          rotate_left 1
          · (intro w hSw; (try dsimp only at hSw); go_simp) <;> (with_reducible rfl)
          (try simp only [Act.put, List.setIfInBounds_toArray, List.set_cons_succ, List.set_cons_zero])
          refine wpAnyH_take (i := 1) (oi := ⟨some 36, _, _, _, _, _⟩) (v := ?_) rfl (by kernel_rfl) (by kernel_rfl) (by kernel_rfl) (fun _ _ _ h => h) (Or.inl ⟨by kernel_rfl, ?_⟩) (by assumption) ?_
          rotate_left 1
          · (intro w hSw; (try dsimp only at hSw); go_simp) <;> (with_reducible rfl)
          (try simp only [Act.put, List.setIfInBounds_toArray, List.set_cons_succ, List.set_cons_zero])
          refine wpAnyH_take (i := 2) (oi := ⟨some 37, _, _, _, _, _⟩) (v := ?_) rfl (by kernel_rfl) (by kernel_rfl) (by kernel_rfl) (fun _ _ _ h => h) (Or.inl ⟨by kernel_rfl, ?_⟩) (by assumption) ?_
          rotate_left 1
          · (intro w hSw; (try dsimp only at hSw); go_simp) <;> (with_reducible rfl)
          (try simp only [Act.put, List.setIfInBounds_toArray, List.set_cons_succ, List.set_cons_zero])
          refine wpAnyH_take (i := 3) (oi := ⟨some 38, _, _, _, _, _⟩) (v := ?_) rfl (by kernel_rfl) (by kernel_rfl) (by kernel_rfl) (fun _ _ _ h => h) (Or.inl ⟨by kernel_rfl, ?_⟩) (by assumption) ?_
          rotate_left 1
          · (intro w hSw; (try dsimp only at hSw); go_simp) <;> (with_reducible rfl)
          (try simp only [Act.put, List.setIfInBounds_toArray, List.set_cons_succ, List.set_cons_zero])
          refine wpAnyH_take (i := 4) (oi := ⟨some 39, _, _, _, _, _⟩) (v := ?_) rfl (by kernel_rfl) (by kernel_rfl) (by kernel_rfl) (fun _ _ _ h => h) (Or.inl ⟨by kernel_rfl, ?_⟩) (by assumption) ?_
          rotate_left 1
          · (intro w hSw; (try dsimp only at hSw); go_simp) <;> (with_reducible rfl)
          (try simp only [Act.put, List.setIfInBounds_toArray, List.set_cons_succ, List.set_cons_zero])
          refine wpAnyH_take (i := 5) (oi := ⟨some 40, _, _, _, _, _⟩) (v := ?_) rfl (by kernel_rfl) (by kernel_rfl) (by kernel_rfl) (fun _ _ _ h => h) (Or.inl ⟨by kernel_rfl, ?_⟩) (by assumption) ?_
          rotate_left 1
          · (intro w hSw; (try dsimp only at hSw); go_simp) <;> (with_reducible rfl)
          (try simp only [Act.put, List.setIfInBounds_toArray, List.set_cons_succ, List.set_cons_zero])
          refine wpAnyH_take (i := 6) (oi := ⟨some 41, _, _, _, _, _⟩) (v := ?_) rfl (by kernel_rfl) (by kernel_rfl) (by kernel_rfl) (fun _ _ _ h => h) (Or.inl ⟨by kernel_rfl, ?_⟩) (by assumption) ?_
          rotate_left 1
          · (intro w hSw; (try dsimp only at hSw); go_simp) <;> (with_reducible rfl)
          (try simp only [Act.put, List.setIfInBounds_toArray, List.set_cons_succ, List.set_cons_zero])
          refine wpAnyH_take (i := 7) (oi := ⟨some 42, _, _, _, _, _⟩) (v := ?_) rfl (by kernel_rfl) (by kernel_rfl) (by kernel_rfl) (fun _ _ _ h => h) (Or.inl ⟨by kernel_rfl, ?_⟩) (by assumption) ?_
          rotate_left 1
          · (intro w hSw; (try dsimp only at hSw); go_simp) <;> (with_reducible rfl)
          (try simp only [Act.put, List.setIfInBounds_toArray, List.set_cons_succ, List.set_cons_zero])
          refine wpAnyH_take (i := 8) (oi := ⟨some 43, _, _, _, _, _⟩) (v := ?_) rfl (by kernel_rfl) (by kernel_rfl) (by kernel_rfl) (fun _ _ _ h => h) (Or.inl ⟨by kernel_rfl, ?_⟩) (by assumption) ?_
          rotate_left 1
          · (intro w hSw; (try dsimp only at hSw); go_simp) <;> (with_reducible rfl)
          (try simp only [Act.put, List.setIfInBounds_toArray, List.set_cons_succ, List.set_cons_zero])
          refine wpAnyH_take (i := 9) (oi := ⟨some 44, _, _, _, _, _⟩) (v := ?_) rfl (by kernel_rfl) (by kernel_rfl) (by kernel_rfl) (fun _ _ _ h => h) (Or.inl ⟨by kernel_rfl, ?_⟩) (by assumption) ?_
          rotate_left 1
          · (intro w hSw; (try dsimp only at hSw); go_simp) <;> (with_reducible rfl)
          (try simp only [Act.put, List.setIfInBounds_toArray, List.set_cons_succ, List.set_cons_zero])
          refine wpAnyH_take (i := 10) (oi := ⟨some 45, _, _, _, _, _⟩) (v := ?_) rfl (by kernel_rfl) (by kernel_rfl) (by kernel_rfl) (fun _ _ _ h => h) (Or.inl ⟨by kernel_rfl, ?_⟩) (by assumption) ?_
          rotate_left 1
          · (intro w hSw; (try dsimp only at hSw); go_simp) <;> (with_reducible rfl)
          (try simp only [Act.put, List.setIfInBounds_toArray, List.set_cons_succ, List.set_cons_zero])
          refine wpAnyH_ready (rs := [11]) (by kernel_rfl) (by simp) ?_
          refine AllReadyH.cons (o := ⟨some 46, _, _, _, _, _⟩) rfl (fun K' hK => ?_) AllReadyH.nil
          go_simp
          refine (C.out _).mono ?_
          rintro e w2 ⟨rfl, hb⟩
          replace KR := hide (btrans KR.out hb)
          replace K := hide (btrans K.out hb)
          clear hb
          refine hK.out _ _ ?_ (fun hHeld => ?_)
          · exact FX.out _ KR.out
          clear hK K'
          (try simp only [Act.put, List.setIfInBounds_toArray, List.set_cons_succ, List.set_cons_zero])
          refine wpAnyH_take (i := 12) (oi := ⟨some 47, _, _, _, _, _⟩) (v := ?_) rfl (by kernel_rfl) (by kernel_rfl) (by kernel_rfl) (fun _ _ _ h => h) (Or.inl ⟨by kernel_rfl, ?_⟩) (by assumption) ?_
          rotate_left 1
          · (intro w hSw; (try dsimp only at hSw); go_simp) <;> (with_reducible rfl)
          (try simp only [Act.put, List.setIfInBounds_toArray, List.set_cons_succ, List.set_cons_zero])
          refine wpAnyH_take (i := 13) (oi := ⟨some 48, _, _, _, _, _⟩) (v := ?_) rfl (by kernel_rfl) (by kernel_rfl) (by kernel_rfl) (fun _ _ _ h => h) (Or.inl ⟨by kernel_rfl, ?_⟩) (by assumption) ?_
          rotate_left 1
          · (intro w hSw; (try dsimp only at hSw); go_simp) <;> (with_reducible rfl)
          (try simp only [Act.put, List.setIfInBounds_toArray, List.set_cons_succ, List.set_cons_zero])
          refine wpAnyH_take (i := 14) (oi := ⟨some 6, _, _, _, _, _⟩) (v := ?_) rfl (by kernel_rfl) (by kernel_rfl) (by kernel_rfl) (fun _ _ _ h => h) (Or.inl ⟨by kernel_rfl, ?_⟩) (by assumption) ?_
          rotate_left 1
          · (intro w hSw; (try dsimp only at hSw); go_simp) <;> (with_reducible rfl)
          (try simp only [Act.put, List.setIfInBounds_toArray, List.set_cons_succ, List.set_cons_zero])
          refine wpAnyH_take (i := 15) (oi := ⟨some 7, _, _, _, _, _⟩) (v := ?_) rfl (by kernel_rfl) (by kernel_rfl) (by kernel_rfl) (fun _ _ _ h => h) (Or.inl ⟨by kernel_rfl, ?_⟩) (by assumption) ?_
          rotate_left 1
          · (intro w hSw; (try dsimp only at hSw); go_simp) <;> (with_reducible rfl)
          (try simp only [Act.put, List.setIfInBounds_toArray, List.set_cons_succ, List.set_cons_zero])
          refine wpAnyH_done (by kernel_rfl) ?_ _
          refine NoPanic.normal ?_
          clear c0 c1 x0 x1 X2
          go_wp2
          go_ret2
          exact ⟨by rw [EP.out, EH.out]; rfl, K.out⟩
        · have EH := hide (show hitB L m = false by unfold hitB; rw [EP.out]; exact decide_eq_false fun h => hzb (by rw [HZ.out, ← HM.out]; exact h.2))
          have hc : ¬ cmM ⟨u, v⟩ ⟨t, q⟩ = 0 := fun h => hzb (cmM_zero.1 h)
          generalize cmM ⟨u, v⟩ ⟨t, q⟩ = d at *
          have hc2 : (d == 0) = false := beq_eq_false_iff_ne.2 hc
          clear hzb hc
          go_upto_region 8 with fail
          have KD : Below wr.heap.size wr wr.drew := below_drewN (brefl _) 1
          replace K := hide (btrans K.out KD)
          have KR := hide KD
          clear KD
          refine wp_region_noPanic ?_
          refine wp_region_held_drew (S := (fun W => (W.cell? ⟨bb, off + p * 2, none⟩ = some (.int .i64 u) ∧ W.cell? ⟨bb, off + p * 2 + 1, none⟩ = some (.int .i64 v)) ∧ W.cell? ⟨g4, 0, none⟩ = some (.int .i64 t) ∧ W.cell? ⟨g4, 1, none⟩ = some (.int .i64 q))) (by kernel_rfl) ?_ (fun hHeld => ?_)
          · exact FX.out _ KR.out
          generalize wr.drew = wd at *
          refine wpAnyH_take (i := 0) (oi := ⟨some 35, _, _, _, _, _⟩) (v := ?_) rfl (by kernel_rfl) (by kernel_rfl) (by kernel_rfl) (fun _ _ _ h => h) (Or.inl ⟨by kernel_rfl, ?_⟩) (by assumption) ?_
          rotate_left 1
          · (intro w hSw; (try dsimp only at hSw); go_simp) <;> (with_reducible rfl)
          (try simp only [Act.put, List.setIfInBounds_toArray, List.set_cons_succ, List.set_cons_zero])
          refine wpAnyH_take (i := 1) (oi := ⟨some 36, _, _, _, _, _⟩) (v := ?_) rfl (by kernel_rfl) (by kernel_rfl) (by kernel_rfl) (fun _ _ _ h => h) (Or.inl ⟨by kernel_rfl, ?_⟩) (by assumption) ?_
          rotate_left 1
          · (intro w hSw; (try dsimp only at hSw); go_simp) <;> (with_reducible rfl)
          (try simp only [Act.put, List.setIfInBounds_toArray, List.set_cons_succ, List.set_cons_zero])
          refine wpAnyH_take (i := 2) (oi := ⟨some 37, _, _, _, _, _⟩) (v := ?_) rfl (by kernel_rfl) (by kernel_rfl) (by kernel_rfl) (fun _ _ _ h => h) (Or.inl ⟨by kernel_rfl, ?_⟩) (by assumption) ?_
          rotate_left 1
          · (intro w hSw; (try dsimp only at hSw); go_simp) <;> (with_reducible rfl)
          (try simp only [Act.put, List.setIfInBounds_toArray, List.set_cons_succ, List.set_cons_zero])
          refine wpAnyH_take (i := 3) (oi := ⟨some 38, _, _, _, _, _⟩) (v := ?_) rfl (by kernel_rfl) (by kernel_rfl) (by kernel_rfl) (fun _ _ _ h => h) (Or.inl ⟨by kernel_rfl, ?_⟩) (by assumption) ?_
          rotate_left 1
          · (intro w hSw; (try dsimp only at hSw); go_simp) <;> (with_reducible rfl)
          (try simp only [Act.put, List.setIfInBounds_toArray, List.set_cons_succ, List.set_cons_zero])
          refine wpAnyH_take (i := 4) (oi := ⟨some 39, _, _, _, _, _⟩) (v := ?_) rfl (by kernel_rfl) (by kernel_rfl) (by kernel_rfl) (fun _ _ _ h => h) (Or.inl ⟨by kernel_rfl, ?_⟩) (by assumption) ?_
          rotate_left 1
          · (intro w hSw; (try dsimp only at hSw); go_simp) <;> (with_reducible rfl)
          (try simp only [Act.put, List.setIfInBounds_toArray, List.set_cons_succ, List.set_cons_zero])
          refine wpAnyH_take (i := 5) (oi := ⟨some 40, _, _, _, _, _⟩) (v := ?_) rfl (by kernel_rfl) (by kernel_rfl) (by kernel_rfl) (fun _ _ _ h => h) (Or.inl ⟨by kernel_rfl, ?_⟩) (by assumption) ?_
          rotate_left 1
          · (intro w hSw; (try dsimp only at hSw); go_simp) <;> (with_reducible rfl)
          (try simp only [Act.put, List.setIfInBounds_toArray, List.set_cons_succ, List.set_cons_zero])
          refine wpAnyH_take (i := 6) (oi := ⟨some 41, _, _, _, _, _⟩) (v := ?_) rfl (by kernel_rfl) (by kernel_rfl) (by kernel_rfl) (fun _ _ _ h => h) (Or.inl ⟨by kernel_rfl, ?_⟩) (by assumption) ?_
          rotate_left 1
          · (intro w hSw; (try dsimp only at hSw); go_simp) <;> (with_reducible rfl)
          (try simp only [Act.put, List.setIfInBounds_toArray, List.set_cons_succ, List.set_cons_zero])
          refine wpAnyH_take (i := 7) (oi := ⟨some 42, _, _, _, _, _⟩) (v := ?_) rfl (by kernel_rfl) (by kernel_rfl) (by kernel_rfl) (fun _ _ _ h => h) (Or.inl ⟨by kernel_rfl, ?_⟩) (by assumption) ?_
          rotate_left 1
          · (intro w hSw; (try dsimp only at hSw); go_simp) <;> (with_reducible rfl)
          (try simp only [Act.put, List.setIfInBounds_toArray, List.set_cons_succ, List.set_cons_zero])
          refine wpAnyH_take (i := 8) (oi := ⟨some 43, _, _, _, _, _⟩) (v := ?_) rfl (by kernel_rfl) (by kernel_rfl) (by kernel_rfl) (fun _ _ _ h => h) (Or.inl ⟨by kernel_rfl, ?_⟩) (by assumption) ?_
          rotate_left 1
          · (intro w hSw; (try dsimp only at hSw); go_simp) <;> (with_reducible rfl)
          (try simp only [Act.put, List.setIfInBounds_toArray, List.set_cons_succ, List.set_cons_zero])
          refine wpAnyH_take (i := 9) (oi := ⟨some 44, _, _, _, _, _⟩) (v := ?_) rfl (by kernel_rfl) (by kernel_rfl) (by kernel_rfl) (fun _ _ _ h => h) (Or.inl ⟨by kernel_rfl, ?_⟩) (by assumption) ?_
          rotate_left 1
          · (intro w hSw; (try dsimp only at hSw); go_simp) <;> (with_reducible rfl)
          (try simp only [Act.put, List.setIfInBounds_toArray, List.set_cons_succ, List.set_cons_zero])
          refine wpAnyH_take (i := 10) (oi := ⟨some 45, _, _, _, _, _⟩) (v := ?_) rfl (by kernel_rfl) (by kernel_rfl) (by kernel_rfl) (fun _ _ _ h => h) (Or.inl ⟨by kernel_rfl, ?_⟩) (by assumption) ?_
          rotate_left 1
          · (intro w hSw; (try dsimp only at hSw); go_simp) <;> (with_reducible rfl)
          (try simp only [Act.put, List.setIfInBounds_toArray, List.set_cons_succ, List.set_cons_zero])
          refine wpAnyH_ready (rs := [11]) (by kernel_rfl) (by simp) ?_
          refine AllReadyH.cons (o := ⟨some 46, _, _, _, _, _⟩) rfl (fun K' hK => ?_) AllReadyH.nil
          go_simp
          refine (C.out _).mono ?_
          rintro e w2 ⟨rfl, hb⟩
          replace KR := hide (btrans KR.out hb)
          replace K := hide (btrans K.out hb)
          clear hb
          refine hK.out _ _ ?_ (fun hHeld => ?_)
          · exact FX.out _ KR.out
          clear hK K'
          (try simp only [Act.put, List.setIfInBounds_toArray, List.set_cons_succ, List.set_cons_zero])
          refine wpAnyH_take (i := 12) (oi := ⟨some 47, _, _, _, _, _⟩) (v := ?_) rfl (by kernel_rfl) (by kernel_rfl) (by kernel_rfl) (fun _ _ _ h => h) (Or.inl ⟨by kernel_rfl, ?_⟩) (by assumption) ?_
          rotate_left 1
          · (intro w hSw; (try dsimp only at hSw); go_simp) <;> (with_reducible rfl)
          (try simp only [Act.put, List.setIfInBounds_toArray, List.set_cons_succ, List.set_cons_zero])
          refine wpAnyH_take (i := 13) (oi := ⟨some 48, _, _, _, _, _⟩) (v := ?_) rfl (by kernel_rfl) (by kernel_rfl) (by kernel_rfl) (fun _ _ _ h => h) (Or.inl ⟨by kernel_rfl, ?_⟩) (by assumption) ?_
          rotate_left 1
          · (intro w hSw; (try dsimp only at hSw); go_simp) <;> (with_reducible rfl)
          (try simp only [Act.put, List.setIfInBounds_toArray, List.set_cons_succ, List.set_cons_zero])
          refine wpAnyH_take (i := 14) (oi := ⟨some 6, _, _, _, _, _⟩) (v := ?_) rfl (by kernel_rfl) (by kernel_rfl) (by kernel_rfl) (fun _ _ _ h => h) (Or.inl ⟨by kernel_rfl, ?_⟩) (by assumption) ?_
          rotate_left 1
          · (intro w hSw; (try dsimp only at hSw); go_simp) <;> (with_reducible rfl)
          (try simp only [Act.put, List.setIfInBounds_toArray, List.set_cons_succ, List.set_cons_zero])
          refine wpAnyH_take (i := 15) (oi := ⟨some 7, _, _, _, _, _⟩) (v := ?_) rfl (by kernel_rfl) (by kernel_rfl) (by kernel_rfl) (fun _ _ _ h => h) (Or.inl ⟨by kernel_rfl, ?_⟩) (by assumption) ?_
          rotate_left 1
          · (intro w hSw; (try dsimp only at hSw); go_simp) <;> (with_reducible rfl)
          (try simp only [Act.put, List.setIfInBounds_toArray, List.set_cons_succ, List.set_cons_zero])
          refine wpAnyH_done (by kernel_rfl) ?_ _
          refine NoPanic.normal ?_
          clear c0 c1 x0 x1 X2
          go_wp2
          go_ret2
          exact ⟨by rw [EP.out, EH.out]; rfl, K.out⟩
      · have EH := hide (show hitB L m = false by unfold hitB; rw [EP.out]; exact decide_eq_false fun h => hpl h.1)
        have hd : decide ((p : Int) < (L.length : Int)) = false := decide_eq_false (by omega)
        go_upto_region 8 with fail
        have KD : Below wr.heap.size wr wr.drew := below_drewN (brefl _) 1
        replace K := hide (btrans K.out KD)
        clear KD
        refine wp_region_noPanic ?_
        refine wp_region_held_drew (S := (fun _ => True)) (by kernel_rfl) ?_ (fun hHeld => ?_)
        · exact trivial
        generalize wr.drew = wd at *
        refine wpAnyH_take (i := 0) (oi := ⟨some 35, _, _, _, _, _⟩) (v := ?_) rfl (by kernel_rfl) (by kernel_rfl) (by kernel_rfl) (fun _ _ _ h => h) (Or.inl ⟨by kernel_rfl, ?_⟩) (by assumption) ?_
        rotate_left 1
        · (intro w hSw; (try dsimp only at hSw); go_simp) <;> (with_reducible rfl)
        (try simp only [Act.put, List.setIfInBounds_toArray, List.set_cons_succ, List.set_cons_zero])
        refine wpAnyH_take (i := 1) (oi := ⟨some 36, _, _, _, _, _⟩) (v := ?_) rfl (by kernel_rfl) (by kernel_rfl) (by kernel_rfl) (fun _ _ _ h => h) (Or.inl ⟨by kernel_rfl, ?_⟩) (by assumption) ?_
        rotate_left 1
        · (intro w hSw; (try dsimp only at hSw); go_simp) <;> (with_reducible rfl)
        (try simp only [Act.put, List.setIfInBounds_toArray, List.set_cons_succ, List.set_cons_zero])
        refine wpAnyH_take (i := 2) (oi := ⟨some 37, _, _, _, _, _⟩) (v := ?_) rfl (by kernel_rfl) (by kernel_rfl) (by kernel_rfl) (fun _ _ _ h => h) (Or.inl ⟨by kernel_rfl, ?_⟩) (by assumption) ?_
        rotate_left 1
        · (intro w hSw; (try dsimp only at hSw); go_simp) <;> (with_reducible rfl)
        (try simp only [Act.put, List.setIfInBounds_toArray, List.set_cons_succ, List.set_cons_zero])
        refine wpAnyH_take (i := 3) (oi := ⟨some 38, _, _, _, _, _⟩) (v := ?_) rfl (by kernel_rfl) (by kernel_rfl) (by kernel_rfl) (fun _ _ _ h => h) (Or.inl ⟨by kernel_rfl, ?_⟩) (by assumption) ?_
        rotate_left 1
        · (intro w hSw; (try dsimp only at hSw); go_simp) <;> (with_reducible rfl)
        (try simp only [Act.put, List.setIfInBounds_toArray, List.set_cons_succ, List.set_cons_zero])
        refine wpAnyH_take (i := 4) (oi := ⟨some 39, _, _, _, _, _⟩) (v := ?_) rfl (by kernel_rfl) (by kernel_rfl) (by kernel_rfl) (fun _ _ _ h => h) (Or.inl ⟨by kernel_rfl, ?_⟩) (by assumption) ?_
        rotate_left 1
        · (intro w hSw; (try dsimp only at hSw); go_simp) <;> (with_reducible rfl)
        (try simp only [Act.put, List.setIfInBounds_toArray, List.set_cons_succ, List.set_cons_zero])
        refine wpAnyH_take (i := 5) (oi := ⟨some 40, _, _, _, _, _⟩) (v := undef) rfl (by kernel_rfl) (by kernel_rfl) (by kernel_rfl) (fun _ _ _ h => h) (Or.inr ⟨by kernel_rfl, rfl⟩) (by assumption) ?_
        (try simp only [Act.put, List.setIfInBounds_toArray, List.set_cons_succ, List.set_cons_zero])
        refine wpAnyH_take (i := 6) (oi := ⟨some 41, _, _, _, _, _⟩) (v := undef) rfl (by kernel_rfl) (by kernel_rfl) (by kernel_rfl) (fun _ _ _ h => h) (Or.inr ⟨by kernel_rfl, rfl⟩) (by assumption) ?_
        (try simp only [Act.put, List.setIfInBounds_toArray, List.set_cons_succ, List.set_cons_zero])
        refine wpAnyH_take (i := 7) (oi := ⟨some 42, _, _, _, _, _⟩) (v := undef) rfl (by kernel_rfl) (by kernel_rfl) (by kernel_rfl) (fun _ _ _ h => h) (Or.inr ⟨by kernel_rfl, rfl⟩) (by assumption) ?_
        (try simp only [Act.put, List.setIfInBounds_toArray, List.set_cons_succ, List.set_cons_zero])
        refine wpAnyH_take (i := 8) (oi := ⟨some 43, _, _, _, _, _⟩) (v := undef) rfl (by kernel_rfl) (by kernel_rfl) (by kernel_rfl) (fun _ _ _ h => h) (Or.inr ⟨by kernel_rfl, rfl⟩) (by assumption) ?_
        (try simp only [Act.put, List.setIfInBounds_toArray, List.set_cons_succ, List.set_cons_zero])
        refine wpAnyH_take (i := 9) (oi := ⟨some 44, _, _, _, _, _⟩) (v := undef) rfl (by kernel_rfl) (by kernel_rfl) (by kernel_rfl) (fun _ _ _ h => h) (Or.inr ⟨by kernel_rfl, rfl⟩) (by assumption) ?_
        (try simp only [Act.put, List.setIfInBounds_toArray, List.set_cons_succ, List.set_cons_zero])
        refine wpAnyH_take (i := 10) (oi := ⟨some 45, _, _, _, _, _⟩) (v := undef) rfl (by kernel_rfl) (by kernel_rfl) (by kernel_rfl) (fun _ _ _ h => h) (Or.inr ⟨by kernel_rfl, rfl⟩) (by assumption) ?_
        (try simp only [Act.put, List.setIfInBounds_toArray, List.set_cons_succ, List.set_cons_zero])
        refine wpAnyH_take (i := 11) (oi := ⟨some 46, _, _, _, _, _⟩) (v := undef) rfl (by kernel_rfl) (by kernel_rfl) (by kernel_rfl) (fun _ _ _ h => h) (Or.inr ⟨by kernel_rfl, rfl⟩) (by assumption) ?_
        (try simp only [Act.put, List.setIfInBounds_toArray, List.set_cons_succ, List.set_cons_zero])
        refine wpAnyH_take (i := 12) (oi := ⟨some 47, _, _, _, _, _⟩) (v := undef) rfl (by kernel_rfl) (by kernel_rfl) (by kernel_rfl) (fun _ _ _ h => h) (Or.inr ⟨by kernel_rfl, rfl⟩) (by assumption) ?_
        (try simp only [Act.put, List.setIfInBounds_toArray, List.set_cons_succ, List.set_cons_zero])
        refine wpAnyH_take (i := 13) (oi := ⟨some 48, _, _, _, _, _⟩) (v := ?_) rfl (by kernel_rfl) (by kernel_rfl) (by kernel_rfl) (fun _ _ _ h => h) (Or.inl ⟨by kernel_rfl, ?_⟩) (by assumption) ?_
        rotate_left 1
        · (intro w hSw; (try dsimp only at hSw); go_simp) <;> (with_reducible rfl)
        (try simp only [Act.put, List.setIfInBounds_toArray, List.set_cons_succ, List.set_cons_zero])
        refine wpAnyH_take (i := 14) (oi := ⟨some 6, _, _, _, _, _⟩) (v := ?_) rfl (by kernel_rfl) (by kernel_rfl) (by kernel_rfl) (fun _ _ _ h => h) (Or.inl ⟨by kernel_rfl, ?_⟩) (by assumption) ?_
        rotate_left 1
        · (intro w hSw; (try dsimp only at hSw); go_simp) <;> (with_reducible rfl)
        (try simp only [Act.put, List.setIfInBounds_toArray, List.set_cons_succ, List.set_cons_zero])
        refine wpAnyH_take (i := 15) (oi := ⟨some 7, _, _, _, _, _⟩) (v := ?_) rfl (by kernel_rfl) (by kernel_rfl) (by kernel_rfl) (fun _ _ _ h => h) (Or.inl ⟨by kernel_rfl, ?_⟩) (by assumption) ?_
        rotate_left 1
        · (intro w hSw; (try dsimp only at hSw); go_simp) <;> (with_reducible rfl)
        (try simp only [Act.put, List.setIfInBounds_toArray, List.set_cons_succ, List.set_cons_zero])
        refine wpAnyH_done (by kernel_rfl) ?_ _
        refine NoPanic.normal ?_
        go_wp2
        go_ret2
        exact ⟨by rw [EP.out, EH.out]; rfl, K.out⟩
/-- what find answers -/
def fiI (L : List Mp) (m : Mp) : Int := if ck L = 0 then (ix L m : Nat) else 0
theorem hit_hs {L : List Mp} {m : Mp} (h : ck L = 0) : hitB L m = hs L m := by
  unfold hitB hs
  have := ix_mem (ck_ok h).2 m
  exact decide_eq_decide.2 ⟨fun k => ⟨h, this.2 k⟩, fun k => this.1 k.2⟩
theorem hs_no {L : List Mp} {m : Mp} (h : ck L ≠ 0) : hs L m = false := decide_eq_false fun k => h k.1
theorem ne_bool {z : Int} (h : z ≠ 0) : (z != 0) = true := bne_iff_ne.2 h
set_option maxRecDepth 100000 in
set_option maxHeartbeats 8000000 in
theorem find_any (A : Option Addr) (L : List Mp) (c : Nat) (t q : Int) (w : World) (hr : Ms w A L) (hn : L.length ≤ 1000000) :
    Calls Try.prog 22 #[.slice A L.length c, .agg #[.int .i64 t, .int .i64 q]] w fun e w' => e = .returned (.tuple #[.int .i64 (fiI L ⟨t, q⟩), .bool (hs L ⟨t, q⟩), .int .i64 (ck L)]) ∧ Below w.heap.size w w' := by
  have K := hide (bal (brefl w) (.cells #[.int .i64 t, .int .i64 q] 26))
  have X := hide (MB.new w t q)
  obtain ⟨g3, hg3⟩ : ∃ g, g = w.heap.size := ⟨_, rfl⟩
  have HG := hide hg3
  rw [← hg3] at X
  have CK := hide (fun w' (h : Below w.heap.size w w') => check_any A c L w' (hr.below h) hn)
  have BS := hide (fun w' (h : Below w.heap.size w w') hs => bsearch_any A L c t q w' (hr.below h) hn hs)
  obtain ⟨m, hm⟩ : ∃ m : Mp, m = ⟨t, q⟩ := ⟨_, rfl⟩
  rw [← hm] at BS ⊢
  have HM := hide hm
  clear hr hg3 hm
  by_cases h0 : ck L = 0
  · have EI := hide (show fiI L m = (ix L m : Nat) from if_pos h0)
    have EH := hide (hit_hs (m := m) h0)
    have SR := hide (ck_ok h0).2
    rw [h0] at CK ⊢
    rw [EI.out, ← EH.out]
    clear EI EH h0
    generalize hitB L m = hb at *
    generalize ix L m = ii at *
    go_enter Try.func22, Try.ntmps22
    go_wp2_with fail
    rw [← HG.out]
    generalize w.alloc (.cells #[.int .i64 t, .int .i64 q] 26) = w1 at *
    refine (CK.out _ K.out).mono ?_
    rintro e w2 ⟨rfl, hb2⟩
    replace X := hide (X.out.below hb2)
    replace K := hide (btrans K.out hb2)
    clear hb2
    obtain ⟨x0, x1⟩ := MB.cells X.out
    go_wp2_with fail
    refine (BS.out _ K.out SR.out).mono ?_
    rintro e w3 ⟨rfl, hb2⟩
    replace K := hide (btrans K.out hb2)
    clear hb2 x0 x1
    go_wp2
    go_ret3
    exact ⟨rfl, K.out⟩
  · have EI := hide (show fiI L m = 0 from if_neg h0)
    have EH := hide (hs_no (m := m) h0)
    rw [EI.out, EH.out]
    have h2 := ne_bool h0
    clear EI EH BS
    generalize ck L = ce at *
    go_enter Try.func22, Try.ntmps22
    go_wp2_with fail
    refine (CK.out _ K.out).mono ?_
    rintro e w2 ⟨rfl, hb2⟩
    replace K := hide (btrans K.out hb2)
    clear hb2
    go_wp2
    go_ret3
    exact ⟨rfl, K.out⟩
set_option maxHeartbeats 8000000 in
theorem has_any (A : Option Addr) (L : List Mp) (c : Nat) (t q : Int) (w : World) (hr : Ms w A L) (hn : L.length ≤ 1000000) :
    Calls Try.prog 16 #[.slice A L.length c, .agg #[.int .i64 t, .int .i64 q]] w fun e w' => e = .returned (.bool (hs L ⟨t, q⟩)) ∧ Below w.heap.size w w' := by
  have K := hide (bal (brefl w) (.cells #[.int .i64 t, .int .i64 q] 26))
  have X := hide (MB.new w t q)
  obtain ⟨x0, x1⟩ := MB.cells X.out
  have FI := hide (fun w' (h : Below w.heap.size w w') => find_any A L c t q w' (hr.below h) hn)
  clear hr
  generalize hs L ⟨t, q⟩ = hb at *
  generalize fiI L ⟨t, q⟩ = ii at *
  generalize ck L = ce at *
  go_enter Try.func16, Try.ntmps16
  go_wp2_with fail
  refine (FI.out _ K.out).mono ?_
  rintro e w2 ⟨rfl, hb2⟩
  replace K := hide (btrans K.out hb2)
  clear hb2
  go_wp2
  go_ret
  exact ⟨rfl, K.out⟩
end Go.Proofs.Ytioffnpnoohbiaa.Rm
