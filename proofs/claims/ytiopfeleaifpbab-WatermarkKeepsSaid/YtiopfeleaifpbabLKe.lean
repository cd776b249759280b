import Derived.Test.YtiopfeleaifpbabAw
import Derived.Test.YtiopfeleaifpbabW7
namespace Go.Proofs.Ytiopfeleaifpbab.Bd
open Go Go.RowKit
set_option linter.unusedVariables false
set_option linter.unusedSimpArgs false
theorem pw_wrap {k : Nat} (hk : k < 5) : wrap64 ((2 : Int) ^ k) = 2 ^ k ∧ IntKind.i64.wrap ((2 : Int) ^ k) = 2 ^ k := by
  have h := pw_le hk
  exact ⟨by unfold wrap64; omega, IntWalk.i64_in _ (by omega)⟩
set_option maxRecDepth 100000 in
set_option maxHeartbeats 8000000 in
theorem law_keeps (A : Option Addr) (cp : Nat) (l : Is) (m : Mk) (n0 n1 : Int) (w : World) (hr : Bi w A l) (hc : l.length ≤ cp) (hn : l.length ≤ 9223372036854775807) : Calls Try.prog 6 #[.slice A l.length cp, .agg #[.int .i64 m.lo, .int .i64 m.md, .int .i64 m.hi], .agg #[.int .i64 n0, .int .i64 n1]] w fun e w' => e = .returned (.bool true) ∧ Below w.heap.size w w' := by
  have AW := hide (fun W => awake_any W)
  have FA := hide (fun W (hb : Below w.heap.size w W) => allow_any A cp l m n0 n1 W (hr.below hb) hc hn)
  have VD := hide (fun W (hb : Below w.heap.size w W) => valid_any A cp l W (hr.below hb) hn)
  have HR := hide hr
  have HAL := hide (show alwP l m n0 n1 → 0 ≤ flM m n1 ∧ valL l ∧ 0 ≤ n0 ∧ n0 ≤ 4 ∧ flM m n1 ≤ ab l 0 - 2 ^ n0.toNat ∧ 0 < ab l n0.toNat from fun h => by
    have h2 := (alwP_ref h.1 h.2.1 h.2.2.1 h.2.2.2.1).1 h
    have h3 := (abN_bd h.2.1 n0.toNat 5 (Nat.le_refl _)).1
    exact ⟨h.1, h.2.1, h.2.2.1, h.2.2.2.1, h2.1.1, by have := h2.1.2; unfold ab at this ⊢; omega⟩)
  have FLO := hide (show 0 ≤ flM m n1 → (n1 = 0 ∧ flM m n1 = m.lo ∨ n1 = 1 ∧ flM m n1 = m.lo / 2 ∨ n1 = 2 ∧ flM m n1 = 0) ∧ 0 ≤ m.lo ∧ m.lo ≤ 4096 from fun h => by
    by_cases hok : okM m
    · have h0 := hok.1.1
      unfold inC at h0
      refine ⟨?_, h0⟩
      unfold flM at h ⊢
      rw [if_pos hok] at h ⊢
      by_cases e0 : n1 = 0
      · exact .inl ⟨e0, by rw [if_pos e0]⟩
      · rw [if_neg e0] at h ⊢
        by_cases e1 : n1 = 1
        · exact .inr (.inl ⟨e1, by rw [if_pos e1]⟩)
        · rw [if_neg e1] at h ⊢
          by_cases e2 : n1 = 2
          · exact .inr (.inr ⟨e2, by rw [if_pos e2]⟩)
          · rw [if_neg e2] at h; omega
    · unfold flM at h; rw [if_neg hok] at h; omega)
  generalize flM m n1 = fl at *
  have HA2 := hide (show decide (alwP l m n0 n1) = true → alwP l m n0 n1 from of_decide_eq_true)
  obtain ⟨al, hal⟩ : ∃ al, al = decide (alwP l m n0 n1) := ⟨_, rfl⟩
  rw [← hal] at HA2 FA
  obtain ⟨lo, md, hi⟩ := m
  simp only at FA FLO
  show Calls Try.prog 6 #[.slice A l.length cp, .agg #[.int .i64 lo, .int .i64 md, .int .i64 hi], .agg #[.int .i64 n0, .int .i64 n1]] w _
  obtain ⟨g4, hg⟩ : ∃ g, g = w.heap.size := ⟨_, rfl⟩
  obtain ⟨W0, hW0⟩ : ∃ W0, W0 = (w.alloc (.cells #[.int .i64 lo, .int .i64 md, .int .i64 hi] 23)).alloc (.cells #[.int .i64 n0, .int .i64 n1] 29) := ⟨_, rfl⟩
  have X4 := hide (show Box W0 g4 23 #[.int .i64 lo, .int .i64 md, .int .i64 hi] by rw [hW0, hg]; exact (Box.new w 23 _).more _)
  have X5 := hide (show Box W0 (g4 + 1) 29 #[.int .i64 n0, .int .i64 n1] by rw [hW0, hg]; exact Box.new2 w _ 29 _)
  have K := hide (show Below w.heap.size w W0 by rw [hW0]; exact bal (bal (brefl w) _) _)
  obtain ⟨g5, hg5⟩ : ∃ g5, g5 = g4 + 1 := ⟨_, rfl⟩
  clear hr hal
  by_cases h20 : l.length ≤ 20
  · have d20 : decide ((20 : Int) < (l.length : Int)) = false := decide_eq_false (by omega)
    clear h20
    cases al
    · clear HA2 HAL FLO
      go_enter Try.func6, Try.ntmps6
      go_upto_region 1 with fail
      rw [← hW0, ← hg]
      clear hW0 hg
      rw [← hg5] at X5 ⊢
      clear hg5
      go_upto_region 3 with (go_at_call 10; refine (AW.out _).mono ?_; rintro e w1 ⟨rfl, hb⟩; replace X4 := hide (X4.out.below hb); replace X5 := hide (X5.out.below hb); replace K := hide (btrans K.out hb); clear hb)
      replace X4 := hide (show Box w1.drew g4 23 #[.int .i64 lo, .int .i64 md, .int .i64 hi] from X4.out.below (below_drewN (brefl w1) 1))
      replace X5 := hide (show Box w1.drew g5 29 #[.int .i64 n0, .int .i64 n1] from X5.out.below (below_drewN (brefl w1) 1))
      replace K := hide (show Below w.heap.size w w1.drew from btrans K.out (below_drewN (brefl w1) 1))
      refine wp_region_noPanic ?_
      refine wp_region_held_drew (S := (fun W => W.cell? ⟨g5, 0, none⟩ = some (.int .i64 n0) ∧ W.cell? ⟨g5, 1, none⟩ = some (.int .i64 n1))) (by kernel_rfl) ?_ (fun hHeld => ?_)
      · exact ⟨X5.out.cell 0, X5.out.cell 1⟩
      generalize w1.drew = w2 at *
      refine wpAnyH_take (i := 0) (oi := ⟨some 22, _, _, _, _, _⟩) (v := ?_) rfl (by kernel_rfl) (by kernel_rfl) (by kernel_rfl) (fun _ _ _ h => h) (Or.inl ⟨by kernel_rfl, ?_⟩) (by assumption) ?_
      rotate_left 1
      · (intro w hSw; (try dsimp only at hSw); go_simp) <;> (with_reducible rfl)
      (try simp only [Act.put, List.setIfInBounds_toArray, List.set_cons_succ, List.set_cons_zero])
      refine wpAnyH_take (i := 1) (oi := ⟨some 23, _, _, _, _, _⟩) (v := ?_) rfl (by kernel_rfl) (by kernel_rfl) (by kernel_rfl) (fun _ _ _ h => h) (Or.inl ⟨by kernel_rfl, ?_⟩) (by assumption) ?_
      rotate_left 1
      · (intro w hSw; (try dsimp only at hSw); go_simp) <;> (with_reducible rfl)
      (try simp only [Act.put, List.setIfInBounds_toArray, List.set_cons_succ, List.set_cons_zero])
      refine wpAnyH_take (i := 2) (oi := ⟨some 24, _, _, _, _, _⟩) (v := ?_) rfl (by kernel_rfl) (by kernel_rfl) (by kernel_rfl) (fun _ _ _ h => h) (Or.inl ⟨by kernel_rfl, ?_⟩) (by assumption) ?_
      rotate_left 1
      · (intro w hSw; (try dsimp only at hSw); go_simp) <;> (with_reducible rfl)
      (try simp only [Act.put, List.setIfInBounds_toArray, List.set_cons_succ, List.set_cons_zero])
      refine wpAnyH_take (i := 3) (oi := ⟨some 25, _, _, _, _, _⟩) (v := ?_) rfl (by kernel_rfl) (by kernel_rfl) (by kernel_rfl) (fun _ _ _ h => h) (Or.inl ⟨by kernel_rfl, ?_⟩) (by assumption) ?_
      rotate_left 1
      · (intro w hSw; (try dsimp only at hSw); go_simp) <;> (with_reducible rfl)
      (try simp only [Act.put, List.setIfInBounds_toArray, List.set_cons_succ, List.set_cons_zero])
      refine wpAnyH_take (i := 4) (oi := ⟨some 7, _, _, _, _, _⟩) (v := ?_) rfl (by kernel_rfl) (by kernel_rfl) (by kernel_rfl) (fun _ _ _ h => h) (Or.inl ⟨by kernel_rfl, ?_⟩) (by assumption) ?_
      rotate_left 1
      · (intro w hSw; (try dsimp only at hSw); go_simp) <;> (with_reducible rfl)
      (try simp only [Act.put, List.setIfInBounds_toArray, List.set_cons_succ, List.set_cons_zero])
      refine wpAnyH_take (i := 5) (oi := ⟨some 8, _, _, _, _, _⟩) (v := ?_) rfl (by kernel_rfl) (by kernel_rfl) (by kernel_rfl) (fun _ _ _ h => h) (Or.inl ⟨by kernel_rfl, ?_⟩) (by assumption) ?_
      rotate_left 1
      · (intro w hSw; (try dsimp only at hSw); go_simp) <;> (with_reducible rfl)
      (try simp only [Act.put, List.setIfInBounds_toArray, List.set_cons_succ, List.set_cons_zero])
      refine wpAnyH_done (by kernel_rfl) ?_ _
      refine NoPanic.normal ?_
      go_wp2_with fail
      refine (VD.out _ K.out).mono ?_
      rintro e w8 ⟨⟨t, rfl, ht⟩, rfl⟩
      have x0 : w2.cell? ⟨g4, 0, none⟩ = some (.int .i64 lo) := X4.out.cell 0; have x1 : w2.cell? ⟨g4, 1, none⟩ = some (.int .i64 md) := X4.out.cell 1; have x2 : w2.cell? ⟨g4, 2, none⟩ = some (.int .i64 hi) := X4.out.cell 2
      go_wp2_with fail
      refine (FA.out _ K.out).mono ?_
      rintro e w3 ⟨rfl, hb⟩
      replace X4 := hide (X4.out.below hb); replace X5 := hide (X5.out.below hb); replace K := hide (btrans K.out hb); clear hb
      clear x0 x1 x2
      go_wp2
      go_ret
      exact ⟨rfl, K.out⟩
    · obtain ⟨hf0, hv, h0, h4, hf1, hp⟩ := HAL.out (HA2.out rfl)
      have dv := decide_eq_true hv
      have HV := hide hv
      obtain ⟨hfl, hl0, hl1⟩ := FLO.out hf0
      obtain ⟨k, rfl⟩ : ∃ k : Nat, n0 = k := ⟨n0.toNat, by omega⟩
      rw [Int.toNat_natCast] at hf1 hp
      have EX := hide (ab_pos hp)
      have hk4 : k ≤ 4 := by omega
      obtain ⟨p1, p2⟩ := pw_le (k := k) (by omega)
      have bd : 0 ≤ ab l 0 ∧ ab l 0 ≤ 400000 := by have := abN_bd hv 0 5 (Nat.le_refl _); unfold ab; omega
      have HW := hide (pw_wrap (k := k) (by omega))
      have HFL := hide hfl
      have HF1 := hide hf1
      clear HA2 HAL FLO hv hp hf0 hfl hf1 bd
      have BD := hide (show 0 ≤ ab l 0 ∧ ab l 0 ≤ 400000 by have := abN_bd HV.out 0 5 (Nat.le_refl _); unfold ab; omega)
      go_enter Try.func6, Try.ntmps6
      go_upto_region 1 with fail
      rw [← hW0, ← hg]
      clear hW0 hg
      rw [← hg5] at X5 ⊢
      clear hg5
      go_upto_region 3 with (go_at_call 10; refine (AW.out _).mono ?_; rintro e w1 ⟨rfl, hb⟩; replace X4 := hide (X4.out.below hb); replace X5 := hide (X5.out.below hb); replace K := hide (btrans K.out hb); clear hb)
      replace X4 := hide (show Box w1.drew g4 23 #[.int .i64 lo, .int .i64 md, .int .i64 hi] from X4.out.below (below_drewN (brefl w1) 1))
      replace X5 := hide (show Box w1.drew g5 29 #[.int .i64 (k : Int), .int .i64 n1] from X5.out.below (below_drewN (brefl w1) 1))
      replace K := hide (show Below w.heap.size w w1.drew from btrans K.out (below_drewN (brefl w1) 1))
      refine wp_region_noPanic ?_
      refine wp_region_held_drew (S := (fun W => W.cell? ⟨g5, 0, none⟩ = some (.int .i64 (k : Int)) ∧ W.cell? ⟨g5, 1, none⟩ = some (.int .i64 n1))) (by kernel_rfl) ?_ (fun hHeld => ?_)
      · exact ⟨X5.out.cell 0, X5.out.cell 1⟩
      generalize w1.drew = w2 at *
      refine wpAnyH_take (i := 0) (oi := ⟨some 22, _, _, _, _, _⟩) (v := ?_) rfl (by kernel_rfl) (by kernel_rfl) (by kernel_rfl) (fun _ _ _ h => h) (Or.inl ⟨by kernel_rfl, ?_⟩) (by assumption) ?_
      rotate_left 1
      · (intro w hSw; (try dsimp only at hSw); go_simp) <;> (with_reducible rfl)
      (try simp only [Act.put, List.setIfInBounds_toArray, List.set_cons_succ, List.set_cons_zero])
      refine wpAnyH_take (i := 1) (oi := ⟨some 23, _, _, _, _, _⟩) (v := ?_) rfl (by kernel_rfl) (by kernel_rfl) (by kernel_rfl) (fun _ _ _ h => h) (Or.inl ⟨by kernel_rfl, ?_⟩) (by assumption) ?_
      rotate_left 1
      · (intro w hSw; (try dsimp only at hSw); go_simp) <;> (with_reducible rfl)
      (try simp only [Act.put, List.setIfInBounds_toArray, List.set_cons_succ, List.set_cons_zero])
      refine wpAnyH_take (i := 2) (oi := ⟨some 24, _, _, _, _, _⟩) (v := ?_) rfl (by kernel_rfl) (by kernel_rfl) (by kernel_rfl) (fun _ _ _ h => h) (Or.inl ⟨by kernel_rfl, ?_⟩) (by assumption) ?_
      rotate_left 1
      · (intro w hSw; (try dsimp only at hSw); go_simp) <;> (with_reducible rfl)
      (try simp only [Act.put, List.setIfInBounds_toArray, List.set_cons_succ, List.set_cons_zero])
      refine wpAnyH_take (i := 3) (oi := ⟨some 25, _, _, _, _, _⟩) (v := ?_) rfl (by kernel_rfl) (by kernel_rfl) (by kernel_rfl) (fun _ _ _ h => h) (Or.inl ⟨by kernel_rfl, ?_⟩) (by assumption) ?_
      rotate_left 1
      · (intro w hSw; (try dsimp only at hSw); go_simp) <;> (with_reducible rfl)
      (try simp only [Act.put, List.setIfInBounds_toArray, List.set_cons_succ, List.set_cons_zero])
      refine wpAnyH_take (i := 4) (oi := ⟨some 7, _, _, _, _, _⟩) (v := ?_) rfl (by kernel_rfl) (by kernel_rfl) (by kernel_rfl) (fun _ _ _ h => h) (Or.inl ⟨by kernel_rfl, ?_⟩) (by assumption) ?_
      rotate_left 1
      · (intro w hSw; (try dsimp only at hSw); go_simp) <;> (with_reducible rfl)
      (try simp only [Act.put, List.setIfInBounds_toArray, List.set_cons_succ, List.set_cons_zero])
      refine wpAnyH_take (i := 5) (oi := ⟨some 8, _, _, _, _, _⟩) (v := ?_) rfl (by kernel_rfl) (by kernel_rfl) (by kernel_rfl) (fun _ _ _ h => h) (Or.inl ⟨by kernel_rfl, ?_⟩) (by assumption) ?_
      rotate_left 1
      · (intro w hSw; (try dsimp only at hSw); go_simp) <;> (with_reducible rfl)
      (try simp only [Act.put, List.setIfInBounds_toArray, List.set_cons_succ, List.set_cons_zero])
      refine wpAnyH_done (by kernel_rfl) ?_ _
      refine NoPanic.normal ?_
      go_wp2_with fail
      refine (VD.out _ K.out).mono ?_
      rintro e w8 ⟨⟨t, rfl, ht⟩, rfl⟩
      have x0 : w2.cell? ⟨g4, 0, none⟩ = some (.int .i64 lo) := X4.out.cell 0; have x1 : w2.cell? ⟨g4, 1, none⟩ = some (.int .i64 md) := X4.out.cell 1; have x2 : w2.cell? ⟨g4, 2, none⟩ = some (.int .i64 hi) := X4.out.cell 2
      go_wp2_with fail
      refine (FA.out _ K.out).mono ?_
      rintro e w3 ⟨rfl, hb⟩
      replace X4 := hide (X4.out.below hb); replace X5 := hide (X5.out.below hb); replace K := hide (btrans K.out hb); clear hb
      clear x0 x1 x2
      have ht2 := ht HV.out
      subst ht2
      generalize ab l 0 = T at *
      have hfl := HFL.out
      have hf1 := HF1.out
      have bd := BD.out
      obtain ⟨hw1, hw2⟩ := HW.out
      clear HFL HF1
      have hn1 : ¬ k < 0 := by omega
      rcases hfl with ⟨rfl, hfe⟩ | ⟨rfl, hfe⟩ | ⟨rfl, hfe⟩
      · rw [hfe] at hf1
        clear hfe
        have x0 : w3.cell? ⟨g4, 0, none⟩ = some (.int .i64 lo) := X4.out.cell 0; have x1 : w3.cell? ⟨g4, 1, none⟩ = some (.int .i64 md) := X4.out.cell 1; have x2 : w3.cell? ⟨g4, 2, none⟩ = some (.int .i64 hi) := X4.out.cell 2
        go_wp2
        go_loopw [12, 13] (fun a b wr => ∃ (j : Nat) (bl : Bool), k ≤ j ∧ j ≤ 5 ∧ a = .bool bl ∧ b = .int .i64 j ∧ wr = w3 ∧ Hid (bl = true ↔ ∃ i : Nat, k ≤ i ∧ i < j ∧ 0 < l.getD i 0)) (fun _ b _ => 6 - (intOf b).toNat)
        case atStart => exact ⟨k, false, Nat.le_refl _, by omega, rfl, rfl, rfl, hide (by simp; intro i h1 h2; omega)⟩
        case round =>
          obtain ⟨j, bl, hkj, hj5, rfl, rfl, rfl, BL⟩ := hrel
          have hj0 : (0 : Int) ≤ (j : Int) := by omega
          by_cases hjl : j < l.length
          · have hl2 : (j : Int) < (l.length : Int) := by omega
            by_cases hj4 : j ≤ 4
            · have h42 : (j : Int) ≤ 4 := by omega
              obtain ⟨b, off, rfl, hbl, c0⟩ := HR.out.at_ K.out hjl
              cases bl
              · have BZ := hide (fun h => BL.out.2 h)
                by_cases hz : 0 < l.getD j 0
                · have B2 := hide (show true = true ↔ ∃ i : Nat, k ≤ i ∧ i < j + 1 ∧ 0 < l.getD i 0 from ⟨fun _ => ⟨j, hkj, by omega, hz⟩, fun _ => rfl⟩)
                  generalize l.getD j 0 = z at *
                  go_wp2
                  go_roundw
                  case rel => exact ⟨j + 1, true, by omega, by omega, rfl, by go_num, by first | rfl | trivial, by simpa using B2⟩
                  case measure => simp [intOf]; omega
                · have B2 := hide (show false = true ↔ ∃ i : Nat, k ≤ i ∧ i < j + 1 ∧ 0 < l.getD i 0 from ⟨fun h => (by cases h), fun ⟨i, h1, h2, h3⟩ => by
                    by_cases e : i = j
                    · rw [e] at h3; exact absurd h3 hz
                    · exact BL.out.2 ⟨i, h1, by omega, h3⟩⟩)
                  generalize l.getD j 0 = z at *
                  go_wp2
                  go_roundw
                  case rel => exact ⟨j + 1, false, by omega, by omega, rfl, by go_num, by first | rfl | trivial, by simpa using B2⟩
                  case measure => simp [intOf]; omega
              · have B2 := hide (show true = true ↔ ∃ i : Nat, k ≤ i ∧ i < j + 1 ∧ 0 < l.getD i 0 from ⟨fun _ => by obtain ⟨i, h1, h2, h3⟩ := BL.out.1 rfl; exact ⟨i, h1, by omega, h3⟩, fun _ => rfl⟩)
                generalize l.getD j 0 = z at *
                go_wp2
                go_roundw
                case rel => exact ⟨j + 1, true, by omega, by omega, rfl, by go_num, by first | rfl | trivial, by simpa using B2⟩
                case measure => simp [intOf]; omega
            · have h42 : ¬ (j : Int) ≤ 4 := by omega
              obtain rfl : bl = true := BL.out.2 (by obtain ⟨i, h1, h2, h3, h4⟩ := EX.out; exact ⟨i, h1, by omega, h4⟩)
              go_wp2
              go_ret
              exact ⟨by first | (simp; done) | (simp; omega), K.out⟩
          · have hl2 : ¬ (j : Int) < (l.length : Int) := by omega
            obtain rfl : bl = true := BL.out.2 (by obtain ⟨i, h1, h2, h3, h4⟩ := EX.out; exact ⟨i, h1, by omega, h4⟩)
            go_wp2
            go_ret
            exact ⟨by first | (simp; done) | (simp; omega), K.out⟩
      · rw [hfe] at hf1
        clear hfe
        have x0 : w3.cell? ⟨g4, 0, none⟩ = some (.int .i64 lo) := X4.out.cell 0; have x1 : w3.cell? ⟨g4, 1, none⟩ = some (.int .i64 md) := X4.out.cell 1; have x2 : w3.cell? ⟨g4, 2, none⟩ = some (.int .i64 hi) := X4.out.cell 2
        go_wp2
        go_loopw [12, 13] (fun a b wr => ∃ (j : Nat) (bl : Bool), k ≤ j ∧ j ≤ 5 ∧ a = .bool bl ∧ b = .int .i64 j ∧ wr = w3 ∧ Hid (bl = true ↔ ∃ i : Nat, k ≤ i ∧ i < j ∧ 0 < l.getD i 0)) (fun _ b _ => 6 - (intOf b).toNat)
        case atStart => exact ⟨k, false, Nat.le_refl _, by omega, rfl, rfl, rfl, hide (by simp; intro i h1 h2; omega)⟩
        case round =>
          obtain ⟨j, bl, hkj, hj5, rfl, rfl, rfl, BL⟩ := hrel
          have hj0 : (0 : Int) ≤ (j : Int) := by omega
          by_cases hjl : j < l.length
          · have hl2 : (j : Int) < (l.length : Int) := by omega
            by_cases hj4 : j ≤ 4
            · have h42 : (j : Int) ≤ 4 := by omega
              obtain ⟨b, off, rfl, hbl, c0⟩ := HR.out.at_ K.out hjl
              cases bl
              · have BZ := hide (fun h => BL.out.2 h)
                by_cases hz : 0 < l.getD j 0
                · have B2 := hide (show true = true ↔ ∃ i : Nat, k ≤ i ∧ i < j + 1 ∧ 0 < l.getD i 0 from ⟨fun _ => ⟨j, hkj, by omega, hz⟩, fun _ => rfl⟩)
                  generalize l.getD j 0 = z at *
                  go_wp2
                  go_roundw
                  case rel => exact ⟨j + 1, true, by omega, by omega, rfl, by go_num, by first | rfl | trivial, by simpa using B2⟩
                  case measure => simp [intOf]; omega
                · have B2 := hide (show false = true ↔ ∃ i : Nat, k ≤ i ∧ i < j + 1 ∧ 0 < l.getD i 0 from ⟨fun h => (by cases h), fun ⟨i, h1, h2, h3⟩ => by
                    by_cases e : i = j
                    · rw [e] at h3; exact absurd h3 hz
                    · exact BL.out.2 ⟨i, h1, by omega, h3⟩⟩)
                  generalize l.getD j 0 = z at *
                  go_wp2
                  go_roundw
                  case rel => exact ⟨j + 1, false, by omega, by omega, rfl, by go_num, by first | rfl | trivial, by simpa using B2⟩
                  case measure => simp [intOf]; omega
              · have B2 := hide (show true = true ↔ ∃ i : Nat, k ≤ i ∧ i < j + 1 ∧ 0 < l.getD i 0 from ⟨fun _ => by obtain ⟨i, h1, h2, h3⟩ := BL.out.1 rfl; exact ⟨i, h1, by omega, h3⟩, fun _ => rfl⟩)
                generalize l.getD j 0 = z at *
                go_wp2
                go_roundw
                case rel => exact ⟨j + 1, true, by omega, by omega, rfl, by go_num, by first | rfl | trivial, by simpa using B2⟩
                case measure => simp [intOf]; omega
            · have h42 : ¬ (j : Int) ≤ 4 := by omega
              obtain rfl : bl = true := BL.out.2 (by obtain ⟨i, h1, h2, h3, h4⟩ := EX.out; exact ⟨i, h1, by omega, h4⟩)
              go_wp2
              go_ret
              exact ⟨by first | (simp; done) | (simp; omega), K.out⟩
          · have hl2 : ¬ (j : Int) < (l.length : Int) := by omega
            obtain rfl : bl = true := BL.out.2 (by obtain ⟨i, h1, h2, h3, h4⟩ := EX.out; exact ⟨i, h1, by omega, h4⟩)
            go_wp2
            go_ret
            exact ⟨by first | (simp; done) | (simp; omega), K.out⟩
      · rw [hfe] at hf1
        clear hfe
        have x0 : w3.cell? ⟨g4, 0, none⟩ = some (.int .i64 lo) := X4.out.cell 0; have x1 : w3.cell? ⟨g4, 1, none⟩ = some (.int .i64 md) := X4.out.cell 1; have x2 : w3.cell? ⟨g4, 2, none⟩ = some (.int .i64 hi) := X4.out.cell 2
        go_wp2
        go_loopw [12, 13] (fun a b wr => ∃ (j : Nat) (bl : Bool), k ≤ j ∧ j ≤ 5 ∧ a = .bool bl ∧ b = .int .i64 j ∧ wr = w3 ∧ Hid (bl = true ↔ ∃ i : Nat, k ≤ i ∧ i < j ∧ 0 < l.getD i 0)) (fun _ b _ => 6 - (intOf b).toNat)
        case atStart => exact ⟨k, false, Nat.le_refl _, by omega, rfl, rfl, rfl, hide (by simp; intro i h1 h2; omega)⟩
        case round =>
          obtain ⟨j, bl, hkj, hj5, rfl, rfl, rfl, BL⟩ := hrel
          have hj0 : (0 : Int) ≤ (j : Int) := by omega
          by_cases hjl : j < l.length
          · have hl2 : (j : Int) < (l.length : Int) := by omega
            by_cases hj4 : j ≤ 4
            · have h42 : (j : Int) ≤ 4 := by omega
              obtain ⟨b, off, rfl, hbl, c0⟩ := HR.out.at_ K.out hjl
              cases bl
              · have BZ := hide (fun h => BL.out.2 h)
                by_cases hz : 0 < l.getD j 0
                · have B2 := hide (show true = true ↔ ∃ i : Nat, k ≤ i ∧ i < j + 1 ∧ 0 < l.getD i 0 from ⟨fun _ => ⟨j, hkj, by omega, hz⟩, fun _ => rfl⟩)
                  generalize l.getD j 0 = z at *
                  go_wp2
                  go_roundw
                  case rel => exact ⟨j + 1, true, by omega, by omega, rfl, by go_num, by first | rfl | trivial, by simpa using B2⟩
                  case measure => simp [intOf]; omega
                · have B2 := hide (show false = true ↔ ∃ i : Nat, k ≤ i ∧ i < j + 1 ∧ 0 < l.getD i 0 from ⟨fun h => (by cases h), fun ⟨i, h1, h2, h3⟩ => by
                    by_cases e : i = j
                    · rw [e] at h3; exact absurd h3 hz
                    · exact BL.out.2 ⟨i, h1, by omega, h3⟩⟩)
                  generalize l.getD j 0 = z at *
                  go_wp2
                  go_roundw
                  case rel => exact ⟨j + 1, false, by omega, by omega, rfl, by go_num, by first | rfl | trivial, by simpa using B2⟩
                  case measure => simp [intOf]; omega
              · have B2 := hide (show true = true ↔ ∃ i : Nat, k ≤ i ∧ i < j + 1 ∧ 0 < l.getD i 0 from ⟨fun _ => by obtain ⟨i, h1, h2, h3⟩ := BL.out.1 rfl; exact ⟨i, h1, by omega, h3⟩, fun _ => rfl⟩)
                generalize l.getD j 0 = z at *
                go_wp2
                go_roundw
                case rel => exact ⟨j + 1, true, by omega, by omega, rfl, by go_num, by first | rfl | trivial, by simpa using B2⟩
                case measure => simp [intOf]; omega
            · have h42 : ¬ (j : Int) ≤ 4 := by omega
              obtain rfl : bl = true := BL.out.2 (by obtain ⟨i, h1, h2, h3, h4⟩ := EX.out; exact ⟨i, h1, by omega, h4⟩)
              go_wp2
              go_ret
              exact ⟨by first | (simp; done) | (simp; omega), K.out⟩
          · have hl2 : ¬ (j : Int) < (l.length : Int) := by omega
            obtain rfl : bl = true := BL.out.2 (by obtain ⟨i, h1, h2, h3, h4⟩ := EX.out; exact ⟨i, h1, by omega, h4⟩)
            go_wp2
            go_ret
            exact ⟨by first | (simp; done) | (simp; omega), K.out⟩
  · have d20 : decide ((20 : Int) < (l.length : Int)) = true := decide_eq_true (by omega)
    clear h20
    go_enter Try.func6, Try.ntmps6
    go_upto_region 1 with fail
    rw [← hW0, ← hg]
    clear hW0 hg
    rw [← hg5] at X5 ⊢
    clear hg5
    go_upto_region 2 with (go_at_call 10; refine (AW.out _).mono ?_; rintro e w1 ⟨rfl, hb⟩; replace X4 := hide (X4.out.below hb); replace X5 := hide (X5.out.below hb); replace K := hide (btrans K.out hb); clear hb)
    go_wp2_with (go_at_call 10; refine (AW.out _).mono ?_; rintro e w3 ⟨rfl, hb⟩)
    go_ret
    exact ⟨rfl, btrans K.out hb⟩
end Go.Proofs.Ytiopfeleaifpbab.Bd
