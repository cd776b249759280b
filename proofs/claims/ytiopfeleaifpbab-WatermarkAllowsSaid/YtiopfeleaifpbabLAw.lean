import Derived.Test.YtiopfeleaifpbabAw
namespace Go.Proofs.Ytiopfeleaifpbab.Bd
open Go Go.RowKit
set_option linter.unusedVariables false
set_option linter.unusedSimpArgs false
set_option maxRecDepth 100000 in
set_option maxHeartbeats 8000000 in
theorem law_allows (A : Option Addr) (cp : Nat) (l : Is) (m : Mk) (n0 n1 : Int) (w : World) (hr : Bi w A l) (hc : l.length ≤ cp) (hn : l.length ≤ 9223372036854775807) : Calls Try.prog 5 #[.slice A l.length cp, .agg #[.int .i64 m.lo, .int .i64 m.md, .int .i64 m.hi], .agg #[.int .i64 n0, .int .i64 n1]] w fun e w' => e = .returned (.bool true) ∧ Below w.heap.size w w' := by
  have AW := hide (fun W => awake_any W)
  have FA := hide (fun W (hb : Below w.heap.size w W) => allow_any A cp l m n0 n1 W (hr.below hb) hc hn)
  have FB := hide (fun W (hb : Below w.heap.size w W) => rallow_any A cp l m n0 n1 W (hr.below hb) hn)
  generalize decide (alwP l m n0 n1) = al at *
  obtain ⟨lo, md, hi⟩ := m
  simp only at FA FB
  show Calls Try.prog 5 #[.slice A l.length cp, .agg #[.int .i64 lo, .int .i64 md, .int .i64 hi], .agg #[.int .i64 n0, .int .i64 n1]] w _
  obtain ⟨g4, hg⟩ : ∃ g, g = w.heap.size := ⟨_, rfl⟩
  obtain ⟨W0, hW0⟩ : ∃ W0, W0 = (w.alloc (.cells #[.int .i64 lo, .int .i64 md, .int .i64 hi] 23)).alloc (.cells #[.int .i64 n0, .int .i64 n1] 29) := ⟨_, rfl⟩
  have X4 := hide (show Box W0 g4 23 #[.int .i64 lo, .int .i64 md, .int .i64 hi] by rw [hW0, hg]; exact (Box.new w 23 _).more _)
  have X5 := hide (show Box W0 (g4 + 1) 29 #[.int .i64 n0, .int .i64 n1] by rw [hW0, hg]; exact Box.new2 w _ 29 _)
  have K := hide (show Below w.heap.size w W0 by rw [hW0]; exact bal (bal (brefl w) _) _)
  obtain ⟨g5, hg5⟩ : ∃ g5, g5 = g4 + 1 := ⟨_, rfl⟩
  clear hr
  by_cases h20 : l.length ≤ 20
  · have d20 : decide ((20 : Int) < (l.length : Int)) = false := decide_eq_false (by omega)
    clear h20
    go_enter Try.func5, Try.ntmps5
    go_upto_region 1 with fail
    rw [← hW0, ← hg]
    clear hW0 hg
    rw [← hg5] at X5 ⊢
    clear hg5
    go_wp2_with (go_at_call 10; refine (AW.out _).mono ?_; rintro e w1 ⟨rfl, hb⟩; replace X4 := hide (X4.out.below hb); replace X5 := hide (X5.out.below hb); replace K := hide (btrans K.out hb); clear hb)
    replace X4 := hide (show Box w1.drew g4 23 #[.int .i64 lo, .int .i64 md, .int .i64 hi] from X4.out.below (below_drewN (brefl w1) 1))
    replace X5 := hide (show Box w1.drew g5 29 #[.int .i64 n0, .int .i64 n1] from X5.out.below (below_drewN (brefl w1) 1))
    replace K := hide (show Below w.heap.size w w1.drew from btrans K.out (below_drewN (brefl w1) 1))
    refine wp_region_noPanic ?_
    refine wp_region_held_drew (S := (fun W => W.cell? ⟨g4, 0, none⟩ = some (.int .i64 lo) ∧ W.cell? ⟨g4, 1, none⟩ = some (.int .i64 md) ∧ W.cell? ⟨g4, 2, none⟩ = some (.int .i64 hi) ∧ W.cell? ⟨g5, 0, none⟩ = some (.int .i64 n0) ∧ W.cell? ⟨g5, 1, none⟩ = some (.int .i64 n1))) (by kernel_rfl) ?_ (fun hHeld => ?_)
    · exact ⟨X4.out.cell 0, X4.out.cell 1, X4.out.cell 2, X5.out.cell 0, X5.out.cell 1⟩
    generalize w1.drew = w2 at *
    refine wpAnyH_take (i := 0) (oi := ⟨some 15, _, _, _, _, _⟩) (v := ?_) rfl (by kernel_rfl) (by kernel_rfl) (by kernel_rfl) (fun _ _ _ h => h) (Or.inl ⟨by kernel_rfl, ?_⟩) (by assumption) ?_
    rotate_left 1
    · (intro w hSw; (try dsimp only at hSw); go_simp) <;> (with_reducible rfl)
    (try simp only [Act.put, List.setIfInBounds_toArray, List.set_cons_succ, List.set_cons_zero])
    refine wpAnyH_take (i := 1) (oi := ⟨some 16, _, _, _, _, _⟩) (v := ?_) rfl (by kernel_rfl) (by kernel_rfl) (by kernel_rfl) (fun _ _ _ h => h) (Or.inl ⟨by kernel_rfl, ?_⟩) (by assumption) ?_
    rotate_left 1
    · (intro w hSw; (try dsimp only at hSw); go_simp) <;> (with_reducible rfl)
    (try simp only [Act.put, List.setIfInBounds_toArray, List.set_cons_succ, List.set_cons_zero])
    refine wpAnyH_take (i := 2) (oi := ⟨some 17, _, _, _, _, _⟩) (v := ?_) rfl (by kernel_rfl) (by kernel_rfl) (by kernel_rfl) (fun _ _ _ h => h) (Or.inl ⟨by kernel_rfl, ?_⟩) (by assumption) ?_
    rotate_left 1
    · (intro w hSw; (try dsimp only at hSw); go_simp) <;> (with_reducible rfl)
    (try simp only [Act.put, List.setIfInBounds_toArray, List.set_cons_succ, List.set_cons_zero])
    refine wpAnyH_take (i := 3) (oi := ⟨some 18, _, _, _, _, _⟩) (v := ?_) rfl (by kernel_rfl) (by kernel_rfl) (by kernel_rfl) (fun _ _ _ h => h) (Or.inl ⟨by kernel_rfl, ?_⟩) (by assumption) ?_
    rotate_left 1
    · (intro w hSw; (try dsimp only at hSw); go_simp) <;> (with_reducible rfl)
    (try simp only [Act.put, List.setIfInBounds_toArray, List.set_cons_succ, List.set_cons_zero])
    refine wpAnyH_take (i := 4) (oi := ⟨some 19, _, _, _, _, _⟩) (v := ?_) rfl (by kernel_rfl) (by kernel_rfl) (by kernel_rfl) (fun _ _ _ h => h) (Or.inl ⟨by kernel_rfl, ?_⟩) (by assumption) ?_
    rotate_left 1
    · (intro w hSw; (try dsimp only at hSw); go_simp) <;> (with_reducible rfl)
    (try simp only [Act.put, List.setIfInBounds_toArray, List.set_cons_succ, List.set_cons_zero])
    refine wpAnyH_take (i := 5) (oi := ⟨some 20, _, _, _, _, _⟩) (v := ?_) rfl (by kernel_rfl) (by kernel_rfl) (by kernel_rfl) (fun _ _ _ h => h) (Or.inl ⟨by kernel_rfl, ?_⟩) (by assumption) ?_
    rotate_left 1
    · (intro w hSw; (try dsimp only at hSw); go_simp) <;> (with_reducible rfl)
    (try simp only [Act.put, List.setIfInBounds_toArray, List.set_cons_succ, List.set_cons_zero])
    refine wpAnyH_take (i := 7) (oi := ⟨some 22, _, _, _, _, _⟩) (v := ?_) rfl (by kernel_rfl) (by kernel_rfl) (by kernel_rfl) (fun _ _ _ h => h) (Or.inl ⟨by kernel_rfl, ?_⟩) (by assumption) ?_
    rotate_left 1
    · (intro w hSw; (try dsimp only at hSw); go_simp) <;> (with_reducible rfl)
    (try simp only [Act.put, List.setIfInBounds_toArray, List.set_cons_succ, List.set_cons_zero])
    refine wpAnyH_take (i := 8) (oi := ⟨some 23, _, _, _, _, _⟩) (v := ?_) rfl (by kernel_rfl) (by kernel_rfl) (by kernel_rfl) (fun _ _ _ h => h) (Or.inl ⟨by kernel_rfl, ?_⟩) (by assumption) ?_
    rotate_left 1
    · (intro w hSw; (try dsimp only at hSw); go_simp) <;> (with_reducible rfl)
    (try simp only [Act.put, List.setIfInBounds_toArray, List.set_cons_succ, List.set_cons_zero])
    refine wpAnyH_take (i := 9) (oi := ⟨some 24, _, _, _, _, _⟩) (v := ?_) rfl (by kernel_rfl) (by kernel_rfl) (by kernel_rfl) (fun _ _ _ h => h) (Or.inl ⟨by kernel_rfl, ?_⟩) (by assumption) ?_
    rotate_left 1
    · (intro w hSw; (try dsimp only at hSw); go_simp) <;> (with_reducible rfl)
    (try simp only [Act.put, List.setIfInBounds_toArray, List.set_cons_succ, List.set_cons_zero])
    refine wpAnyH_take (i := 10) (oi := ⟨some 25, _, _, _, _, _⟩) (v := ?_) rfl (by kernel_rfl) (by kernel_rfl) (by kernel_rfl) (fun _ _ _ h => h) (Or.inl ⟨by kernel_rfl, ?_⟩) (by assumption) ?_
    rotate_left 1
    · (intro w hSw; (try dsimp only at hSw); go_simp) <;> (with_reducible rfl)
    (try simp only [Act.put, List.setIfInBounds_toArray, List.set_cons_succ, List.set_cons_zero])
    refine wpAnyH_take (i := 11) (oi := ⟨some 26, _, _, _, _, _⟩) (v := ?_) rfl (by kernel_rfl) (by kernel_rfl) (by kernel_rfl) (fun _ _ _ h => h) (Or.inl ⟨by kernel_rfl, ?_⟩) (by assumption) ?_
    rotate_left 1
    · (intro w hSw; (try dsimp only at hSw); go_simp) <;> (with_reducible rfl)
    (try simp only [Act.put, List.setIfInBounds_toArray, List.set_cons_succ, List.set_cons_zero])
    refine wpAnyH_take (i := 12) (oi := ⟨some 27, _, _, _, _, _⟩) (v := ?_) rfl (by kernel_rfl) (by kernel_rfl) (by kernel_rfl) (fun _ _ _ h => h) (Or.inl ⟨by kernel_rfl, ?_⟩) (by assumption) ?_
    rotate_left 1
    · (intro w hSw; (try dsimp only at hSw); go_simp) <;> (with_reducible rfl)
    (try simp only [Act.put, List.setIfInBounds_toArray, List.set_cons_succ, List.set_cons_zero])
    refine wpAnyH_ready (rs := [6]) (by kernel_rfl) (by simp) ?_
    refine AllReadyH.cons (o := _) rfl (fun K' hK => ?_) AllReadyH.nil
    go_simp
    refine (FA.out _ K.out).mono ?_
    rintro e w8 ⟨rfl, hb⟩
    replace X4 := hide (X4.out.below hb); replace X5 := hide (X5.out.below hb); replace K := hide (btrans K.out hb); clear hb
    refine hK.out _ _ ?_ (fun hHeld => ?_)
    · exact ⟨X4.out.cell 0, X4.out.cell 1, X4.out.cell 2, X5.out.cell 0, X5.out.cell 1⟩
    clear hK K'
    (try simp only [Act.put, List.setIfInBounds_toArray, List.set_cons_succ, List.set_cons_zero])
    refine wpAnyH_ready (rs := [13]) (by kernel_rfl) (by simp) ?_
    refine AllReadyH.cons (o := _) rfl (fun K' hK => ?_) AllReadyH.nil
    go_simp
    refine (FB.out _ K.out).mono ?_
    rintro e w8 ⟨rfl, hb⟩
    replace X4 := hide (X4.out.below hb); replace X5 := hide (X5.out.below hb); replace K := hide (btrans K.out hb); clear hb
    refine hK.out _ _ ?_ (fun hHeld => ?_)
    · exact ⟨X4.out.cell 0, X4.out.cell 1, X4.out.cell 2, X5.out.cell 0, X5.out.cell 1⟩
    clear hK K'
    (try simp only [Act.put, List.setIfInBounds_toArray, List.set_cons_succ, List.set_cons_zero])
    refine wpAnyH_take (i := 14) (oi := ⟨some 29, _, _, _, _, _⟩) (v := ?_) rfl (by kernel_rfl) (by kernel_rfl) (by kernel_rfl) (fun _ _ _ h => h) (Or.inl ⟨by kernel_rfl, ?_⟩) (by assumption) ?_
    rotate_left 1
    · (intro w hSw; (try dsimp only at hSw); go_simp) <;> (with_reducible rfl)
    (try simp only [Act.put, List.setIfInBounds_toArray, List.set_cons_succ, List.set_cons_zero])
    refine wpAnyH_take (i := 15) (oi := ⟨some 6, _, _, _, _, _⟩) (v := ?_) rfl (by kernel_rfl) (by kernel_rfl) (by kernel_rfl) (fun _ _ _ h => h) (Or.inl ⟨by kernel_rfl, ?_⟩) (by assumption) ?_
    rotate_left 1
    · (intro w hSw; (try dsimp only at hSw); go_simp) <;> (with_reducible rfl)
    (try simp only [Act.put, List.setIfInBounds_toArray, List.set_cons_succ, List.set_cons_zero])
    refine wpAnyH_done (by kernel_rfl) ?_ _
    refine NoPanic.normal ?_
    go_wp2
    go_ret
    exact ⟨by simp, K.out⟩
  · have d20 : decide ((20 : Int) < (l.length : Int)) = true := decide_eq_true (by omega)
    clear h20
    go_enter Try.func5, Try.ntmps5
    go_upto_region 1 with fail
    rw [← hW0, ← hg]
    clear hW0 hg
    rw [← hg5] at X5 ⊢
    clear hg5
    go_upto_region 2 with (go_at_call 10; refine (AW.out _).mono ?_; rintro e w1 ⟨rfl, hb⟩; replace X4 := hide (X4.out.below hb); replace X5 := hide (X5.out.below hb); replace K := hide (btrans K.out hb); clear hb)
    go_wp2_with (go_at_call 10; refine (AW.out _).mono ?_; rintro e w3 ⟨rfl, hb⟩)
    go_ret
    exact ⟨rfl, btrans K.out hb⟩
end Go.Proofs.Ytiopfeleaifpbab.Bd
