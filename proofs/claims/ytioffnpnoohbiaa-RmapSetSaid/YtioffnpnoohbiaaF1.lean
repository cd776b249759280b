import Derived.Test.YtioffnpnoohbiaaR
import Derived.Laws.EntriesVeiled
namespace Go.Proofs.Ytioffnpnoohbiaa.Rm
open Go Go.RowKit
set_option linter.unusedVariables false
set_option linter.unusedSimpArgs false
theorem space_any (s : Int) (w : World) : Calls Try.prog 33 #[.int .i64 s] w fun e w' => e = .returned (.bool (decide (inS s))) ∧ w = w' := by
  by_cases h1 : 0 ≤ s
  · by_cases h2 : s < 8
    · rw [decide_eq_true (show inS s from ⟨h1, h2⟩)]
      go_enter Try.func33, Try.ntmps33
      go_wp2
      go_ret
      exact ⟨rfl, rfl⟩
    · rw [decide_eq_false (show ¬ inS s from fun h => h2 h.2)]
      go_enter Try.func33, Try.ntmps33
      go_wp2
      go_ret
      exact ⟨rfl, rfl⟩
  · rw [decide_eq_false (show ¬ inS s from fun h => h1 h.1)]
    go_enter Try.func33, Try.ntmps33
    go_wp2
    go_ret
    exact ⟨rfl, rfl⟩
set_option maxHeartbeats 8000000 in
theorem val_any (s p : Int) (w : World) : Calls Try.prog 23 #[.agg #[.int .i64 s, .int .i64 p]] w fun e w' => e = .returned (.bool (decide (vM ⟨s, p⟩))) ∧ Below w.heap.size w w' := by
  have K := hide (bal (brefl w) (.cells #[.int .i64 s, .int .i64 p] 26))
  have SC := hide (fun w => space_any s w)
  by_cases h1 : inS s
  rotate_left 1
  · rw [decide_eq_false (show ¬ vM ⟨s, p⟩ from fun h => h1 h.1)]
    rw [decide_eq_false h1] at SC
    clear h1
    go_enter Try.func23, Try.ntmps23
    go_wp2_with fail
    refine (SC.out _).mono ?_
    rintro e w2 ⟨rfl, rfl⟩
    go_wp2
    go_ret
    exact ⟨rfl, K.out⟩
  have HS := hide h1
  rw [decide_eq_true h1] at SC
  clear h1
  have X := hide (MB.new w s p)
  obtain ⟨x0, x1⟩ := MB.cells X.out
  by_cases h2 : 0 ≤ p
  rotate_left 1
  · rw [decide_eq_false (show ¬ vM ⟨s, p⟩ from fun h => h2 h.2.1)]
    go_enter Try.func23, Try.ntmps23
    go_wp2_with fail
    refine (SC.out _).mono ?_
    rintro e w2 ⟨rfl, rfl⟩
    go_wp2
    go_ret
    exact ⟨rfl, K.out⟩
  by_cases h3 : p < 512
  rotate_left 1
  · rw [decide_eq_false (show ¬ vM ⟨s, p⟩ from fun h => h3 h.2.2)]
    go_enter Try.func23, Try.ntmps23
    go_wp2_with fail
    refine (SC.out _).mono ?_
    rintro e w2 ⟨rfl, rfl⟩
    go_wp2
    go_ret
    exact ⟨ret_bool (by simp; omega), K.out⟩
  rw [decide_eq_true (show vM ⟨s, p⟩ from ⟨HS.out, h2, h3⟩)]
  go_enter Try.func23, Try.ntmps23
  go_wp2_with fail
  refine (SC.out _).mono ?_
  rintro e w2 ⟨rfl, rfl⟩
  go_wp2
  go_ret
  exact ⟨rfl, K.out⟩
set_option maxHeartbeats 8000000 in
theorem rval_any (s p : Int) (w : World) : Calls Try.prog 26 #[.agg #[.int .i64 s, .int .i64 p]] w fun e w' => e = .returned (.bool (decide (vM ⟨s, p⟩))) ∧ Below w.heap.size w w' := by
  have K := hide (bal (brefl w) (.cells #[.int .i64 s, .int .i64 p] 26))
  by_cases h0 : 0 ≤ s
  rotate_left 1
  · rw [decide_eq_false (show ¬ vM ⟨s, p⟩ from fun h => h0 h.1.1)]
    go_enter Try.func26, Try.ntmps26
    go_wp2
    go_ret
    exact ⟨rfl, K.out⟩
  by_cases h1 : s < 8
  rotate_left 1
  · rw [decide_eq_false (show ¬ vM ⟨s, p⟩ from fun h => h1 h.1.2)]
    go_enter Try.func26, Try.ntmps26
    go_wp2
    go_ret
    exact ⟨rfl, K.out⟩
  by_cases h2 : 0 ≤ p
  rotate_left 1
  · rw [decide_eq_false (show ¬ vM ⟨s, p⟩ from fun h => h2 h.2.1)]
    go_enter Try.func26, Try.ntmps26
    go_wp2
    go_ret
    exact ⟨rfl, K.out⟩
  by_cases h3 : p < 512
  rotate_left 1
  · rw [decide_eq_false (show ¬ vM ⟨s, p⟩ from fun h => h3 h.2.2)]
    go_enter Try.func26, Try.ntmps26
    go_wp2
    go_ret
    exact ⟨rfl, K.out⟩
  rw [decide_eq_true (show vM ⟨s, p⟩ from ⟨⟨h0, h1⟩, h2, h3⟩)]
  go_enter Try.func26, Try.ntmps26
  go_wp2
  go_ret
  exact ⟨rfl, K.out⟩
set_option maxHeartbeats 8000000 in
theorem bef_any (s p t q : Int) (w : World) : Calls Try.prog 29 #[.agg #[.int .i64 s, .int .i64 p], .agg #[.int .i64 t, .int .i64 q]] w fun e w' => e = .returned (.bool (decide (ltM ⟨s, p⟩ ⟨t, q⟩))) ∧ Below w.heap.size w w' := by
  have K := hide (bal2 w (.cells #[.int .i64 s, .int .i64 p] 26) (.cells #[.int .i64 t, .int .i64 q] 26))
  by_cases h0 : s < t
  · rw [decide_eq_true (show ltM ⟨s, p⟩ ⟨t, q⟩ from Or.inl h0)]
    go_enter Try.func29, Try.ntmps29
    go_wp2
    go_ret
    exact ⟨rfl, K.out⟩
  by_cases h1 : s = t
  rotate_left 1
  · rw [decide_eq_false (show ¬ ltM ⟨s, p⟩ ⟨t, q⟩ from fun h => h.elim h0 (fun h => h1 h.1))]
    have hb : (s == t) = false := beq_eq_false_iff_ne.2 h1
    clear h1
    go_enter Try.func29, Try.ntmps29
    go_wp2
    go_ret
    exact ⟨rfl, K.out⟩
  subst h1
  clear h0
  by_cases h2 : p < q
  · rw [decide_eq_true (show ltM ⟨s, p⟩ ⟨s, q⟩ from Or.inr ⟨rfl, h2⟩)]
    go_enter Try.func29, Try.ntmps29
    go_wp2
    go_ret
    exact ⟨rfl, K.out⟩
  · rw [decide_eq_false (show ¬ ltM ⟨s, p⟩ ⟨s, q⟩ from fun h => h.elim (fun h => by dsimp only at h; omega) (fun h => h2 h.2))]
    go_enter Try.func29, Try.ntmps29
    go_wp2
    go_ret
    exact ⟨rfl, K.out⟩
theorem nan_any (x : Int) (w : World) : Calls Try.prog 44 #[.int .i64 x] w fun e w' => e = .returned (.bool false) ∧ w = w' := by
  have hd : (x != x) = false := by simp
  go_enter Try.func44, Try.ntmps44
  go_wp2
  go_ret
  exact ⟨rfl, rfl⟩
theorem cmp_any (x y : Int) (w : World) : Calls Try.prog 39 #[.int .i64 x, .int .i64 y] w fun e w' => e = .returned (.int .i64 (cmI x y)) ∧ w = w' := by
  have C := hide nan_any
  by_cases h1 : x < y
  · have E := hide (show cmI x y = -1 by unfold cmI; rw [if_pos h1])
    have hd : decide (x < y) = true := decide_eq_true h1
    go_enter Try.func39, Try.ntmps39
    go_wp2_with (go_at_call 44; refine (C.out _ _).mono ?_; rintro e w' ⟨rfl, rfl⟩)
    go_ret
    exact ⟨ret_int E.out.symm, rfl⟩
  · have hd : decide (x < y) = false := decide_eq_false h1
    by_cases h2 : y < x
    · have E := hide (show cmI x y = 1 by unfold cmI; rw [if_neg h1, if_pos h2])
      have hd2 : decide (y < x) = true := decide_eq_true h2
      go_enter Try.func39, Try.ntmps39
      go_wp2_with (go_at_call 44; refine (C.out _ _).mono ?_; rintro e w' ⟨rfl, rfl⟩)
      go_ret
      exact ⟨ret_int E.out.symm, rfl⟩
    · have E := hide (show cmI x y = 0 by unfold cmI; rw [if_neg h1, if_neg h2])
      have hd2 : decide (y < x) = false := decide_eq_false h2
      go_enter Try.func39, Try.ntmps39
      go_wp2_with (go_at_call 44; refine (C.out _ _).mono ?_; rintro e w' ⟨rfl, rfl⟩)
      go_ret
      exact ⟨ret_int E.out.symm, rfl⟩
end Go.Proofs.Ytioffnpnoohbiaa.Rm
