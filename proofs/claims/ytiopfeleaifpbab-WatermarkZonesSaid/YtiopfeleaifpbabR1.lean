import Derived.Test.YtiopfeleaifpbabCk4
namespace Go.Proofs.Ytiopfeleaifpbab.Bd
open Go Go.RowKit
set_option linter.unusedVariables false
set_option maxHeartbeats 2000000 in
theorem rparams_any (p : Pm) (v : Nat → Value) (hp : Pr p) (w : World) : Calls Try.prog 41 #[.agg (znC p v)] w fun e w' => e = .returned (.bool (decide (par p))) ∧ Below w.heap.size w w' := by
  have X := hide (Box.new w 44 (znC p v))
  have K := hide (bal (brefl w) (.cells (znC p v) 44))
  obtain ⟨x0, x1, x2, x3, x4⟩ := box_zone X.out
  obtain ⟨b, hb⟩ : ∃ b, b = decide (par p) := ⟨_, rfl⟩
  rw [← hb]
  have HB := hide hb
  clear hb
  obtain ⟨a0, a1, a2, a3, a4⟩ := p
  obtain ⟨⟨h0, h0'⟩, ⟨h1, h1'⟩, ⟨h2, h2'⟩, ⟨h3, h3'⟩, ⟨h4, h4'⟩⟩ := hp
  simp only at *
  rcases (show a1 = 0 ∨ a1 = 1 ∨ (a1 ≠ 0 ∧ a1 ≠ 1) by omega) with hk | hk | ⟨hk, hk2⟩
  · subst hk
    go_enter Try.func41, Try.ntmps41
    go_upto_region 1 with fail
    generalize (w.alloc (.cells (znC ⟨a0, 0, a2, a3, a4⟩ v) 44)) = w2 at *
    go_wp2
    all_goals
      go_ret
      first
        | exact ⟨ret_bool (by rw [HB.out]; exact (decide_eq_true (show par ⟨a0, 0, a2, a3, a4⟩ by unfold par; simp only; omega)).symm), K.out⟩
        | exact ⟨ret_bool (by rw [HB.out]; exact (decide_eq_false (show ¬ par ⟨a0, 0, a2, a3, a4⟩ by unfold par; simp only; omega)).symm), K.out⟩
        | exact ⟨ret_bool (by rw [HB.out]; exact decide_eq_decide.2 (by unfold par; constructor <;> intro hh <;> first | (refine ⟨?_, ?_, ?_, ?_, ?_, ?_, ?_, ?_, ?_⟩ <;> first | omega | (simp only; omega) | simp) | (simp only at hh; omega))), K.out⟩
  · subst hk
    go_enter Try.func41, Try.ntmps41
    go_upto_region 1 with fail
    generalize (w.alloc (.cells (znC ⟨a0, 1, a2, a3, a4⟩ v) 44)) = w2 at *
    go_wp2
    all_goals
      go_ret
      first
        | exact ⟨ret_bool (by rw [HB.out]; exact (decide_eq_true (show par ⟨a0, 1, a2, a3, a4⟩ by unfold par; simp only; omega)).symm), K.out⟩
        | exact ⟨ret_bool (by rw [HB.out]; exact (decide_eq_false (show ¬ par ⟨a0, 1, a2, a3, a4⟩ by unfold par; simp only; omega)).symm), K.out⟩
        | exact ⟨ret_bool (by rw [HB.out]; exact decide_eq_decide.2 (by unfold par; constructor <;> intro hh <;> first | (refine ⟨?_, ?_, ?_, ?_, ?_, ?_, ?_, ?_, ?_⟩ <;> first | omega | (simp only; omega) | simp) | (simp only at hh; omega))), K.out⟩
  · have d1 : (a1 != 0) = true := by simpa using hk
    have d2 : (a1 != 1) = true := by simpa using hk2
    go_enter Try.func41, Try.ntmps41
    go_upto_region 1 with fail
    generalize (w.alloc (.cells (znC ⟨a0, a1, a2, a3, a4⟩ v) 44)) = w2 at *
    go_wp2
    all_goals
      go_ret
      first
        | exact ⟨ret_bool (by rw [HB.out]; exact (decide_eq_true (show par ⟨a0, a1, a2, a3, a4⟩ by unfold par; simp only; omega)).symm), K.out⟩
        | exact ⟨ret_bool (by rw [HB.out]; exact (decide_eq_false (show ¬ par ⟨a0, a1, a2, a3, a4⟩ by unfold par; simp only; omega)).symm), K.out⟩
        | exact ⟨ret_bool (by rw [HB.out]; exact decide_eq_decide.2 (by unfold par; constructor <;> intro hh <;> first | (refine ⟨?_, ?_, ?_, ?_, ?_, ?_, ?_, ?_, ?_⟩ <;> first | omega | (simp only; omega) | simp) | (simp only at hh; omega))), K.out⟩
theorem rblock_out (p : Pm) (v : Nat → Value) (f o : Int) (ho : ¬ (0 ≤ o ∧ o ≤ 4)) (w : World) : Calls Try.prog 44 #[.agg (znC p v), .int .i64 f, .int .i64 o] w fun e w' => e = .returned (.bool false) ∧ Below w.heap.size w w' := by
  have K := hide (bal (brefl w) (.cells (znC p v) 44))
  by_cases h : o < 0
  · have h1 : decide (o < 0) = true := decide_eq_true h
    go_enter Try.func44, Try.ntmps44
    go_upto_region 1 with fail
    generalize (w.alloc (.cells (znC p v) 44)) = w2 at *
    go_wp2
    go_ret
    exact ⟨rfl, K.out⟩
  · have h1 : decide (o < 0) = false := decide_eq_false h
    have h2 : decide (4 < o) = true := decide_eq_true (by omega)
    go_enter Try.func44, Try.ntmps44
    go_upto_region 1 with fail
    generalize (w.alloc (.cells (znC p v) 44)) = w2 at *
    go_wp2
    go_ret
    exact ⟨rfl, K.out⟩
set_option maxHeartbeats 4000000 in
theorem rblock_in (p : Pm) (v : Nat → Value) (f : Int) (k : Nat) (hk : k < 5) (hf : i64r f) (hp : par p) (w : World) : Calls Try.prog 44 #[.agg (znC p v), .int .i64 f, .int .i64 k] w fun e w' => e = .returned (.bool (decide (blk p k f))) ∧ Below w.heap.size w w' := by
  have X := hide (Box.new w 44 (znC p v))
  have K := hide (bal (brefl w) (.cells (znC p v) 44))
  obtain ⟨x0, x1, x2, x3, x4⟩ := box_zone X.out
  obtain ⟨b, hb⟩ : ∃ b, b = decide (blk p k f) := ⟨_, rfl⟩
  rw [← hb]
  have HB := hide hb
  clear hb
  obtain ⟨a0, a1, a2, a3, a4⟩ := p
  obtain ⟨h1, h2⟩ := hf
  unfold par at hp
  simp only at *
  rcases cases5 hk with rfl | rfl | rfl | rfl | rfl
  all_goals
    go_enter Try.func44, Try.ntmps44
    go_upto_region 1 with fail
    generalize (w.alloc (.cells (znC ⟨a0, a1, a2, a3, a4⟩ v) 44)) = w2 at *
    go_wp2
    all_goals
      go_ret
      first
        | exact ⟨ret_bool (by rw [HB.out]; exact (decide_eq_true (show blk ⟨a0, a1, a2, a3, a4⟩ _ f by unfold blk; simp only [bw]; omega)).symm), K.out⟩
        | exact ⟨ret_bool (by rw [HB.out]; exact (decide_eq_false (show ¬ blk ⟨a0, a1, a2, a3, a4⟩ _ f by unfold blk; simp only [bw]; omega)).symm), K.out⟩
        | exact ⟨ret_bool (by rw [HB.out]; exact decide_eq_decide.2 (by unfold blk; simp only [bw]; omega)), K.out⟩
end Go.Proofs.Ytiopfeleaifpbab.Bd
