import Derived.Test.YtiopfeleaifpbabWMath
import Derived.Deep.Cut
import Derived.Deep.DeepCutAuto
namespace Go.Proofs.Ytiopfeleaifpbab.Bd
open Go Go.RowKit
set_option linter.unusedVariables false
theorem chk_2 {a b c : Int} (h : ¬ (inC a ∧ inC b ∧ inC c)) : chkM ⟨a, b, c⟩ = 2 := if_neg h
theorem chk_10 {a b c : Int} (h : inC a ∧ inC b ∧ inC c) (h2 : ¬ (a ≤ b ∧ b ≤ c)) : chkM ⟨a, b, c⟩ = 10 := by
  show (if inC a ∧ inC b ∧ inC c then (if a ≤ b ∧ b ≤ c then (0 : Int) else 10) else 2) = 10
  rw [if_pos h, if_neg h2]
theorem chk_0 {a b c : Int} (h : inC a ∧ inC b ∧ inC c) (h2 : a ≤ b ∧ b ≤ c) : chkM ⟨a, b, c⟩ = 0 := by
  show (if inC a ∧ inC b ∧ inC c then (if a ≤ b ∧ b ≤ c then (0 : Int) else 10) else 2) = 0
  rw [if_pos h, if_pos h2]
theorem min_any (a b : Int) (w : World) : Calls Try.prog 27 #[.int .i64 a, .int .i64 b] w fun e w' => e = .returned (.int .i64 (min a b)) ∧ w = w' := by
  go_enter Try.func27, Try.ntmps27
  go_wp2
  all_goals
    go_ret
    exact ⟨ret_int (by omega), rfl⟩
theorem isc_any (n : Int) (w : World) : Calls Try.prog 26 #[.int .i64 n] w fun e w' => e = .returned (.bool (decide (inC n))) ∧ w = w' := by
  by_cases h1 : 0 ≤ n
  · by_cases h2 : n ≤ 4096
    · rw [decide_eq_true (show inC n from ⟨h1, h2⟩)]
      go_enter Try.func26, Try.ntmps26
      go_wp2
      go_ret
      exact ⟨rfl, rfl⟩
    · rw [decide_eq_false (show ¬ inC n from fun h => h2 h.2)]
      go_enter Try.func26, Try.ntmps26
      go_wp2
      go_ret
      exact ⟨rfl, rfl⟩
  · rw [decide_eq_false (show ¬ inC n from fun h => h1 h.1)]
    go_enter Try.func26, Try.ntmps26
    go_wp2
    go_ret
    exact ⟨rfl, rfl⟩
theorem isr_any (n : Int) (w : World) : Calls Try.prog 28 #[.int .i64 n] w fun e w' => e = .returned (.bool (decide (inC n))) ∧ w = w' := by
  by_cases h1 : 0 ≤ n
  · by_cases h2 : n ≤ 4096
    · rw [decide_eq_true (show inC n from ⟨h1, h2⟩)]
      go_enter Try.func28, Try.ntmps28
      go_wp2
      go_ret
      exact ⟨rfl, rfl⟩
    · rw [decide_eq_false (show ¬ inC n from fun h => h2 h.2)]
      go_enter Try.func28, Try.ntmps28
      go_wp2
      go_ret
      exact ⟨rfl, rfl⟩
  · rw [decide_eq_false (show ¬ inC n from fun h => h1 h.1)]
    go_enter Try.func28, Try.ntmps28
    go_wp2
    go_ret
    exact ⟨rfl, rfl⟩
set_option maxHeartbeats 2000000 in
theorem chk_any (m : Mk) (w : World) : Calls Try.prog 13 #[.agg #[.int .i64 m.lo, .int .i64 m.md, .int .i64 m.hi]] w fun e w' => e = .returned (.int .i64 (chkM m)) ∧ Below w.heap.size w w' := by
  obtain ⟨a, b, c⟩ := m
  show Calls Try.prog 13 #[.agg #[.int .i64 a, .int .i64 b, .int .i64 c]] w _
  obtain ⟨g, hg⟩ : ∃ g, g = w.heap.size := ⟨_, rfl⟩
  obtain ⟨W0, hW0⟩ : ∃ W0, W0 = w.alloc (.cells #[.int .i64 a, .int .i64 b, .int .i64 c] 23) := ⟨_, rfl⟩
  have X := hide (show Box W0 g 23 #[.int .i64 a, .int .i64 b, .int .i64 c] by rw [hW0, hg]; exact Box.new w 23 _)
  have K := hide (show Below w.heap.size w W0 by rw [hW0]; exact bal (brefl w) _)
  have IC := hide (fun n w => isc_any n w)
  have x0 : W0.cell? ⟨g, 0, none⟩ = some (.int .i64 a) := X.out.cell 0
  have x1 : W0.cell? ⟨g, 1, none⟩ = some (.int .i64 b) := X.out.cell 1
  have x2 : W0.cell? ⟨g, 2, none⟩ = some (.int .i64 c) := X.out.cell 2
  by_cases ha : inC a
  · have da := decide_eq_true ha
    by_cases hb : inC b
    · have db := decide_eq_true hb
      by_cases hc : inC c
      · have dc := decide_eq_true hc
        have HA := hide (And.intro ha (And.intro hb hc))
        clear ha hb hc
        by_cases h1 : a ≤ b
        · by_cases h2 : b ≤ c
          · rw [chk_0 HA.out ⟨h1, h2⟩]
            go_enter Try.func13, Try.ntmps13
            go_upto_region 1 with fail
            rw [← hW0, ← hg]
            clear hW0 hg
            go_wp2_with (go_at_call 26; refine (IC.out _ _).mono ?_; rintro e w' ⟨rfl, rfl⟩)
            go_ret
            exact ⟨rfl, K.out⟩
          · rw [chk_10 HA.out (fun h => h2 h.2)]
            go_enter Try.func13, Try.ntmps13
            go_upto_region 1 with fail
            rw [← hW0, ← hg]
            clear hW0 hg
            go_wp2_with (go_at_call 26; refine (IC.out _ _).mono ?_; rintro e w' ⟨rfl, rfl⟩)
            go_ret
            exact ⟨rfl, K.out⟩
        · rw [chk_10 HA.out (fun h => h1 h.1)]
          go_enter Try.func13, Try.ntmps13
          go_upto_region 1 with fail
          rw [← hW0, ← hg]
          clear hW0 hg
          go_wp2_with (go_at_call 26; refine (IC.out _ _).mono ?_; rintro e w' ⟨rfl, rfl⟩)
          go_ret
          exact ⟨rfl, K.out⟩
      · have dc := decide_eq_false hc
        rw [chk_2 (fun h => hc h.2.2)]
        clear ha hb hc
        go_enter Try.func13, Try.ntmps13
        go_upto_region 1 with fail
        rw [← hW0, ← hg]
        clear hW0 hg
        go_wp2_with (go_at_call 26; refine (IC.out _ _).mono ?_; rintro e w' ⟨rfl, rfl⟩)
        go_ret
        exact ⟨rfl, K.out⟩
    · have db := decide_eq_false hb
      rw [chk_2 (fun h => hb h.2.1)]
      clear ha hb
      go_enter Try.func13, Try.ntmps13
      go_upto_region 1 with fail
      rw [← hW0, ← hg]
      clear hW0 hg
      go_wp2_with (go_at_call 26; refine (IC.out _ _).mono ?_; rintro e w' ⟨rfl, rfl⟩)
      go_ret
      exact ⟨rfl, K.out⟩
  · have da := decide_eq_false ha
    rw [chk_2 (fun h => ha h.1)]
    clear ha
    go_enter Try.func13, Try.ntmps13
    go_upto_region 1 with fail
    rw [← hW0, ← hg]
    clear hW0 hg
    go_wp2_with (go_at_call 26; refine (IC.out _ _).mono ?_; rintro e w' ⟨rfl, rfl⟩)
    go_ret
    exact ⟨rfl, K.out⟩
set_option maxHeartbeats 2000000 in
theorem rchk_any (m : Mk) (w : World) : Calls Try.prog 14 #[.agg #[.int .i64 m.lo, .int .i64 m.md, .int .i64 m.hi]] w fun e w' => e = .returned (.int .i64 (chkM m)) ∧ Below w.heap.size w w' := by
  obtain ⟨a, b, c⟩ := m
  show Calls Try.prog 14 #[.agg #[.int .i64 a, .int .i64 b, .int .i64 c]] w _
  obtain ⟨g, hg⟩ : ∃ g, g = w.heap.size := ⟨_, rfl⟩
  obtain ⟨W0, hW0⟩ : ∃ W0, W0 = w.alloc (.cells #[.int .i64 a, .int .i64 b, .int .i64 c] 23) := ⟨_, rfl⟩
  have X := hide (show Box W0 g 23 #[.int .i64 a, .int .i64 b, .int .i64 c] by rw [hW0, hg]; exact Box.new w 23 _)
  have K := hide (show Below w.heap.size w W0 by rw [hW0]; exact bal (brefl w) _)
  have IC := hide (fun n w => isr_any n w)
  have x0 : W0.cell? ⟨g, 0, none⟩ = some (.int .i64 a) := X.out.cell 0
  have x1 : W0.cell? ⟨g, 1, none⟩ = some (.int .i64 b) := X.out.cell 1
  have x2 : W0.cell? ⟨g, 2, none⟩ = some (.int .i64 c) := X.out.cell 2
  by_cases ha : inC a
  · have da := decide_eq_true ha
    by_cases hb : inC b
    · have db := decide_eq_true hb
      by_cases hc : inC c
      · have dc := decide_eq_true hc
        have HA := hide (And.intro ha (And.intro hb hc))
        clear ha hb hc
        by_cases h1 : a ≤ b
        · by_cases h2 : b ≤ c
          · rw [chk_0 HA.out ⟨h1, h2⟩]
            go_enter Try.func14, Try.ntmps14
            go_upto_region 1 with fail
            rw [← hW0, ← hg]
            clear hW0 hg
            go_wp2_with (go_at_call 28; refine (IC.out _ _).mono ?_; rintro e w' ⟨rfl, rfl⟩)
            go_ret
            exact ⟨rfl, K.out⟩
          · rw [chk_10 HA.out (fun h => h2 h.2)]
            go_enter Try.func14, Try.ntmps14
            go_upto_region 1 with fail
            rw [← hW0, ← hg]
            clear hW0 hg
            go_wp2_with (go_at_call 28; refine (IC.out _ _).mono ?_; rintro e w' ⟨rfl, rfl⟩)
            go_ret
            exact ⟨rfl, K.out⟩
        · rw [chk_10 HA.out (fun h => h1 h.1)]
          go_enter Try.func14, Try.ntmps14
          go_upto_region 1 with fail
          rw [← hW0, ← hg]
          clear hW0 hg
          go_wp2_with (go_at_call 28; refine (IC.out _ _).mono ?_; rintro e w' ⟨rfl, rfl⟩)
          go_ret
          exact ⟨rfl, K.out⟩
      · have dc := decide_eq_false hc
        rw [chk_2 (fun h => hc h.2.2)]
        clear ha hb hc
        go_enter Try.func14, Try.ntmps14
        go_upto_region 1 with fail
        rw [← hW0, ← hg]
        clear hW0 hg
        go_wp2_with (go_at_call 28; refine (IC.out _ _).mono ?_; rintro e w' ⟨rfl, rfl⟩)
        go_ret
        exact ⟨rfl, K.out⟩
    · have db := decide_eq_false hb
      rw [chk_2 (fun h => hb h.2.1)]
      clear ha hb
      go_enter Try.func14, Try.ntmps14
      go_upto_region 1 with fail
      rw [← hW0, ← hg]
      clear hW0 hg
      go_wp2_with (go_at_call 28; refine (IC.out _ _).mono ?_; rintro e w' ⟨rfl, rfl⟩)
      go_ret
      exact ⟨rfl, K.out⟩
  · have da := decide_eq_false ha
    rw [chk_2 (fun h => ha h.1)]
    clear ha
    go_enter Try.func14, Try.ntmps14
    go_upto_region 1 with fail
    rw [← hW0, ← hg]
    clear hW0 hg
    go_wp2_with (go_at_call 28; refine (IC.out _ _).mono ?_; rintro e w' ⟨rfl, rfl⟩)
    go_ret
    exact ⟨rfl, K.out⟩
end Go.Proofs.Ytiopfeleaifpbab.Bd
