import Derived.Test.YtoogdggiemacjaaMem
namespace Go.Proofs.Ytoogdggiemacjaa.Cw
open Go Go.RowKit
set_option linter.unusedVariables false
set_option linter.unusedSimpArgs false
theorem count_any (n m : Int) (w : World) : Calls Try.prog 30 #[.int .i64 n, .int .i64 m] w fun e w' => e = .returned (.bool (decide (1 ≤ n ∧ n ≤ m))) ∧ w = w' := by
  by_cases h1 : 1 ≤ n
  · by_cases h2 : n ≤ m
    · rw [decide_eq_true (show 1 ≤ n ∧ n ≤ m from ⟨h1, h2⟩)]
      go_enter Try.func30, Try.ntmps30
      go_wp2
      go_ret
      exact ⟨rfl, rfl⟩
    · rw [decide_eq_false (show ¬ (1 ≤ n ∧ n ≤ m) from fun h => h2 h.2)]
      go_enter Try.func30, Try.ntmps30
      go_wp2
      go_ret
      exact ⟨rfl, rfl⟩
  · rw [decide_eq_false (show ¬ (1 ≤ n ∧ n ≤ m) from fun h => h1 h.1)]
    go_enter Try.func30, Try.ntmps30
    go_wp2
    go_ret
    exact ⟨rfl, rfl⟩
theorem free_any (n m : Int) (w : World) : Calls Try.prog 39 #[.agg #[.int .i64 n, .int .i64 m]] w fun e w' => e = .returned (.bool (n == 0)) ∧ Below w.heap.size w w' := by
  have K := hide (bal (brefl w) (.cells #[.int .i64 n, .int .i64 m] 53))
  have X := hide (Box.new w 53 #[.int .i64 n, .int .i64 m])
  go_enter Try.func39, Try.ntmps39
  go_wp2
  go_ret
  exact ⟨rfl, K.out⟩
theorem ret_p1 {fn : Func} {a : Act} {W : World} {g k : Nat} {o : Int} {v : Bool} {Q : Ending → World → Prop} (hr : fn.results = #[.cell k 64]) (h2 : a.tmps.getD k undef = .pointer (some ⟨g, 0, none⟩)) (hd : a.defers = [])
    (hE : Box W g 64 #[.int .i64 o, .bool v]) (hq : Q (.returned (.agg #[.int .i64 o, .bool v])) W) : bodyPost Try.prog fn Q .ret a W := by
  have c0 := hE.cell 0
  have c1 := hE.cell 1
  simp at c0 c1
  simp only [Array.getD_eq_getD_getElem?] at h2
  exact bodyPost_ret (v := .agg #[.int .i64 o, .bool v]) (by simp [results, hr, h2, go_sem, c0, c1]; try rfl) hd hq
theorem nothing_any (w : World) : Calls Try.prog 32 #[] w fun e w' => e = .returned (.agg #[.int .i64 (-1), .bool false]) ∧ Below w.heap.size w w' := by
  have K := hide (bal (brefl w) (.cells #[.int .i64 (-1), .bool false] 64))
  have X := hide (Box.new w 64 #[.int .i64 (-1), .bool false])
  go_enter Try.func32, Try.ntmps32
  go_wp2
  exact ret_p1 Try.results32 rfl rfl X.out ⟨rfl, K.out⟩
set_option maxRecDepth 100000 in
set_option maxHeartbeats 4000000 in
theorem sizes_any (M : Cow) (As Af : Option Addr) (cs cf : Nat) (w : World) (hB : Big M) : Calls Try.prog 42 #[.agg (cwA M As cs Af cf)] w fun e w' => e = .returned (.bool (decide (szG M))) ∧ Below w.heap.size w w' := by
  have K := hide (bal (brefl w) (.cells (cwA M As cs Af cf) 28))
  have X := hide (Box.new w 28 (cwA M As cs Af cf))
  have h1 := hB.sp
  have h2 := hB.fr
  have C1 := hide (fun w => count_any M.sz 512 w)
  have C2 := hide (fun w => count_any (M.sp.length : Int) 8 w)
  have C3 := hide (fun w => count_any (M.fr.length : Int) 256 w)
  have E := hide (show decide (szG M) = (decide (1 ≤ M.sz ∧ M.sz ≤ 512) && decide (1 ≤ (M.sp.length : Int) ∧ (M.sp.length : Int) ≤ 8) && decide (1 ≤ (M.fr.length : Int) ∧ (M.fr.length : Int) ≤ 256) && decide (0 ≤ M.cp) && decide (M.cp ≤ 1048576)) by
    have e1 : decide (1 ≤ (M.sp.length : Int) ∧ (M.sp.length : Int) ≤ 8) = decide (1 ≤ M.sp.length ∧ M.sp.length ≤ 8) := decide_eq_decide.2 (by omega)
    have e2 : decide (1 ≤ (M.fr.length : Int) ∧ (M.fr.length : Int) ≤ 256) = decide (1 ≤ M.fr.length ∧ M.fr.length ≤ 256) := decide_eq_decide.2 (by omega)
    rw [e1, e2]
    simp only [← Bool.decide_and]
    exact decide_eq_decide.2 (by unfold szG; omega))
  unfold cwA at K X ⊢
  generalize decide (1 ≤ M.sz ∧ M.sz ≤ 512) = a at *
  generalize decide (1 ≤ (M.sp.length : Int) ∧ (M.sp.length : Int) ≤ 8) = b at *
  generalize decide (1 ≤ (M.fr.length : Int) ∧ (M.fr.length : Int) ≤ 256) = c at *
  go_enter Try.func42, Try.ntmps42
  go_upto_region 1 with fail
  obtain ⟨g, hg⟩ : ∃ g, g = w.heap.size := ⟨_, rfl⟩
  rw [← hg] at X ⊢
  clear hg
  generalize w.alloc (.cells #[.int .i64 M.sz, .slice As M.sp.length cs, .slice Af M.fr.length cf, .int .i64 M.cp] 28) = w1 at *
  obtain ⟨x0, x1, x2, x3⟩ := box4 X.out
  go_wp2_with fail
  refine (C1.out _).mono ?_
  rintro e w2 ⟨rfl, rfl⟩
  cases a
  · go_wp2
    go_ret
    exact ⟨ret_bool (by rw [E.out]; simp), K.out⟩
  · go_wp2_with fail
    refine (C2.out _).mono ?_
    rintro e w2 ⟨rfl, rfl⟩
    cases b
    · go_wp2
      go_ret
      exact ⟨ret_bool (by rw [E.out]; simp), K.out⟩
    · go_wp2_with fail
      refine (C3.out _).mono ?_
      rintro e w2 ⟨rfl, rfl⟩
      cases c
      · go_wp2
        go_ret
        exact ⟨ret_bool (by rw [E.out]; simp), K.out⟩
      · by_cases h3 : 0 ≤ M.cp
        · by_cases h4 : M.cp ≤ 1048576
          · go_wp2
            go_ret
            exact ⟨ret_bool (by rw [E.out]; simp [h3, h4]), K.out⟩
          · go_wp2
            go_ret
            exact ⟨ret_bool (by rw [E.out, decide_eq_true (show 0 ≤ M.cp by omega)]; simp), K.out⟩
        · go_wp2
          go_ret
          exact ⟨ret_bool (by rw [E.out, decide_eq_false (show ¬ 0 ≤ M.cp by omega)]; simp), K.out⟩
end Go.Proofs.Ytoogdggiemacjaa.Cw
