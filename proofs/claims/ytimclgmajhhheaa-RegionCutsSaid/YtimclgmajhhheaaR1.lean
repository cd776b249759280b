import Derived.Test.YtimclgmajhhheaaT6
namespace Go.Proofs.Ytimclgmajhhheaa.Rg
open Go Go.RowKit Ac
set_option linter.unusedVariables false
set_option linter.unusedSimpArgs false
theorem flag1 (st pg pr fl fi ix : Int) (w : World) (h0 : 0 ≤ fl) (h1 : fl ≤ 15) : Calls Try.prog 91 #[.agg #[.int .i64 st, .int .i64 pg, .int .i64 pr, .int .i64 fl, .int .i64 fi, .int .i64 ix], .int .i64 1] w fun e w' => e = .returned (.bool (decide (fl / 1 % 2 = 1))) ∧ Below w.heap.size w w' := by
  have K := hide (bal (brefl w) (.cells #[.int .i64 st, .int .i64 pg, .int .i64 pr, .int .i64 fl, .int .i64 fi, .int .i64 ix] 58))
  go_enter Try.func91, Try.ntmps91
  go_wp2
  go_ret
  exact ⟨ret_bool (by rw [Bool.eq_iff_iff]; simp), K.out⟩
theorem flag2 (st pg pr fl fi ix : Int) (w : World) (h0 : 0 ≤ fl) (h1 : fl ≤ 15) : Calls Try.prog 91 #[.agg #[.int .i64 st, .int .i64 pg, .int .i64 pr, .int .i64 fl, .int .i64 fi, .int .i64 ix], .int .i64 2] w fun e w' => e = .returned (.bool (decide (fl / 2 % 2 = 1))) ∧ Below w.heap.size w w' := by
  have K := hide (bal (brefl w) (.cells #[.int .i64 st, .int .i64 pg, .int .i64 pr, .int .i64 fl, .int .i64 fi, .int .i64 ix] 58))
  go_enter Try.func91, Try.ntmps91
  go_wp2
  go_ret
  exact ⟨ret_bool (by rw [Bool.eq_iff_iff]; simp), K.out⟩
theorem flag8 (st pg pr fl fi ix : Int) (w : World) (h0 : 0 ≤ fl) (h1 : fl ≤ 15) : Calls Try.prog 91 #[.agg #[.int .i64 st, .int .i64 pg, .int .i64 pr, .int .i64 fl, .int .i64 fi, .int .i64 ix], .int .i64 8] w fun e w' => e = .returned (.bool (decide (fl / 8 % 2 = 1))) ∧ Below w.heap.size w w' := by
  have K := hide (bal (brefl w) (.cells #[.int .i64 st, .int .i64 pg, .int .i64 pr, .int .i64 fl, .int .i64 fi, .int .i64 ix] 58))
  go_enter Try.func91, Try.ntmps91
  go_wp2
  go_ret
  exact ⟨ret_bool (by rw [Bool.eq_iff_iff]; simp), K.out⟩
set_option maxHeartbeats 8000000 in
theorem rcheck_1 (st pg fl fi ix : Int) (w : World) (hp : pg ≤ 9223372036854775807) (hpg : ¬ pg < 1) : Calls Try.prog 39 #[.agg #[.int .i64 st, .int .i64 pg, .int .i64 1, .int .i64 fl, .int .i64 fi, .int .i64 ix]] w fun e w' => e = .returned (.int .i64 (ckE ⟨st, pg, 1, fl, fi, ix⟩)) ∧ Below w.heap.size w w' := by
  by_cases h19 : fl < 0
  · have E : ckE ⟨st, pg, 1, fl, fi, ix⟩ = 1 := ckE_1 (by unfold mean; dsimp only; omega)
    rw [E]
    clear E
    have K := hide (bal (brefl w) (.cells #[.int .i64 st, .int .i64 pg, .int .i64 1, .int .i64 fl, .int .i64 fi, .int .i64 ix] 58))
    have X := hide (RB.new w st pg 1 fl fi ix)
    go_enter Try.func39, Try.ntmps39
    go_wp2
    go_ret
    exact ⟨rfl, K.out⟩
  · by_cases h18 : 15 < fl
    · have E : ckE ⟨st, pg, 1, fl, fi, ix⟩ = 1 := ckE_1 (by unfold mean; dsimp only; omega)
      rw [E]
      clear E
      have K := hide (bal (brefl w) (.cells #[.int .i64 st, .int .i64 pg, .int .i64 1, .int .i64 fl, .int .i64 fi, .int .i64 ix] 58))
      have X := hide (RB.new w st pg 1 fl fi ix)
      go_enter Try.func39, Try.ntmps39
      go_wp2
      go_ret
      exact ⟨rfl, K.out⟩
    · by_cases h17 : fi < -1
      · have E : ckE ⟨st, pg, 1, fl, fi, ix⟩ = 1 := ckE_1 (by unfold mean; dsimp only; omega)
        rw [E]
        clear E
        have K := hide (bal (brefl w) (.cells #[.int .i64 st, .int .i64 pg, .int .i64 1, .int .i64 fl, .int .i64 fi, .int .i64 ix] 58))
        have X := hide (RB.new w st pg 1 fl fi ix)
        go_enter Try.func39, Try.ntmps39
        go_wp2
        go_ret
        exact ⟨rfl, K.out⟩
      · by_cases h16 : 4 ≤ fi
        · have E : ckE ⟨st, pg, 1, fl, fi, ix⟩ = 1 := ckE_1 (by unfold mean; dsimp only; omega)
          rw [E]
          clear E
          have K := hide (bal (brefl w) (.cells #[.int .i64 st, .int .i64 pg, .int .i64 1, .int .i64 fl, .int .i64 fi, .int .i64 ix] 58))
          have X := hide (RB.new w st pg 1 fl fi ix)
          go_enter Try.func39, Try.ntmps39
          go_wp2
          go_ret
          exact ⟨rfl, K.out⟩
        · by_cases h1 : fi < 0
          · obtain rfl : fi = -1 := by omega
            by_cases h7 : fl / 1 % 2 = 1
            · have E : ckE ⟨st, pg, 1, fl, (-1), ix⟩ = 1 := ckE_1 (by unfold mean; dsimp only; omega)
              rw [E]
              clear E
              have F1 := hide (fun w => flag1 st pg 1 fl (-1) ix w (by omega) (by omega))
              rw [decide_eq_true (show fl / 1 % 2 = 1 by omega)] at F1
              have K := hide (bal (brefl w) (.cells #[.int .i64 st, .int .i64 pg, .int .i64 1, .int .i64 fl, .int .i64 (-1), .int .i64 ix] 58))
              have X := hide (RB.new w st pg 1 fl (-1) ix)
              go_enter Try.func39, Try.ntmps39
              go_wp2_with fail
              refine (F1.out _).mono ?_
              rintro e w2 ⟨rfl, hb⟩
              replace K := hide (btrans K.out hb)
              replace X := hide (X.out.below hb)
              clear hb
              try clear x0 x1 x2 x3 x4 x5
              obtain ⟨x0, x1, x2, x3, x4, x5⟩ := X.out.cells
              go_wp2
              go_ret
              exact ⟨rfl, K.out⟩
            · by_cases h6 : st < 0
              · have E : ckE ⟨st, pg, 1, fl, (-1), ix⟩ = 2 := ckE_2 (by unfold mean; dsimp only; omega) (by unfold rngd; dsimp only; omega)
                rw [E]
                clear E
                have F1 := hide (fun w => flag1 st pg 1 fl (-1) ix w (by omega) (by omega))
                rw [decide_eq_false (show ¬ fl / 1 % 2 = 1 by omega)] at F1
                have K := hide (bal (brefl w) (.cells #[.int .i64 st, .int .i64 pg, .int .i64 1, .int .i64 fl, .int .i64 (-1), .int .i64 ix] 58))
                have X := hide (RB.new w st pg 1 fl (-1) ix)
                go_enter Try.func39, Try.ntmps39
                go_wp2_with fail
                refine (F1.out _).mono ?_
                rintro e w2 ⟨rfl, hb⟩
                replace K := hide (btrans K.out hb)
                replace X := hide (X.out.below hb)
                clear hb
                try clear x0 x1 x2 x3 x4 x5
                obtain ⟨x0, x1, x2, x3, x4, x5⟩ := X.out.cells
                go_wp2
                go_ret
                exact ⟨rfl, K.out⟩
              · by_cases h5 : 512 < pg
                · have E : ckE ⟨st, pg, 1, fl, (-1), ix⟩ = 2 := ckE_2 (by unfold mean; dsimp only; omega) (by unfold rngd; dsimp only; omega)
                  rw [E]
                  clear E
                  have F1 := hide (fun w => flag1 st pg 1 fl (-1) ix w (by omega) (by omega))
                  rw [decide_eq_false (show ¬ fl / 1 % 2 = 1 by omega)] at F1
                  have K := hide (bal (brefl w) (.cells #[.int .i64 st, .int .i64 pg, .int .i64 1, .int .i64 fl, .int .i64 (-1), .int .i64 ix] 58))
                  have X := hide (RB.new w st pg 1 fl (-1) ix)
                  go_enter Try.func39, Try.ntmps39
                  go_wp2_with fail
                  refine (F1.out _).mono ?_
                  rintro e w2 ⟨rfl, hb⟩
                  replace K := hide (btrans K.out hb)
                  replace X := hide (X.out.below hb)
                  clear hb
                  try clear x0 x1 x2 x3 x4 x5
                  obtain ⟨x0, x1, x2, x3, x4, x5⟩ := X.out.cells
                  go_wp2
                  go_ret
                  exact ⟨rfl, K.out⟩
                · by_cases h4 : 512 - pg < st
                  · have E : ckE ⟨st, pg, 1, fl, (-1), ix⟩ = 2 := ckE_2 (by unfold mean; dsimp only; omega) (by unfold rngd; dsimp only; omega)
                    rw [E]
                    clear E
                    have F1 := hide (fun w => flag1 st pg 1 fl (-1) ix w (by omega) (by omega))
                    rw [decide_eq_false (show ¬ fl / 1 % 2 = 1 by omega)] at F1
                    have K := hide (bal (brefl w) (.cells #[.int .i64 st, .int .i64 pg, .int .i64 1, .int .i64 fl, .int .i64 (-1), .int .i64 ix] 58))
                    have X := hide (RB.new w st pg 1 fl (-1) ix)
                    go_enter Try.func39, Try.ntmps39
                    go_wp2_with fail
                    refine (F1.out _).mono ?_
                    rintro e w2 ⟨rfl, hb⟩
                    replace K := hide (btrans K.out hb)
                    replace X := hide (X.out.below hb)
                    clear hb
                    try clear x0 x1 x2 x3 x4 x5
                    obtain ⟨x0, x1, x2, x3, x4, x5⟩ := X.out.cells
                    go_wp2
                    go_ret
                    exact ⟨rfl, K.out⟩
                  · by_cases h3 : ix < 0
                    · have E : ckE ⟨st, pg, 1, fl, (-1), ix⟩ = 2 := ckE_2 (by unfold mean; dsimp only; omega) (by unfold rngd; dsimp only; omega)
                      rw [E]
                      clear E
                      have F1 := hide (fun w => flag1 st pg 1 fl (-1) ix w (by omega) (by omega))
                      rw [decide_eq_false (show ¬ fl / 1 % 2 = 1 by omega)] at F1
                      have K := hide (bal (brefl w) (.cells #[.int .i64 st, .int .i64 pg, .int .i64 1, .int .i64 fl, .int .i64 (-1), .int .i64 ix] 58))
                      have X := hide (RB.new w st pg 1 fl (-1) ix)
                      go_enter Try.func39, Try.ntmps39
                      go_wp2_with fail
                      refine (F1.out _).mono ?_
                      rintro e w2 ⟨rfl, hb⟩
                      replace K := hide (btrans K.out hb)
                      replace X := hide (X.out.below hb)
                      clear hb
                      try clear x0 x1 x2 x3 x4 x5
                      obtain ⟨x0, x1, x2, x3, x4, x5⟩ := X.out.cells
                      go_wp2
                      go_ret
                      exact ⟨rfl, K.out⟩
                    · by_cases h2 : 0 < ix
                      · have E : ckE ⟨st, pg, 1, fl, (-1), ix⟩ = 2 := ckE_2 (by unfold mean; dsimp only; omega) (by unfold rngd; dsimp only; omega)
                        rw [E]
                        clear E
                        have F1 := hide (fun w => flag1 st pg 1 fl (-1) ix w (by omega) (by omega))
                        rw [decide_eq_false (show ¬ fl / 1 % 2 = 1 by omega)] at F1
                        have K := hide (bal (brefl w) (.cells #[.int .i64 st, .int .i64 pg, .int .i64 1, .int .i64 fl, .int .i64 (-1), .int .i64 ix] 58))
                        have X := hide (RB.new w st pg 1 fl (-1) ix)
                        go_enter Try.func39, Try.ntmps39
                        go_wp2_with fail
                        refine (F1.out _).mono ?_
                        rintro e w2 ⟨rfl, hb⟩
                        replace K := hide (btrans K.out hb)
                        replace X := hide (X.out.below hb)
                        clear hb
                        try clear x0 x1 x2 x3 x4 x5
                        obtain ⟨x0, x1, x2, x3, x4, x5⟩ := X.out.cells
                        go_wp2
                        go_ret
                        exact ⟨rfl, K.out⟩
                      · have E : ckE ⟨st, pg, 1, fl, (-1), ix⟩ = 0 := ckE_0 (by unfold mean; dsimp only; omega) (by unfold rngd; dsimp only; omega)
                        rw [E]
                        clear E
                        have F1 := hide (fun w => flag1 st pg 1 fl (-1) ix w (by omega) (by omega))
                        rw [decide_eq_false (show ¬ fl / 1 % 2 = 1 by omega)] at F1
                        have K := hide (bal (brefl w) (.cells #[.int .i64 st, .int .i64 pg, .int .i64 1, .int .i64 fl, .int .i64 (-1), .int .i64 ix] 58))
                        have X := hide (RB.new w st pg 1 fl (-1) ix)
                        go_enter Try.func39, Try.ntmps39
                        go_wp2_with fail
                        refine (F1.out _).mono ?_
                        rintro e w2 ⟨rfl, hb⟩
                        replace K := hide (btrans K.out hb)
                        replace X := hide (X.out.below hb)
                        clear hb
                        try clear x0 x1 x2 x3 x4 x5
                        obtain ⟨x0, x1, x2, x3, x4, x5⟩ := X.out.cells
                        go_wp2
                        go_ret
                        exact ⟨rfl, K.out⟩
          · by_cases h15 : fl / 2 % 2 = 1
            · have E : ckE ⟨st, pg, 1, fl, fi, ix⟩ = 1 := ckE_1 (by unfold mean; dsimp only; omega)
              rw [E]
              clear E
              have F2 := hide (fun w => flag2 st pg 1 fl fi ix w (by omega) (by omega))
              rw [decide_eq_true (show fl / 2 % 2 = 1 by omega)] at F2
              have K := hide (bal (brefl w) (.cells #[.int .i64 st, .int .i64 pg, .int .i64 1, .int .i64 fl, .int .i64 fi, .int .i64 ix] 58))
              have X := hide (RB.new w st pg 1 fl fi ix)
              go_enter Try.func39, Try.ntmps39
              go_wp2_with fail
              refine (F2.out _).mono ?_
              rintro e w2 ⟨rfl, hb⟩
              replace K := hide (btrans K.out hb)
              replace X := hide (X.out.below hb)
              clear hb
              try clear x0 x1 x2 x3 x4 x5
              obtain ⟨x0, x1, x2, x3, x4, x5⟩ := X.out.cells
              go_wp2
              go_ret
              exact ⟨rfl, K.out⟩
            · by_cases h14 : fl / 8 % 2 = 1
              · have E : ckE ⟨st, pg, 1, fl, fi, ix⟩ = 1 := ckE_1 (by unfold mean; dsimp only; omega)
                rw [E]
                clear E
                have F2 := hide (fun w => flag2 st pg 1 fl fi ix w (by omega) (by omega))
                rw [decide_eq_false (show ¬ fl / 2 % 2 = 1 by omega)] at F2
                have F8 := hide (fun w => flag8 st pg 1 fl fi ix w (by omega) (by omega))
                rw [decide_eq_true (show fl / 8 % 2 = 1 by omega)] at F8
                have K := hide (bal (brefl w) (.cells #[.int .i64 st, .int .i64 pg, .int .i64 1, .int .i64 fl, .int .i64 fi, .int .i64 ix] 58))
                have X := hide (RB.new w st pg 1 fl fi ix)
                go_enter Try.func39, Try.ntmps39
                go_wp2_with fail
                refine (F2.out _).mono ?_
                rintro e w2 ⟨rfl, hb⟩
                replace K := hide (btrans K.out hb)
                replace X := hide (X.out.below hb)
                clear hb
                try clear x0 x1 x2 x3 x4 x5
                obtain ⟨x0, x1, x2, x3, x4, x5⟩ := X.out.cells
                go_wp2_with fail
                refine (F8.out _).mono ?_
                rintro e w3 ⟨rfl, hb⟩
                replace K := hide (btrans K.out hb)
                replace X := hide (X.out.below hb)
                clear hb
                try clear x0 x1 x2 x3 x4 x5
                obtain ⟨x0, x1, x2, x3, x4, x5⟩ := X.out.cells
                go_wp2
                go_ret
                exact ⟨rfl, K.out⟩
              · by_cases h13 : st < 0
                · have E : ckE ⟨st, pg, 1, fl, fi, ix⟩ = 2 := ckE_2 (by unfold mean; dsimp only; omega) (by unfold rngd; dsimp only; omega)
                  rw [E]
                  clear E
                  have F2 := hide (fun w => flag2 st pg 1 fl fi ix w (by omega) (by omega))
                  rw [decide_eq_false (show ¬ fl / 2 % 2 = 1 by omega)] at F2
                  have F8 := hide (fun w => flag8 st pg 1 fl fi ix w (by omega) (by omega))
                  rw [decide_eq_false (show ¬ fl / 8 % 2 = 1 by omega)] at F8
                  have K := hide (bal (brefl w) (.cells #[.int .i64 st, .int .i64 pg, .int .i64 1, .int .i64 fl, .int .i64 fi, .int .i64 ix] 58))
                  have X := hide (RB.new w st pg 1 fl fi ix)
                  go_enter Try.func39, Try.ntmps39
                  go_wp2_with fail
                  refine (F2.out _).mono ?_
                  rintro e w2 ⟨rfl, hb⟩
                  replace K := hide (btrans K.out hb)
                  replace X := hide (X.out.below hb)
                  clear hb
                  try clear x0 x1 x2 x3 x4 x5
                  obtain ⟨x0, x1, x2, x3, x4, x5⟩ := X.out.cells
                  go_wp2_with fail
                  refine (F8.out _).mono ?_
                  rintro e w3 ⟨rfl, hb⟩
                  replace K := hide (btrans K.out hb)
                  replace X := hide (X.out.below hb)
                  clear hb
                  try clear x0 x1 x2 x3 x4 x5
                  obtain ⟨x0, x1, x2, x3, x4, x5⟩ := X.out.cells
                  go_wp2
                  go_ret
                  exact ⟨rfl, K.out⟩
                · by_cases h12 : 512 < pg
                  · have E : ckE ⟨st, pg, 1, fl, fi, ix⟩ = 2 := ckE_2 (by unfold mean; dsimp only; omega) (by unfold rngd; dsimp only; omega)
                    rw [E]
                    clear E
                    have F2 := hide (fun w => flag2 st pg 1 fl fi ix w (by omega) (by omega))
                    rw [decide_eq_false (show ¬ fl / 2 % 2 = 1 by omega)] at F2
                    have F8 := hide (fun w => flag8 st pg 1 fl fi ix w (by omega) (by omega))
                    rw [decide_eq_false (show ¬ fl / 8 % 2 = 1 by omega)] at F8
                    have K := hide (bal (brefl w) (.cells #[.int .i64 st, .int .i64 pg, .int .i64 1, .int .i64 fl, .int .i64 fi, .int .i64 ix] 58))
                    have X := hide (RB.new w st pg 1 fl fi ix)
                    go_enter Try.func39, Try.ntmps39
                    go_wp2_with fail
                    refine (F2.out _).mono ?_
                    rintro e w2 ⟨rfl, hb⟩
                    replace K := hide (btrans K.out hb)
                    replace X := hide (X.out.below hb)
                    clear hb
                    try clear x0 x1 x2 x3 x4 x5
                    obtain ⟨x0, x1, x2, x3, x4, x5⟩ := X.out.cells
                    go_wp2_with fail
                    refine (F8.out _).mono ?_
                    rintro e w3 ⟨rfl, hb⟩
                    replace K := hide (btrans K.out hb)
                    replace X := hide (X.out.below hb)
                    clear hb
                    try clear x0 x1 x2 x3 x4 x5
                    obtain ⟨x0, x1, x2, x3, x4, x5⟩ := X.out.cells
                    go_wp2
                    go_ret
                    exact ⟨rfl, K.out⟩
                  · by_cases h11 : 512 - pg < st
                    · have E : ckE ⟨st, pg, 1, fl, fi, ix⟩ = 2 := ckE_2 (by unfold mean; dsimp only; omega) (by unfold rngd; dsimp only; omega)
                      rw [E]
                      clear E
                      have F2 := hide (fun w => flag2 st pg 1 fl fi ix w (by omega) (by omega))
                      rw [decide_eq_false (show ¬ fl / 2 % 2 = 1 by omega)] at F2
                      have F8 := hide (fun w => flag8 st pg 1 fl fi ix w (by omega) (by omega))
                      rw [decide_eq_false (show ¬ fl / 8 % 2 = 1 by omega)] at F8
                      have K := hide (bal (brefl w) (.cells #[.int .i64 st, .int .i64 pg, .int .i64 1, .int .i64 fl, .int .i64 fi, .int .i64 ix] 58))
                      have X := hide (RB.new w st pg 1 fl fi ix)
                      go_enter Try.func39, Try.ntmps39
                      go_wp2_with fail
                      refine (F2.out _).mono ?_
                      rintro e w2 ⟨rfl, hb⟩
                      replace K := hide (btrans K.out hb)
                      replace X := hide (X.out.below hb)
                      clear hb
                      try clear x0 x1 x2 x3 x4 x5
                      obtain ⟨x0, x1, x2, x3, x4, x5⟩ := X.out.cells
                      go_wp2_with fail
                      refine (F8.out _).mono ?_
                      rintro e w3 ⟨rfl, hb⟩
                      replace K := hide (btrans K.out hb)
                      replace X := hide (X.out.below hb)
                      clear hb
                      try clear x0 x1 x2 x3 x4 x5
                      obtain ⟨x0, x1, x2, x3, x4, x5⟩ := X.out.cells
                      go_wp2
                      go_ret
                      exact ⟨rfl, K.out⟩
                    · by_cases h10 : ix < 0
                      · have E : ckE ⟨st, pg, 1, fl, fi, ix⟩ = 2 := ckE_2 (by unfold mean; dsimp only; omega) (by unfold rngd; dsimp only; omega)
                        rw [E]
                        clear E
                        have F2 := hide (fun w => flag2 st pg 1 fl fi ix w (by omega) (by omega))
                        rw [decide_eq_false (show ¬ fl / 2 % 2 = 1 by omega)] at F2
                        have F8 := hide (fun w => flag8 st pg 1 fl fi ix w (by omega) (by omega))
                        rw [decide_eq_false (show ¬ fl / 8 % 2 = 1 by omega)] at F8
                        have K := hide (bal (brefl w) (.cells #[.int .i64 st, .int .i64 pg, .int .i64 1, .int .i64 fl, .int .i64 fi, .int .i64 ix] 58))
                        have X := hide (RB.new w st pg 1 fl fi ix)
                        go_enter Try.func39, Try.ntmps39
                        go_wp2_with fail
                        refine (F2.out _).mono ?_
                        rintro e w2 ⟨rfl, hb⟩
                        replace K := hide (btrans K.out hb)
                        replace X := hide (X.out.below hb)
                        clear hb
                        try clear x0 x1 x2 x3 x4 x5
                        obtain ⟨x0, x1, x2, x3, x4, x5⟩ := X.out.cells
                        go_wp2_with fail
                        refine (F8.out _).mono ?_
                        rintro e w3 ⟨rfl, hb⟩
                        replace K := hide (btrans K.out hb)
                        replace X := hide (X.out.below hb)
                        clear hb
                        try clear x0 x1 x2 x3 x4 x5
                        obtain ⟨x0, x1, x2, x3, x4, x5⟩ := X.out.cells
                        go_wp2
                        go_ret
                        exact ⟨rfl, K.out⟩
                      · by_cases h9 : 16 < pg
                        · have E : ckE ⟨st, pg, 1, fl, fi, ix⟩ = 2 := ckE_2 (by unfold mean; dsimp only; omega) (by unfold rngd; dsimp only; omega)
                          rw [E]
                          clear E
                          have F2 := hide (fun w => flag2 st pg 1 fl fi ix w (by omega) (by omega))
                          rw [decide_eq_false (show ¬ fl / 2 % 2 = 1 by omega)] at F2
                          have F8 := hide (fun w => flag8 st pg 1 fl fi ix w (by omega) (by omega))
                          rw [decide_eq_false (show ¬ fl / 8 % 2 = 1 by omega)] at F8
                          have K := hide (bal (brefl w) (.cells #[.int .i64 st, .int .i64 pg, .int .i64 1, .int .i64 fl, .int .i64 fi, .int .i64 ix] 58))
                          have X := hide (RB.new w st pg 1 fl fi ix)
                          go_enter Try.func39, Try.ntmps39
                          go_wp2_with fail
                          refine (F2.out _).mono ?_
                          rintro e w2 ⟨rfl, hb⟩
                          replace K := hide (btrans K.out hb)
                          replace X := hide (X.out.below hb)
                          clear hb
                          try clear x0 x1 x2 x3 x4 x5
                          obtain ⟨x0, x1, x2, x3, x4, x5⟩ := X.out.cells
                          go_wp2_with fail
                          refine (F8.out _).mono ?_
                          rintro e w3 ⟨rfl, hb⟩
                          replace K := hide (btrans K.out hb)
                          replace X := hide (X.out.below hb)
                          clear hb
                          try clear x0 x1 x2 x3 x4 x5
                          obtain ⟨x0, x1, x2, x3, x4, x5⟩ := X.out.cells
                          go_wp2
                          go_ret
                          exact ⟨rfl, K.out⟩
                        · by_cases h8 : 16 - pg < ix
                          · have E : ckE ⟨st, pg, 1, fl, fi, ix⟩ = 2 := ckE_2 (by unfold mean; dsimp only; omega) (by unfold rngd; dsimp only; omega)
                            rw [E]
                            clear E
                            have F2 := hide (fun w => flag2 st pg 1 fl fi ix w (by omega) (by omega))
                            rw [decide_eq_false (show ¬ fl / 2 % 2 = 1 by omega)] at F2
                            have F8 := hide (fun w => flag8 st pg 1 fl fi ix w (by omega) (by omega))
                            rw [decide_eq_false (show ¬ fl / 8 % 2 = 1 by omega)] at F8
                            have K := hide (bal (brefl w) (.cells #[.int .i64 st, .int .i64 pg, .int .i64 1, .int .i64 fl, .int .i64 fi, .int .i64 ix] 58))
                            have X := hide (RB.new w st pg 1 fl fi ix)
                            go_enter Try.func39, Try.ntmps39
                            go_wp2_with fail
                            refine (F2.out _).mono ?_
                            rintro e w2 ⟨rfl, hb⟩
                            replace K := hide (btrans K.out hb)
                            replace X := hide (X.out.below hb)
                            clear hb
                            try clear x0 x1 x2 x3 x4 x5
                            obtain ⟨x0, x1, x2, x3, x4, x5⟩ := X.out.cells
                            go_wp2_with fail
                            refine (F8.out _).mono ?_
                            rintro e w3 ⟨rfl, hb⟩
                            replace K := hide (btrans K.out hb)
                            replace X := hide (X.out.below hb)
                            clear hb
                            try clear x0 x1 x2 x3 x4 x5
                            obtain ⟨x0, x1, x2, x3, x4, x5⟩ := X.out.cells
                            go_wp2
                            go_ret
                            exact ⟨rfl, K.out⟩
                          · have E : ckE ⟨st, pg, 1, fl, fi, ix⟩ = 0 := ckE_0 (by unfold mean; dsimp only; omega) (by unfold rngd; dsimp only; omega)
                            rw [E]
                            clear E
                            have F2 := hide (fun w => flag2 st pg 1 fl fi ix w (by omega) (by omega))
                            rw [decide_eq_false (show ¬ fl / 2 % 2 = 1 by omega)] at F2
                            have F8 := hide (fun w => flag8 st pg 1 fl fi ix w (by omega) (by omega))
                            rw [decide_eq_false (show ¬ fl / 8 % 2 = 1 by omega)] at F8
                            have K := hide (bal (brefl w) (.cells #[.int .i64 st, .int .i64 pg, .int .i64 1, .int .i64 fl, .int .i64 fi, .int .i64 ix] 58))
                            have X := hide (RB.new w st pg 1 fl fi ix)
                            go_enter Try.func39, Try.ntmps39
                            go_wp2_with fail
                            refine (F2.out _).mono ?_
                            rintro e w2 ⟨rfl, hb⟩
                            replace K := hide (btrans K.out hb)
                            replace X := hide (X.out.below hb)
                            clear hb
                            try clear x0 x1 x2 x3 x4 x5
                            obtain ⟨x0, x1, x2, x3, x4, x5⟩ := X.out.cells
                            go_wp2_with fail
                            refine (F8.out _).mono ?_
                            rintro e w3 ⟨rfl, hb⟩
                            replace K := hide (btrans K.out hb)
                            replace X := hide (X.out.below hb)
                            clear hb
                            try clear x0 x1 x2 x3 x4 x5
                            obtain ⟨x0, x1, x2, x3, x4, x5⟩ := X.out.cells
                            go_wp2
                            go_ret
                            exact ⟨rfl, K.out⟩
set_option maxHeartbeats 8000000 in
theorem rcheck_3 (st pg fl fi ix : Int) (w : World) (hp : pg ≤ 9223372036854775807) (hpg : ¬ pg < 1) : Calls Try.prog 39 #[.agg #[.int .i64 st, .int .i64 pg, .int .i64 3, .int .i64 fl, .int .i64 fi, .int .i64 ix]] w fun e w' => e = .returned (.int .i64 (ckE ⟨st, pg, 3, fl, fi, ix⟩)) ∧ Below w.heap.size w w' := by
  by_cases h38 : fl < 0
  · have E : ckE ⟨st, pg, 3, fl, fi, ix⟩ = 1 := ckE_1 (by unfold mean; dsimp only; omega)
    rw [E]
    clear E
    have K := hide (bal (brefl w) (.cells #[.int .i64 st, .int .i64 pg, .int .i64 3, .int .i64 fl, .int .i64 fi, .int .i64 ix] 58))
    have X := hide (RB.new w st pg 3 fl fi ix)
    go_enter Try.func39, Try.ntmps39
    go_wp2
    go_ret
    exact ⟨rfl, K.out⟩
  · by_cases h37 : 15 < fl
    · have E : ckE ⟨st, pg, 3, fl, fi, ix⟩ = 1 := ckE_1 (by unfold mean; dsimp only; omega)
      rw [E]
      clear E
      have K := hide (bal (brefl w) (.cells #[.int .i64 st, .int .i64 pg, .int .i64 3, .int .i64 fl, .int .i64 fi, .int .i64 ix] 58))
      have X := hide (RB.new w st pg 3 fl fi ix)
      go_enter Try.func39, Try.ntmps39
      go_wp2
      go_ret
      exact ⟨rfl, K.out⟩
    · by_cases h36 : fi < -1
      · have E : ckE ⟨st, pg, 3, fl, fi, ix⟩ = 1 := ckE_1 (by unfold mean; dsimp only; omega)
        rw [E]
        clear E
        have K := hide (bal (brefl w) (.cells #[.int .i64 st, .int .i64 pg, .int .i64 3, .int .i64 fl, .int .i64 fi, .int .i64 ix] 58))
        have X := hide (RB.new w st pg 3 fl fi ix)
        go_enter Try.func39, Try.ntmps39
        go_wp2
        go_ret
        exact ⟨rfl, K.out⟩
      · by_cases h35 : 4 ≤ fi
        · have E : ckE ⟨st, pg, 3, fl, fi, ix⟩ = 1 := ckE_1 (by unfold mean; dsimp only; omega)
          rw [E]
          clear E
          have K := hide (bal (brefl w) (.cells #[.int .i64 st, .int .i64 pg, .int .i64 3, .int .i64 fl, .int .i64 fi, .int .i64 ix] 58))
          have X := hide (RB.new w st pg 3 fl fi ix)
          go_enter Try.func39, Try.ntmps39
          go_wp2
          go_ret
          exact ⟨rfl, K.out⟩
        · by_cases h20 : fi < 0
          · obtain rfl : fi = -1 := by omega
            by_cases h26 : fl / 1 % 2 = 1
            · have E : ckE ⟨st, pg, 3, fl, (-1), ix⟩ = 1 := ckE_1 (by unfold mean; dsimp only; omega)
              rw [E]
              clear E
              have F1 := hide (fun w => flag1 st pg 3 fl (-1) ix w (by omega) (by omega))
              rw [decide_eq_true (show fl / 1 % 2 = 1 by omega)] at F1
              have K := hide (bal (brefl w) (.cells #[.int .i64 st, .int .i64 pg, .int .i64 3, .int .i64 fl, .int .i64 (-1), .int .i64 ix] 58))
              have X := hide (RB.new w st pg 3 fl (-1) ix)
              go_enter Try.func39, Try.ntmps39
              go_wp2_with fail
              refine (F1.out _).mono ?_
              rintro e w2 ⟨rfl, hb⟩
              replace K := hide (btrans K.out hb)
              replace X := hide (X.out.below hb)
              clear hb
              try clear x0 x1 x2 x3 x4 x5
              obtain ⟨x0, x1, x2, x3, x4, x5⟩ := X.out.cells
              go_wp2
              go_ret
              exact ⟨rfl, K.out⟩
            · by_cases h25 : st < 0
              · have E : ckE ⟨st, pg, 3, fl, (-1), ix⟩ = 2 := ckE_2 (by unfold mean; dsimp only; omega) (by unfold rngd; dsimp only; omega)
                rw [E]
                clear E
                have F1 := hide (fun w => flag1 st pg 3 fl (-1) ix w (by omega) (by omega))
                rw [decide_eq_false (show ¬ fl / 1 % 2 = 1 by omega)] at F1
                have K := hide (bal (brefl w) (.cells #[.int .i64 st, .int .i64 pg, .int .i64 3, .int .i64 fl, .int .i64 (-1), .int .i64 ix] 58))
                have X := hide (RB.new w st pg 3 fl (-1) ix)
                go_enter Try.func39, Try.ntmps39
                go_wp2_with fail
                refine (F1.out _).mono ?_
                rintro e w2 ⟨rfl, hb⟩
                replace K := hide (btrans K.out hb)
                replace X := hide (X.out.below hb)
                clear hb
                try clear x0 x1 x2 x3 x4 x5
                obtain ⟨x0, x1, x2, x3, x4, x5⟩ := X.out.cells
                go_wp2
                go_ret
                exact ⟨rfl, K.out⟩
              · by_cases h24 : 512 < pg
                · have E : ckE ⟨st, pg, 3, fl, (-1), ix⟩ = 2 := ckE_2 (by unfold mean; dsimp only; omega) (by unfold rngd; dsimp only; omega)
                  rw [E]
                  clear E
                  have F1 := hide (fun w => flag1 st pg 3 fl (-1) ix w (by omega) (by omega))
                  rw [decide_eq_false (show ¬ fl / 1 % 2 = 1 by omega)] at F1
                  have K := hide (bal (brefl w) (.cells #[.int .i64 st, .int .i64 pg, .int .i64 3, .int .i64 fl, .int .i64 (-1), .int .i64 ix] 58))
                  have X := hide (RB.new w st pg 3 fl (-1) ix)
                  go_enter Try.func39, Try.ntmps39
                  go_wp2_with fail
                  refine (F1.out _).mono ?_
                  rintro e w2 ⟨rfl, hb⟩
                  replace K := hide (btrans K.out hb)
                  replace X := hide (X.out.below hb)
                  clear hb
                  try clear x0 x1 x2 x3 x4 x5
                  obtain ⟨x0, x1, x2, x3, x4, x5⟩ := X.out.cells
                  go_wp2
                  go_ret
                  exact ⟨rfl, K.out⟩
                · by_cases h23 : 512 - pg < st
                  · have E : ckE ⟨st, pg, 3, fl, (-1), ix⟩ = 2 := ckE_2 (by unfold mean; dsimp only; omega) (by unfold rngd; dsimp only; omega)
                    rw [E]
                    clear E
                    have F1 := hide (fun w => flag1 st pg 3 fl (-1) ix w (by omega) (by omega))
                    rw [decide_eq_false (show ¬ fl / 1 % 2 = 1 by omega)] at F1
                    have K := hide (bal (brefl w) (.cells #[.int .i64 st, .int .i64 pg, .int .i64 3, .int .i64 fl, .int .i64 (-1), .int .i64 ix] 58))
                    have X := hide (RB.new w st pg 3 fl (-1) ix)
                    go_enter Try.func39, Try.ntmps39
                    go_wp2_with fail
                    refine (F1.out _).mono ?_
                    rintro e w2 ⟨rfl, hb⟩
                    replace K := hide (btrans K.out hb)
                    replace X := hide (X.out.below hb)
                    clear hb
                    try clear x0 x1 x2 x3 x4 x5
                    obtain ⟨x0, x1, x2, x3, x4, x5⟩ := X.out.cells
                    go_wp2
                    go_ret
                    exact ⟨rfl, K.out⟩
                  · by_cases h22 : ix < 0
                    · have E : ckE ⟨st, pg, 3, fl, (-1), ix⟩ = 2 := ckE_2 (by unfold mean; dsimp only; omega) (by unfold rngd; dsimp only; omega)
                      rw [E]
                      clear E
                      have F1 := hide (fun w => flag1 st pg 3 fl (-1) ix w (by omega) (by omega))
                      rw [decide_eq_false (show ¬ fl / 1 % 2 = 1 by omega)] at F1
                      have K := hide (bal (brefl w) (.cells #[.int .i64 st, .int .i64 pg, .int .i64 3, .int .i64 fl, .int .i64 (-1), .int .i64 ix] 58))
                      have X := hide (RB.new w st pg 3 fl (-1) ix)
                      go_enter Try.func39, Try.ntmps39
                      go_wp2_with fail
                      refine (F1.out _).mono ?_
                      rintro e w2 ⟨rfl, hb⟩
                      replace K := hide (btrans K.out hb)
                      replace X := hide (X.out.below hb)
                      clear hb
                      try clear x0 x1 x2 x3 x4 x5
                      obtain ⟨x0, x1, x2, x3, x4, x5⟩ := X.out.cells
                      go_wp2
                      go_ret
                      exact ⟨rfl, K.out⟩
                    · by_cases h21 : 0 < ix
                      · have E : ckE ⟨st, pg, 3, fl, (-1), ix⟩ = 2 := ckE_2 (by unfold mean; dsimp only; omega) (by unfold rngd; dsimp only; omega)
                        rw [E]
                        clear E
                        have F1 := hide (fun w => flag1 st pg 3 fl (-1) ix w (by omega) (by omega))
                        rw [decide_eq_false (show ¬ fl / 1 % 2 = 1 by omega)] at F1
                        have K := hide (bal (brefl w) (.cells #[.int .i64 st, .int .i64 pg, .int .i64 3, .int .i64 fl, .int .i64 (-1), .int .i64 ix] 58))
                        have X := hide (RB.new w st pg 3 fl (-1) ix)
                        go_enter Try.func39, Try.ntmps39
                        go_wp2_with fail
                        refine (F1.out _).mono ?_
                        rintro e w2 ⟨rfl, hb⟩
                        replace K := hide (btrans K.out hb)
                        replace X := hide (X.out.below hb)
                        clear hb
                        try clear x0 x1 x2 x3 x4 x5
                        obtain ⟨x0, x1, x2, x3, x4, x5⟩ := X.out.cells
                        go_wp2
                        go_ret
                        exact ⟨rfl, K.out⟩
                      · have E : ckE ⟨st, pg, 3, fl, (-1), ix⟩ = 0 := ckE_0 (by unfold mean; dsimp only; omega) (by unfold rngd; dsimp only; omega)
                        rw [E]
                        clear E
                        have F1 := hide (fun w => flag1 st pg 3 fl (-1) ix w (by omega) (by omega))
                        rw [decide_eq_false (show ¬ fl / 1 % 2 = 1 by omega)] at F1
                        have K := hide (bal (brefl w) (.cells #[.int .i64 st, .int .i64 pg, .int .i64 3, .int .i64 fl, .int .i64 (-1), .int .i64 ix] 58))
                        have X := hide (RB.new w st pg 3 fl (-1) ix)
                        go_enter Try.func39, Try.ntmps39
                        go_wp2_with fail
                        refine (F1.out _).mono ?_
                        rintro e w2 ⟨rfl, hb⟩
                        replace K := hide (btrans K.out hb)
                        replace X := hide (X.out.below hb)
                        clear hb
                        try clear x0 x1 x2 x3 x4 x5
                        obtain ⟨x0, x1, x2, x3, x4, x5⟩ := X.out.cells
                        go_wp2
                        go_ret
                        exact ⟨rfl, K.out⟩
          · by_cases h34 : fl / 2 % 2 = 1
            · have E : ckE ⟨st, pg, 3, fl, fi, ix⟩ = 1 := ckE_1 (by unfold mean; dsimp only; omega)
              rw [E]
              clear E
              have F2 := hide (fun w => flag2 st pg 3 fl fi ix w (by omega) (by omega))
              rw [decide_eq_true (show fl / 2 % 2 = 1 by omega)] at F2
              have K := hide (bal (brefl w) (.cells #[.int .i64 st, .int .i64 pg, .int .i64 3, .int .i64 fl, .int .i64 fi, .int .i64 ix] 58))
              have X := hide (RB.new w st pg 3 fl fi ix)
              go_enter Try.func39, Try.ntmps39
              go_wp2_with fail
              refine (F2.out _).mono ?_
              rintro e w2 ⟨rfl, hb⟩
              replace K := hide (btrans K.out hb)
              replace X := hide (X.out.below hb)
              clear hb
              try clear x0 x1 x2 x3 x4 x5
              obtain ⟨x0, x1, x2, x3, x4, x5⟩ := X.out.cells
              go_wp2
              go_ret
              exact ⟨rfl, K.out⟩
            · by_cases h33 : fl / 8 % 2 = 1
              · have E : ckE ⟨st, pg, 3, fl, fi, ix⟩ = 1 := ckE_1 (by unfold mean; dsimp only; omega)
                rw [E]
                clear E
                have F2 := hide (fun w => flag2 st pg 3 fl fi ix w (by omega) (by omega))
                rw [decide_eq_false (show ¬ fl / 2 % 2 = 1 by omega)] at F2
                have F8 := hide (fun w => flag8 st pg 3 fl fi ix w (by omega) (by omega))
                rw [decide_eq_true (show fl / 8 % 2 = 1 by omega)] at F8
                have K := hide (bal (brefl w) (.cells #[.int .i64 st, .int .i64 pg, .int .i64 3, .int .i64 fl, .int .i64 fi, .int .i64 ix] 58))
                have X := hide (RB.new w st pg 3 fl fi ix)
                go_enter Try.func39, Try.ntmps39
                go_wp2_with fail
                refine (F2.out _).mono ?_
                rintro e w2 ⟨rfl, hb⟩
                replace K := hide (btrans K.out hb)
                replace X := hide (X.out.below hb)
                clear hb
                try clear x0 x1 x2 x3 x4 x5
                obtain ⟨x0, x1, x2, x3, x4, x5⟩ := X.out.cells
                go_wp2_with fail
                refine (F8.out _).mono ?_
                rintro e w3 ⟨rfl, hb⟩
                replace K := hide (btrans K.out hb)
                replace X := hide (X.out.below hb)
                clear hb
                try clear x0 x1 x2 x3 x4 x5
                obtain ⟨x0, x1, x2, x3, x4, x5⟩ := X.out.cells
                go_wp2
                go_ret
                exact ⟨rfl, K.out⟩
              · by_cases h32 : st < 0
                · have E : ckE ⟨st, pg, 3, fl, fi, ix⟩ = 2 := ckE_2 (by unfold mean; dsimp only; omega) (by unfold rngd; dsimp only; omega)
                  rw [E]
                  clear E
                  have F2 := hide (fun w => flag2 st pg 3 fl fi ix w (by omega) (by omega))
                  rw [decide_eq_false (show ¬ fl / 2 % 2 = 1 by omega)] at F2
                  have F8 := hide (fun w => flag8 st pg 3 fl fi ix w (by omega) (by omega))
                  rw [decide_eq_false (show ¬ fl / 8 % 2 = 1 by omega)] at F8
                  have K := hide (bal (brefl w) (.cells #[.int .i64 st, .int .i64 pg, .int .i64 3, .int .i64 fl, .int .i64 fi, .int .i64 ix] 58))
                  have X := hide (RB.new w st pg 3 fl fi ix)
                  go_enter Try.func39, Try.ntmps39
                  go_wp2_with fail
                  refine (F2.out _).mono ?_
                  rintro e w2 ⟨rfl, hb⟩
                  replace K := hide (btrans K.out hb)
                  replace X := hide (X.out.below hb)
                  clear hb
                  try clear x0 x1 x2 x3 x4 x5
                  obtain ⟨x0, x1, x2, x3, x4, x5⟩ := X.out.cells
                  go_wp2_with fail
                  refine (F8.out _).mono ?_
                  rintro e w3 ⟨rfl, hb⟩
                  replace K := hide (btrans K.out hb)
                  replace X := hide (X.out.below hb)
                  clear hb
                  try clear x0 x1 x2 x3 x4 x5
                  obtain ⟨x0, x1, x2, x3, x4, x5⟩ := X.out.cells
                  go_wp2
                  go_ret
                  exact ⟨rfl, K.out⟩
                · by_cases h31 : 512 < pg
                  · have E : ckE ⟨st, pg, 3, fl, fi, ix⟩ = 2 := ckE_2 (by unfold mean; dsimp only; omega) (by unfold rngd; dsimp only; omega)
                    rw [E]
                    clear E
                    have F2 := hide (fun w => flag2 st pg 3 fl fi ix w (by omega) (by omega))
                    rw [decide_eq_false (show ¬ fl / 2 % 2 = 1 by omega)] at F2
                    have F8 := hide (fun w => flag8 st pg 3 fl fi ix w (by omega) (by omega))
                    rw [decide_eq_false (show ¬ fl / 8 % 2 = 1 by omega)] at F8
                    have K := hide (bal (brefl w) (.cells #[.int .i64 st, .int .i64 pg, .int .i64 3, .int .i64 fl, .int .i64 fi, .int .i64 ix] 58))
                    have X := hide (RB.new w st pg 3 fl fi ix)
                    go_enter Try.func39, Try.ntmps39
                    go_wp2_with fail
                    refine (F2.out _).mono ?_
                    rintro e w2 ⟨rfl, hb⟩
                    replace K := hide (btrans K.out hb)
                    replace X := hide (X.out.below hb)
                    clear hb
                    try clear x0 x1 x2 x3 x4 x5
                    obtain ⟨x0, x1, x2, x3, x4, x5⟩ := X.out.cells
                    go_wp2_with fail
                    refine (F8.out _).mono ?_
                    rintro e w3 ⟨rfl, hb⟩
                    replace K := hide (btrans K.out hb)
                    replace X := hide (X.out.below hb)
                    clear hb
                    try clear x0 x1 x2 x3 x4 x5
                    obtain ⟨x0, x1, x2, x3, x4, x5⟩ := X.out.cells
                    go_wp2
                    go_ret
                    exact ⟨rfl, K.out⟩
                  · by_cases h30 : 512 - pg < st
                    · have E : ckE ⟨st, pg, 3, fl, fi, ix⟩ = 2 := ckE_2 (by unfold mean; dsimp only; omega) (by unfold rngd; dsimp only; omega)
                      rw [E]
                      clear E
                      have F2 := hide (fun w => flag2 st pg 3 fl fi ix w (by omega) (by omega))
                      rw [decide_eq_false (show ¬ fl / 2 % 2 = 1 by omega)] at F2
                      have F8 := hide (fun w => flag8 st pg 3 fl fi ix w (by omega) (by omega))
                      rw [decide_eq_false (show ¬ fl / 8 % 2 = 1 by omega)] at F8
                      have K := hide (bal (brefl w) (.cells #[.int .i64 st, .int .i64 pg, .int .i64 3, .int .i64 fl, .int .i64 fi, .int .i64 ix] 58))
                      have X := hide (RB.new w st pg 3 fl fi ix)
                      go_enter Try.func39, Try.ntmps39
                      go_wp2_with fail
                      refine (F2.out _).mono ?_
                      rintro e w2 ⟨rfl, hb⟩
                      replace K := hide (btrans K.out hb)
                      replace X := hide (X.out.below hb)
                      clear hb
                      try clear x0 x1 x2 x3 x4 x5
                      obtain ⟨x0, x1, x2, x3, x4, x5⟩ := X.out.cells
                      go_wp2_with fail
                      refine (F8.out _).mono ?_
                      rintro e w3 ⟨rfl, hb⟩
                      replace K := hide (btrans K.out hb)
                      replace X := hide (X.out.below hb)
                      clear hb
                      try clear x0 x1 x2 x3 x4 x5
                      obtain ⟨x0, x1, x2, x3, x4, x5⟩ := X.out.cells
                      go_wp2
                      go_ret
                      exact ⟨rfl, K.out⟩
                    · by_cases h29 : ix < 0
                      · have E : ckE ⟨st, pg, 3, fl, fi, ix⟩ = 2 := ckE_2 (by unfold mean; dsimp only; omega) (by unfold rngd; dsimp only; omega)
                        rw [E]
                        clear E
                        have F2 := hide (fun w => flag2 st pg 3 fl fi ix w (by omega) (by omega))
                        rw [decide_eq_false (show ¬ fl / 2 % 2 = 1 by omega)] at F2
                        have F8 := hide (fun w => flag8 st pg 3 fl fi ix w (by omega) (by omega))
                        rw [decide_eq_false (show ¬ fl / 8 % 2 = 1 by omega)] at F8
                        have K := hide (bal (brefl w) (.cells #[.int .i64 st, .int .i64 pg, .int .i64 3, .int .i64 fl, .int .i64 fi, .int .i64 ix] 58))
                        have X := hide (RB.new w st pg 3 fl fi ix)
                        go_enter Try.func39, Try.ntmps39
                        go_wp2_with fail
                        refine (F2.out _).mono ?_
                        rintro e w2 ⟨rfl, hb⟩
                        replace K := hide (btrans K.out hb)
                        replace X := hide (X.out.below hb)
                        clear hb
                        try clear x0 x1 x2 x3 x4 x5
                        obtain ⟨x0, x1, x2, x3, x4, x5⟩ := X.out.cells
                        go_wp2_with fail
                        refine (F8.out _).mono ?_
                        rintro e w3 ⟨rfl, hb⟩
                        replace K := hide (btrans K.out hb)
                        replace X := hide (X.out.below hb)
                        clear hb
                        try clear x0 x1 x2 x3 x4 x5
                        obtain ⟨x0, x1, x2, x3, x4, x5⟩ := X.out.cells
                        go_wp2
                        go_ret
                        exact ⟨rfl, K.out⟩
                      · by_cases h28 : 16 < pg
                        · have E : ckE ⟨st, pg, 3, fl, fi, ix⟩ = 2 := ckE_2 (by unfold mean; dsimp only; omega) (by unfold rngd; dsimp only; omega)
                          rw [E]
                          clear E
                          have F2 := hide (fun w => flag2 st pg 3 fl fi ix w (by omega) (by omega))
                          rw [decide_eq_false (show ¬ fl / 2 % 2 = 1 by omega)] at F2
                          have F8 := hide (fun w => flag8 st pg 3 fl fi ix w (by omega) (by omega))
                          rw [decide_eq_false (show ¬ fl / 8 % 2 = 1 by omega)] at F8
                          have K := hide (bal (brefl w) (.cells #[.int .i64 st, .int .i64 pg, .int .i64 3, .int .i64 fl, .int .i64 fi, .int .i64 ix] 58))
                          have X := hide (RB.new w st pg 3 fl fi ix)
                          go_enter Try.func39, Try.ntmps39
                          go_wp2_with fail
                          refine (F2.out _).mono ?_
                          rintro e w2 ⟨rfl, hb⟩
                          replace K := hide (btrans K.out hb)
                          replace X := hide (X.out.below hb)
                          clear hb
                          try clear x0 x1 x2 x3 x4 x5
                          obtain ⟨x0, x1, x2, x3, x4, x5⟩ := X.out.cells
                          go_wp2_with fail
                          refine (F8.out _).mono ?_
                          rintro e w3 ⟨rfl, hb⟩
                          replace K := hide (btrans K.out hb)
                          replace X := hide (X.out.below hb)
                          clear hb
                          try clear x0 x1 x2 x3 x4 x5
                          obtain ⟨x0, x1, x2, x3, x4, x5⟩ := X.out.cells
                          go_wp2
                          go_ret
                          exact ⟨rfl, K.out⟩
                        · by_cases h27 : 16 - pg < ix
                          · have E : ckE ⟨st, pg, 3, fl, fi, ix⟩ = 2 := ckE_2 (by unfold mean; dsimp only; omega) (by unfold rngd; dsimp only; omega)
                            rw [E]
                            clear E
                            have F2 := hide (fun w => flag2 st pg 3 fl fi ix w (by omega) (by omega))
                            rw [decide_eq_false (show ¬ fl / 2 % 2 = 1 by omega)] at F2
                            have F8 := hide (fun w => flag8 st pg 3 fl fi ix w (by omega) (by omega))
                            rw [decide_eq_false (show ¬ fl / 8 % 2 = 1 by omega)] at F8
                            have K := hide (bal (brefl w) (.cells #[.int .i64 st, .int .i64 pg, .int .i64 3, .int .i64 fl, .int .i64 fi, .int .i64 ix] 58))
                            have X := hide (RB.new w st pg 3 fl fi ix)
                            go_enter Try.func39, Try.ntmps39
                            go_wp2_with fail
                            refine (F2.out _).mono ?_
                            rintro e w2 ⟨rfl, hb⟩
                            replace K := hide (btrans K.out hb)
                            replace X := hide (X.out.below hb)
                            clear hb
                            try clear x0 x1 x2 x3 x4 x5
                            obtain ⟨x0, x1, x2, x3, x4, x5⟩ := X.out.cells
                            go_wp2_with fail
                            refine (F8.out _).mono ?_
                            rintro e w3 ⟨rfl, hb⟩
                            replace K := hide (btrans K.out hb)
                            replace X := hide (X.out.below hb)
                            clear hb
                            try clear x0 x1 x2 x3 x4 x5
                            obtain ⟨x0, x1, x2, x3, x4, x5⟩ := X.out.cells
                            go_wp2
                            go_ret
                            exact ⟨rfl, K.out⟩
                          · have E : ckE ⟨st, pg, 3, fl, fi, ix⟩ = 0 := ckE_0 (by unfold mean; dsimp only; omega) (by unfold rngd; dsimp only; omega)
                            rw [E]
                            clear E
                            have F2 := hide (fun w => flag2 st pg 3 fl fi ix w (by omega) (by omega))
                            rw [decide_eq_false (show ¬ fl / 2 % 2 = 1 by omega)] at F2
                            have F8 := hide (fun w => flag8 st pg 3 fl fi ix w (by omega) (by omega))
                            rw [decide_eq_false (show ¬ fl / 8 % 2 = 1 by omega)] at F8
                            have K := hide (bal (brefl w) (.cells #[.int .i64 st, .int .i64 pg, .int .i64 3, .int .i64 fl, .int .i64 fi, .int .i64 ix] 58))
                            have X := hide (RB.new w st pg 3 fl fi ix)
                            go_enter Try.func39, Try.ntmps39
                            go_wp2_with fail
                            refine (F2.out _).mono ?_
                            rintro e w2 ⟨rfl, hb⟩
                            replace K := hide (btrans K.out hb)
                            replace X := hide (X.out.below hb)
                            clear hb
                            try clear x0 x1 x2 x3 x4 x5
                            obtain ⟨x0, x1, x2, x3, x4, x5⟩ := X.out.cells
                            go_wp2_with fail
                            refine (F8.out _).mono ?_
                            rintro e w3 ⟨rfl, hb⟩
                            replace K := hide (btrans K.out hb)
                            replace X := hide (X.out.below hb)
                            clear hb
                            try clear x0 x1 x2 x3 x4 x5
                            obtain ⟨x0, x1, x2, x3, x4, x5⟩ := X.out.cells
                            go_wp2
                            go_ret
                            exact ⟨rfl, K.out⟩
set_option maxHeartbeats 8000000 in
theorem rcheck_any : FI 39 ckE := by
  intro st pg pr fl fi ix w hp
  by_cases h1 : pg < 1
  · have E : ckE ⟨st, pg, pr, fl, fi, ix⟩ = 1 := ckE_1 (by unfold mean; dsimp only; omega)
    rw [E]
    clear E
    have K := hide (bal (brefl w) (.cells #[.int .i64 st, .int .i64 pg, .int .i64 pr, .int .i64 fl, .int .i64 fi, .int .i64 ix] 58))
    have X := hide (RB.new w st pg pr fl fi ix)
    go_enter Try.func39, Try.ntmps39
    go_wp2
    go_ret
    exact ⟨rfl, K.out⟩
  by_cases h2 : pr = 1
  · subst h2
    exact rcheck_1 st pg fl fi ix w hp h1
  by_cases h3 : pr = 3
  · subst h3
    exact rcheck_3 st pg fl fi ix w hp h1
  have h4 : (pr != 1) = true := bne_iff_ne.2 h2
  have h5 : (pr != 3) = true := bne_iff_ne.2 h3
  have E : ckE ⟨st, pg, pr, fl, fi, ix⟩ = 1 := ckE_1 (by unfold mean; dsimp only; omega)
  rw [E]
  clear E
  clear h2 h3
  have K := hide (bal (brefl w) (.cells #[.int .i64 st, .int .i64 pg, .int .i64 pr, .int .i64 fl, .int .i64 fi, .int .i64 ix] 58))
  have X := hide (RB.new w st pg pr fl fi ix)
  go_enter Try.func39, Try.ntmps39
  go_wp2
  go_ret
  exact ⟨rfl, K.out⟩
end Go.Proofs.Ytimclgmajhhheaa.Rg
