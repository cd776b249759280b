import Derived.Test.YtiopfeleaifpbaaIs
namespace Go.Proofs.Ytiopfeleaifpbaa.Bd
open Go Go.RowKit Go.Sort Go.Lib
set_option linter.unusedVariables false
set_option linter.unusedSimpArgs false
theorem pk_c {Z : List Zo} {p : Po} {n : Int} (h : chE Z ≠ 0) : pkE Z p n = chE Z := if_neg h
theorem pk_1 {Z : List Zo} {p : Po} {n : Int} (h : chE Z = 0) (h2 : poE p = 1) : pkE Z p n = 1 := by unfold pkE; rw [if_pos h, if_neg (by omega)]
theorem pk_0 {Z : List Zo} {p : Po} {n : Int} (h : chE Z = 0) (h2 : poE p = 0) : pkE Z p n = if 0 ≤ n ∧ n < 4 then 0 else 2 := by unfold pkE; rw [if_pos h, if_pos h2]
set_option maxRecDepth 100000 in
set_option maxHeartbeats 8000000 in
theorem checkpick_any (AZ : Option Addr) (cp : Nat) (Z : List Zo) (p : Po) (n : Int) (w : World) (hr : Zs w AZ Z) (hz : ZIs w Z) (hn : Z.length ≤ 9223372036854775807) : Calls Try.prog 35 #[.slice AZ Z.length cp, .agg #[.int .i64 p.k, .int .i64 p.m, .int .i64 p.t], .int .i64 n] w fun e w' => e = .returned (.int .i64 (pkE Z p n)) ∧ Below w.heap.size w w' := by
  obtain ⟨k, m, t⟩ := p
  have X := hide (Box.new w 34 #[.int .i64 k, .int .i64 m, .int .i64 t])
  have K := hide (bal (brefl w) (.cells #[.int .i64 k, .int .i64 m, .int .i64 t] 34))
  obtain ⟨W0, hW0⟩ : ∃ W0, W0 = (w.alloc (.cells #[.int .i64 k, .int .i64 m, .int .i64 t] 34)) := ⟨_, rfl⟩
  rw [← hW0] at X K
  have CK := hide (check_any AZ cp Z W0 (hr.below K.out) (hz.below K.out) hn)
  clear hr hz
  simp only
  by_cases hc : chE Z = 0
  · rw [hc] at CK
    have PB := hide (fun (h : poE ⟨k, m, t⟩ = 1) => pk_1 (n := n) hc h)
    have PO := hide (fun (h : poE ⟨k, m, t⟩ = 0) => pk_0 (n := n) hc h)
    clear hc
    have E := hide (show poE ⟨k, m, t⟩ = if 0 ≤ k ∧ k ≤ 3 ∧ (k ≠ 0 → 1 ≤ m ∧ m < 16) ∧ (k = 3 → 0 ≤ t) then 0 else 1 from rfl)
    generalize pkE Z ⟨k, m, t⟩ n = pk at *
    generalize poE ⟨k, m, t⟩ = pe at *
    by_cases a1 : k < 0
    · have E1 := hide (E.out.trans (if_neg (by omega)))
      go_enter Try.func35, Try.ntmps35
      go_upto_region 1 with fail
      rw [← hW0]
      clear hW0
      go_wp2_with fail
      refine CK.out.mono ?_
      rintro e w1 ⟨rfl, hb⟩
      have XB := hide (X.out.below hb)
      have KB := hide (K.out.trans (hb.mono K.out.size))
      have x0 := XB.out.cell 0
      have x1 := XB.out.cell 1
      have x2 := XB.out.cell 2
      simp at x0 x1 x2
      clear hb X K CK XB
      go_wp2
      go_ret
      exact ⟨ret_int (PB.out E1.out).symm, KB.out⟩
    · by_cases a2 : 3 < k
      · have E1 := hide (E.out.trans (if_neg (by omega)))
        go_enter Try.func35, Try.ntmps35
        go_upto_region 1 with fail
        rw [← hW0]
        clear hW0
        go_wp2_with fail
        refine CK.out.mono ?_
        rintro e w1 ⟨rfl, hb⟩
        have XB := hide (X.out.below hb)
        have KB := hide (K.out.trans (hb.mono K.out.size))
        have x0 := XB.out.cell 0
        have x1 := XB.out.cell 1
        have x2 := XB.out.cell 2
        simp at x0 x1 x2
        clear hb X K CK XB
        go_wp2
        go_ret
        exact ⟨ret_int (PB.out E1.out).symm, KB.out⟩
      · by_cases a3 : k = 0
        · have E1 := hide (E.out.trans (if_pos (by omega)))
          subst a3
          by_cases h4 : 0 ≤ n ∧ n < 4
          · have PE := hide ((PO.out E1.out).trans (if_pos h4))
            have dn := decide_eq_true h4
            have IN := hide (fun w => isn_any n w)
            rw [dn] at IN
            clear h4 dn
            go_enter Try.func35, Try.ntmps35
            go_upto_region 1 with fail
            rw [← hW0]
            clear hW0
            go_wp2_with fail
            refine CK.out.mono ?_
            rintro e w1 ⟨rfl, hb⟩
            have XB := hide (X.out.below hb)
            have KB := hide (K.out.trans (hb.mono K.out.size))
            have x0 := XB.out.cell 0
            have x1 := XB.out.cell 1
            have x2 := XB.out.cell 2
            simp at x0 x1 x2
            clear hb X K CK XB
            go_wp2_with (go_at_call 24; refine (IN.out _).mono ?_; rintro e w' ⟨rfl, rfl⟩)
            go_ret
            exact ⟨ret_int PE.out.symm, KB.out⟩
          · have PE := hide ((PO.out E1.out).trans (if_neg h4))
            have dn := decide_eq_false h4
            have IN := hide (fun w => isn_any n w)
            rw [dn] at IN
            clear h4 dn
            go_enter Try.func35, Try.ntmps35
            go_upto_region 1 with fail
            rw [← hW0]
            clear hW0
            go_wp2_with fail
            refine CK.out.mono ?_
            rintro e w1 ⟨rfl, hb⟩
            have XB := hide (X.out.below hb)
            have KB := hide (K.out.trans (hb.mono K.out.size))
            have x0 := XB.out.cell 0
            have x1 := XB.out.cell 1
            have x2 := XB.out.cell 2
            simp at x0 x1 x2
            clear hb X K CK XB
            go_wp2_with (go_at_call 24; refine (IN.out _).mono ?_; rintro e w' ⟨rfl, rfl⟩)
            go_ret
            exact ⟨ret_int PE.out.symm, KB.out⟩
        · have d3 : (k != 0) = true := by simpa using a3
          by_cases a4 : m < 1
          · have E1 := hide (E.out.trans (if_neg (by omega)))
            clear a3
            go_enter Try.func35, Try.ntmps35
            go_upto_region 1 with fail
            rw [← hW0]
            clear hW0
            go_wp2_with fail
            refine CK.out.mono ?_
            rintro e w1 ⟨rfl, hb⟩
            have XB := hide (X.out.below hb)
            have KB := hide (K.out.trans (hb.mono K.out.size))
            have x0 := XB.out.cell 0
            have x1 := XB.out.cell 1
            have x2 := XB.out.cell 2
            simp at x0 x1 x2
            clear hb X K CK XB
            go_wp2
            go_ret
            exact ⟨ret_int (PB.out E1.out).symm, KB.out⟩
          · by_cases a5 : 16 ≤ m
            · have E1 := hide (E.out.trans (if_neg (by omega)))
              clear a3
              go_enter Try.func35, Try.ntmps35
              go_upto_region 1 with fail
              rw [← hW0]
              clear hW0
              go_wp2_with fail
              refine CK.out.mono ?_
              rintro e w1 ⟨rfl, hb⟩
              have XB := hide (X.out.below hb)
              have KB := hide (K.out.trans (hb.mono K.out.size))
              have x0 := XB.out.cell 0
              have x1 := XB.out.cell 1
              have x2 := XB.out.cell 2
              simp at x0 x1 x2
              clear hb X K CK XB
              go_wp2
              go_ret
              exact ⟨ret_int (PB.out E1.out).symm, KB.out⟩
            · by_cases a6 : k = 3
              · by_cases a7 : t < 0
                · have E1 := hide (E.out.trans (if_neg (by omega)))
                  subst a6
                  clear a3
                  go_enter Try.func35, Try.ntmps35
                  go_upto_region 1 with fail
                  rw [← hW0]
                  clear hW0
                  go_wp2_with fail
                  refine CK.out.mono ?_
                  rintro e w1 ⟨rfl, hb⟩
                  have XB := hide (X.out.below hb)
                  have KB := hide (K.out.trans (hb.mono K.out.size))
                  have x0 := XB.out.cell 0
                  have x1 := XB.out.cell 1
                  have x2 := XB.out.cell 2
                  simp at x0 x1 x2
                  clear hb X K CK XB
                  go_wp2
                  go_ret
                  exact ⟨ret_int (PB.out E1.out).symm, KB.out⟩
                · have E1 := hide (E.out.trans (if_pos (by omega)))
                  subst a6
                  clear a3
                  by_cases h4 : 0 ≤ n ∧ n < 4
                  · have PE := hide ((PO.out E1.out).trans (if_pos h4))
                    have dn := decide_eq_true h4
                    have IN := hide (fun w => isn_any n w)
                    rw [dn] at IN
                    clear h4 dn
                    go_enter Try.func35, Try.ntmps35
                    go_upto_region 1 with fail
                    rw [← hW0]
                    clear hW0
                    go_wp2_with fail
                    refine CK.out.mono ?_
                    rintro e w1 ⟨rfl, hb⟩
                    have XB := hide (X.out.below hb)
                    have KB := hide (K.out.trans (hb.mono K.out.size))
                    have x0 := XB.out.cell 0
                    have x1 := XB.out.cell 1
                    have x2 := XB.out.cell 2
                    simp at x0 x1 x2
                    clear hb X K CK XB
                    go_wp2_with (go_at_call 24; refine (IN.out _).mono ?_; rintro e w' ⟨rfl, rfl⟩)
                    go_ret
                    exact ⟨ret_int PE.out.symm, KB.out⟩
                  · have PE := hide ((PO.out E1.out).trans (if_neg h4))
                    have dn := decide_eq_false h4
                    have IN := hide (fun w => isn_any n w)
                    rw [dn] at IN
                    clear h4 dn
                    go_enter Try.func35, Try.ntmps35
                    go_upto_region 1 with fail
                    rw [← hW0]
                    clear hW0
                    go_wp2_with fail
                    refine CK.out.mono ?_
                    rintro e w1 ⟨rfl, hb⟩
                    have XB := hide (X.out.below hb)
                    have KB := hide (K.out.trans (hb.mono K.out.size))
                    have x0 := XB.out.cell 0
                    have x1 := XB.out.cell 1
                    have x2 := XB.out.cell 2
                    simp at x0 x1 x2
                    clear hb X K CK XB
                    go_wp2_with (go_at_call 24; refine (IN.out _).mono ?_; rintro e w' ⟨rfl, rfl⟩)
                    go_ret
                    exact ⟨ret_int PE.out.symm, KB.out⟩
              · have E1 := hide (E.out.trans (if_pos (by omega)))
                have d6 : (k == 3) = false := by simpa using a6
                clear a3 a6
                by_cases h4 : 0 ≤ n ∧ n < 4
                · have PE := hide ((PO.out E1.out).trans (if_pos h4))
                  have dn := decide_eq_true h4
                  have IN := hide (fun w => isn_any n w)
                  rw [dn] at IN
                  clear h4 dn
                  go_enter Try.func35, Try.ntmps35
                  go_upto_region 1 with fail
                  rw [← hW0]
                  clear hW0
                  go_wp2_with fail
                  refine CK.out.mono ?_
                  rintro e w1 ⟨rfl, hb⟩
                  have XB := hide (X.out.below hb)
                  have KB := hide (K.out.trans (hb.mono K.out.size))
                  have x0 := XB.out.cell 0
                  have x1 := XB.out.cell 1
                  have x2 := XB.out.cell 2
                  simp at x0 x1 x2
                  clear hb X K CK XB
                  go_wp2_with (go_at_call 24; refine (IN.out _).mono ?_; rintro e w' ⟨rfl, rfl⟩)
                  go_ret
                  exact ⟨ret_int PE.out.symm, KB.out⟩
                · have PE := hide ((PO.out E1.out).trans (if_neg h4))
                  have dn := decide_eq_false h4
                  have IN := hide (fun w => isn_any n w)
                  rw [dn] at IN
                  clear h4 dn
                  go_enter Try.func35, Try.ntmps35
                  go_upto_region 1 with fail
                  rw [← hW0]
                  clear hW0
                  go_wp2_with fail
                  refine CK.out.mono ?_
                  rintro e w1 ⟨rfl, hb⟩
                  have XB := hide (X.out.below hb)
                  have KB := hide (K.out.trans (hb.mono K.out.size))
                  have x0 := XB.out.cell 0
                  have x1 := XB.out.cell 1
                  have x2 := XB.out.cell 2
                  simp at x0 x1 x2
                  clear hb X K CK XB
                  go_wp2_with (go_at_call 24; refine (IN.out _).mono ?_; rintro e w' ⟨rfl, rfl⟩)
                  go_ret
                  exact ⟨ret_int PE.out.symm, KB.out⟩
  · have E := hide (pk_c (p := ⟨k, m, t⟩) (n := n) hc)
    have dc : (chE Z != 0) = true := by simpa using hc
    clear hc
    generalize pkE Z ⟨k, m, t⟩ n = pk at *
    generalize chE Z = ce at *
    go_enter Try.func35, Try.ntmps35
    go_upto_region 1 with fail
    rw [← hW0]
    clear hW0
    go_wp2_with fail
    refine CK.out.mono ?_
    rintro e w1 ⟨rfl, hb⟩
    have KB := hide (K.out.trans (hb.mono K.out.size))
    clear hb
    go_wp2
    go_ret
    exact ⟨ret_int E.out.symm, KB.out⟩
end Go.Proofs.Ytiopfeleaifpbaa.Bd
