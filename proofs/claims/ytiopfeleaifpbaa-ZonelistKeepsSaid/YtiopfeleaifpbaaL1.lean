import Derived.Test.YtiopfeleaifpbaaAw
namespace Go.Proofs.Ytiopfeleaifpbaa.Bd
open Go Go.RowKit Go.Sort Go.Lib
set_option linter.unusedVariables false
set_option linter.unusedSimpArgs false
set_option maxRecDepth 100000 in
set_option maxHeartbeats 8000000 in
theorem law_checks (AZ : Option Addr) (cp : Nat) (Z : List Zo) (W : World) (hr : Zs W AZ Z) (hz : ZIs W Z) (hn : Z.length ≤ 9223372036854775807) : Calls Try.prog 3 #[.slice AZ Z.length cp] W fun e w' => e = .returned (.bool true) ∧ Below W.heap.size W w' := by
  have AWK := hide (fun w => awake_any w)
  have C0 := hide (fun w => few_any AZ Z.length cp 10 w)
  have HR := hide (fun w (h : Below W.heap.size W w) => hr.below h)
  have HZ := hide (fun w (h : Below W.heap.size W w) => hz.below h)
  have K := hide (brefl W)
  clear hr hz
  by_cases h10 : (Z.length : Int) ≤ 10
  · have d10 := decide_eq_true h10
    rw [d10] at C0
    have HN := hide hn
    clear h10 d10
    go_enter Try.func3, Try.ntmps3
    go_wp2_with (go_at_call 11; refine (C0.out _).mono ?_; rintro e w' ⟨rfl, rfl⟩)
    refine (check_any AZ cp Z _ (HR.out _ K.out) (HZ.out _ K.out) HN.out).mono ?_
    rintro e w1 ⟨rfl, hb⟩
    replace K := hide (btrans K.out hb)
    clear hb
    go_wp2_with fail
    refine (rcheck_any AZ cp Z _ (HR.out _ K.out) HN.out).mono ?_
    rintro e w2 ⟨rfl, rfl⟩
    generalize chE Z = ce
    go_wp2_with fail
    refine (AWK.out _).mono ?_
    rintro e w9 ⟨rfl, hb⟩
    replace K := hide (btrans K.out hb)
    clear hb
    go_wp2
    go_ret
    exact ⟨rfl, K.out⟩
  · have d10 := decide_eq_false h10
    rw [d10] at C0
    clear h10 d10
    go_enter Try.func3, Try.ntmps3

    go_wp2_with (go_at_call 11; refine (C0.out _).mono ?_; rintro e w' ⟨rfl, rfl⟩)
    refine (AWK.out _).mono ?_
    rintro e w1 ⟨rfl, hb⟩
    go_wp2
    go_ret
    exact ⟨rfl, btrans K.out hb⟩
theorem nR_le (Z : List Zo) (n : Int) : (nR Z n).length ≤ 8 := by
  by_cases hc : chE Z = 0
  · by_cases h4 : 0 ≤ n ∧ n < 4
    · exact nR_len hc h4
    · rw [(nE_two hc h4).2]; simp
  · rw [(nE_bad hc).2]; simp
theorem oR_le (Z : List Zo) (n : Int) (kb : Bool) : (oR Z n kb).length ≤ 96 := by
  by_cases hc : chE Z = 0
  · by_cases h4 : 0 ≤ n ∧ n < 4
    · exact oR_len hc h4
    · rw [oR_bad (nE_two hc h4).2]; simp
  · rw [oR_bad (nE_bad hc).2]; simp
theorem pR_le (Z : List Zo) (p : Po) (n : Int) (kb : Bool) : (pR Z p n kb).length ≤ 96 := by
  unfold pR
  split
  · split
    · exact Nat.le_trans (List.length_filter_le _ _) (oR_le Z _ kb)
    · exact oR_le Z _ kb
  · simp
set_option maxRecDepth 100000 in
set_option maxHeartbeats 8000000 in
theorem law_orders (AZ : Option Addr) (cp : Nat) (Z : List Zo) (n : Int) (kb : Bool) (W : World) (hr : Zs W AZ Z) (hz : ZIs W Z) (hn : Z.length ≤ 9223372036854775807) : Calls Try.prog 4 #[.slice AZ Z.length cp, .int .i64 n, .bool kb] W fun e w' => e = .returned (.bool true) ∧ Below W.heap.size W w' := by
  have AWK := hide (fun w => awake_any w)
  have C0 := hide (fun w => few_any AZ Z.length cp 10 w)
  have HR := hide (fun w (h : Below W.heap.size W w) => hr.below h)
  have HZ := hide (fun w (h : Below W.heap.size W w) => hz.below h)
  have K := hide (brefl W)
  clear hr hz
  by_cases h10 : (Z.length : Int) ≤ 10
  · have d10 := decide_eq_true h10
    rw [d10] at C0
    have HN := hide hn
    clear h10 d10
    go_enter Try.func4, Try.ntmps4
    go_wp2_with (go_at_call 11; refine (C0.out _).mono ?_; rintro e w' ⟨rfl, rfl⟩)
    refine (nodes_any AZ cp Z n _ (HR.out _ K.out) (HZ.out _ K.out) HN.out).mono ?_
    rintro e w1 ⟨⟨A1, c1, rfl, hO⟩, hb⟩
    have R1 := hide (OwI.bi hO)
    replace K := hide (btrans K.out hb)
    clear hO hb
    go_wp2_with fail
    refine (rnodes_any AZ cp Z n _ (HR.out _ K.out) HN.out).mono ?_
    rintro e w2 ⟨⟨A2, c2, rfl, hO⟩, hb⟩
    have R2 := hide (OwI.bi hO)
    replace R1 := hide (R1.out.below hb)
    replace K := hide (btrans K.out hb)
    clear hO hb
    go_wp2_with fail
    refine (order_any AZ cp Z n kb _ (HR.out _ K.out) (HZ.out _ K.out) HN.out).mono ?_
    rintro e w3 ⟨⟨A3, c3, rfl, hO⟩, hb⟩
    have R3 := hide (OwI.bi hO)
    replace R1 := hide (R1.out.below hb)
    replace R2 := hide (R2.out.below hb)
    replace K := hide (btrans K.out hb)
    clear hO hb
    go_wp2_with fail
    refine (rorder_any AZ cp Z n kb _ (HR.out _ K.out) HN.out).mono ?_
    rintro e w4 ⟨⟨A4, c4, rfl, hO⟩, hb⟩
    have R4 := hide (OwI.bi hO)
    replace R1 := hide (R1.out.below hb)
    replace R2 := hide (R2.out.below hb)
    replace R3 := hide (R3.out.below hb)
    replace K := hide (btrans K.out hb)
    clear hO hb
    have SN : (nR Z n).length ≤ 9223372036854775807 := by have := nR_le Z n; omega
    have SO : (oR Z n kb).length ≤ 9223372036854775807 := by have := oR_le Z n kb; omega
    have HSN := hide SN
    have HSO := hide SO
    clear SN SO
    generalize nE Z n = ne
    generalize nR Z n = lR at *
    generalize oR Z n kb = lO at *
    go_wp2_with fail
    refine (same_refl A1 A2 c1 c2 lR _ R1.out R2.out HSN.out).mono ?_
    rintro e w5 ⟨rfl, hb⟩
    replace R3 := hide (R3.out.below hb)
    replace R4 := hide (R4.out.below hb)
    replace K := hide (btrans K.out hb)
    clear hb
    go_wp2_with fail
    refine (same_refl A3 A4 c3 c4 lO _ R3.out R4.out HSO.out).mono ?_
    rintro e w6 ⟨rfl, hb⟩
    replace K := hide (btrans K.out hb)
    clear hb
    go_wp2_with fail
    refine (AWK.out _).mono ?_
    rintro e w9 ⟨rfl, hb⟩
    replace K := hide (btrans K.out hb)
    clear hb
    go_wp2
    go_ret
    exact ⟨rfl, K.out⟩
  · have d10 := decide_eq_false h10
    rw [d10] at C0
    clear h10 d10
    go_enter Try.func4, Try.ntmps4

    go_wp2_with (go_at_call 11; refine (C0.out _).mono ?_; rintro e w' ⟨rfl, rfl⟩)
    refine (AWK.out _).mono ?_
    rintro e w1 ⟨rfl, hb⟩
    go_wp2
    go_ret
    exact ⟨rfl, btrans K.out hb⟩
set_option maxRecDepth 100000 in
set_option maxHeartbeats 8000000 in
theorem law_picks (AZ : Option Addr) (cp : Nat) (Z : List Zo) (k m t n : Int) (kb : Bool) (W : World) (hr : Zs W AZ Z) (hz : ZIs W Z) (hn : Z.length ≤ 9223372036854775807) : Calls Try.prog 5 #[.slice AZ Z.length cp, .agg #[.int .i64 k, .int .i64 m, .int .i64 t], .agg #[.int .i64 n, .bool kb]] W fun e w' => e = .returned (.bool true) ∧ Below W.heap.size W w' := by
  have AWK := hide (fun w => awake_any w)
  have C0 := hide (fun w => few_any AZ Z.length cp 10 w)
  have HR := hide (fun w (h : Below W.heap.size W w) => hr.below h)
  have HZ := hide (fun w (h : Below W.heap.size W w) => hz.below h)
  have K := hide (brefl W)
  clear hr hz
  have X4 := hide ((Box.new W 34 #[.int .i64 k, .int .i64 m, .int .i64 t]).more (.cells #[.int .i64 n, .bool kb] 36))
  have X5 := hide (Box.new2 W (.cells #[.int .i64 k, .int .i64 m, .int .i64 t] 34) 36 #[.int .i64 n, .bool kb])
  replace K := hide (bal (bal (brefl W) (.cells #[.int .i64 k, .int .i64 m, .int .i64 t] 34)) (.cells #[.int .i64 n, .bool kb] 36))
  obtain ⟨W0, hW0⟩ : ∃ W0, W0 = ((W.alloc (.cells #[.int .i64 k, .int .i64 m, .int .i64 t] 34)).alloc (.cells #[.int .i64 n, .bool kb] 36)) := ⟨_, rfl⟩
  rw [← hW0] at X4 X5 K
  obtain ⟨g4, hg4⟩ : ∃ g4, g4 = W.heap.size := ⟨_, rfl⟩
  rw [← hg4] at X4
  obtain ⟨g5, hg5⟩ : ∃ g5, g5 = W.heap.size + 1 := ⟨_, rfl⟩
  rw [← hg5] at X5
  by_cases h10 : (Z.length : Int) ≤ 10
  · have d10 := decide_eq_true h10
    rw [d10] at C0
    have HN := hide hn
    clear h10 d10
    go_enter Try.func5, Try.ntmps5
    go_upto_region 1 with fail
    rw [← hg5, ← hg4, ← hW0]
    clear hg5 hg4 hW0
    have x0 := X4.out.cell 0
    have x1 := X4.out.cell 1
    have x2 := X4.out.cell 2
    have x5 := X5.out.cell 0
    have x6 := X5.out.cell 1
    simp at x0 x1 x2 x5 x6
    go_wp2_with (go_at_call 11; refine (C0.out _).mono ?_; rintro e w' ⟨rfl, rfl⟩)
    refine (pick_any AZ cp Z ⟨k, m, t⟩ n kb _ (HR.out _ K.out) (HZ.out _ K.out) HN.out).mono ?_
    rintro e w1 ⟨⟨A1, c1, rfl, hO⟩, hb⟩
    have R1 := hide (OwI.bi hO)
    replace K := hide (K.out.trans (hb.mono K.out.size))
    replace X4 := hide (X4.out.below hb)
    replace X5 := hide (X5.out.below hb)
    clear hO hb x0 x1 x2 x5 x6
    have x0 := X4.out.cell 0
    have x1 := X4.out.cell 1
    have x2 := X4.out.cell 2
    have x5 := X5.out.cell 0
    have x6 := X5.out.cell 1
    simp at x0 x1 x2 x5 x6
    go_wp2_with fail
    refine (rpick_any AZ cp Z ⟨k, m, t⟩ n kb _ (HR.out _ K.out) HN.out).mono ?_
    rintro e w2 ⟨⟨A2, c2, rfl, hO⟩, hb⟩
    have R2 := hide (OwI.bi hO)
    replace R1 := hide (R1.out.below hb)
    replace K := hide (K.out.trans (hb.mono K.out.size))
    clear hO hb
    clear x0 x1 x2 x5 x6
    have HSN := hide (show (pR Z ⟨k, m, t⟩ n kb).length ≤ 9223372036854775807 by have := pR_le Z ⟨k, m, t⟩ n kb; omega)
    generalize pkE Z ⟨k, m, t⟩ n = pe
    generalize pR Z ⟨k, m, t⟩ n kb = lR at *
    go_wp2_with fail
    refine (same_refl A1 A2 c1 c2 lR _ R1.out R2.out HSN.out).mono ?_
    rintro e w5 ⟨rfl, hb⟩
    replace K := hide (K.out.trans (hb.mono K.out.size))
    clear hb
    go_wp2_with fail
    refine (AWK.out _).mono ?_
    rintro e w9 ⟨rfl, hb⟩
    replace K := hide (btrans K.out hb)
    clear hb
    go_wp2
    go_ret
    exact ⟨rfl, K.out⟩
  · have d10 := decide_eq_false h10
    rw [d10] at C0
    clear h10 d10
    go_enter Try.func5, Try.ntmps5
    go_upto_region 1 with fail
    rw [← hg5, ← hg4, ← hW0]
    clear hg5 hg4 hW0
    go_wp2_with (go_at_call 11; refine (C0.out _).mono ?_; rintro e w' ⟨rfl, rfl⟩)
    refine (AWK.out _).mono ?_
    rintro e w1 ⟨rfl, hb⟩
    go_wp2
    go_ret
    exact ⟨rfl, btrans K.out hb⟩
end Go.Proofs.Ytiopfeleaifpbaa.Bd
