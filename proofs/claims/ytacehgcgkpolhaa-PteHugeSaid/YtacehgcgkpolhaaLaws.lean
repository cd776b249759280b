import Derived.Test.YtacehgcgkpolhaaAwake
namespace Go.Proofs.Ytacehgcgkpolhaa.Pt
open Go Go.RowKit
set_option linter.unusedVariables false
def True1 (w : World) (e : Ending) (w' : World) : Prop := e = .returned (.bool true) ∧ Below w.heap.size w w'
set_option maxHeartbeats 1000000 in
theorem law_encodes (k n : Int) (wr ac di hu : Bool) (w : World) : Calls Try.prog 3 #[.agg #[.int .i64 k, .int .i64 n, .bool wr, .bool ac, .bool di, .bool hu]] w (True1 w) := by
  have X := hide (Ent.new w k n wr ac di hu)
  obtain ⟨a, ha⟩ : ∃ a, a = word k n wr ac di hu := ⟨_, rfl⟩
  obtain ⟨b, hb⟩ : ∃ b, b = err k n wr ac di hu := ⟨_, rfl⟩
  have H1 := hide (enc_two k n wr ac di hu)
  have H2 := hide (renc_two k n wr ac di hu)
  rw [← ha, ← hb] at H1 H2
  clear ha hb
  go_enter Try.func3, Try.ntmps3
  go_wp2_with fail
  refine (H1.out _).mono ?_
  rintro e w1 ⟨rfl, hb1⟩
  obtain ⟨x0, x1, x2, x3, x4, x5⟩ := Ent.cells (X.out.below hb1)
  have K := hide (btrans (bal (brefl w) _) hb1)
  clear hb1
  go_wp2_with fail
  refine (H2.out _).mono ?_
  rintro e w2 ⟨rfl, hb1⟩
  replace K := hide (btrans K.out hb1)
  clear hb1 x0 x1 x2 x3 x4 x5
  go_wp2_with fail
  refine (awake _).mono ?_
  rintro e w3 ⟨rfl, hb1⟩
  replace K := hide (btrans K.out hb1)
  clear hb1
  go_wp2_with fail
  go_ret
  exact ⟨rfl, K.out⟩
set_option maxHeartbeats 1000000 in
theorem decodes_at (W : Int) (w : World) (k n e : Int) (wr ac di hu : Bool)
    (h15 : ∀ w, Calls Try.prog 15 #[.int .u64 W] w fun en w' => en = .returned (.tuple #[.agg #[.int .i64 k, .int .i64 n, .bool wr, .bool ac, .bool di, .bool hu], .int .i64 e]) ∧ Below w.heap.size w w')
    (h16 : ∀ w, Calls Try.prog 16 #[.int .u64 W] w fun en w' => en = .returned (.tuple #[.agg #[.int .i64 k, .int .i64 n, .bool wr, .bool ac, .bool di, .bool hu], .int .i64 e]) ∧ Below w.heap.size w w') :
    Calls Try.prog 4 #[.int .u64 W] w (True1 w) := by
  have H1 := hide h15
  have H2 := hide h16
  clear h15 h16
  go_enter Try.func4, Try.ntmps4
  go_wp2_with fail
  refine (H1.out _).mono ?_
  rintro en w1 ⟨rfl, hb1⟩
  have K := hide hb1
  clear hb1
  go_wp2_with fail
  refine (H2.out _).mono ?_
  rintro en w2 ⟨rfl, hb1⟩
  have X := hide (Ent.below (Ent.new w1 k n wr ac di hu) hb1)
  have L := hide (Ent.lt X.out)
  replace K := hide (btrans (bal K.out _) hb1)
  clear hb1
  have y := L.out
  obtain ⟨x0, x1, x2, x3, x4, x5⟩ := Ent.cells X.out
  go_wp2_with fail
  refine (awake _).mono ?_
  rintro en w3 ⟨rfl, hb1⟩
  replace K := hide (btrans (bal K.out _) hb1)
  clear hb1 x0 x1 x2 x3 x4 x5
  go_wp2_with fail
  go_ret
  exact ⟨rfl, K.out⟩
theorem law_decodes (W : Int) (w : World) (h0 : 0 ≤ W) (h1 : W < 18446744073709551616) : Calls Try.prog 4 #[.int .u64 W] w (True1 w) := by
  cases h : good W
  · exact decodes_at W w _ _ _ _ _ _ _ (fun w => dec_bad W w h0 h1 h) (fun w => rdec_bad W w h0 h1 h)
  · exact decodes_at W w _ _ _ _ _ _ _ (fun w => dec_good W w h0 h1 h) (fun w => rdec_good W w h0 h1 h)
theorem mem1 {x : Int} : x ∈ ([1] : List Int) ↔ x = 1 := by simp
theorem mem13 {x : Int} : x ∈ ([1, 3] : List Int) ↔ x = 1 ∨ x = 3 := by simp
theorem mark_both (W : Int) (b : Bool) (h0 : 0 ≤ W) (h1 : W < 18446744073709551616) : ∃ a e, Two 17 #[.int .u64 W, .bool b] a e ∧ Two 18 #[.int .u64 W, .bool b] a e := by
  cases h : good W
  · exact ⟨_, _, mark_bad W h0 h1 b h, rmark_bad W h0 h1 b h⟩
  by_cases hk : uk W = 1
  · cases b
    · exact ⟨_, _, mark_read W h0 h1 h (mem1.2 hk), rmark_read W h0 h1 h hk⟩
    · cases hw : f3 W
      · exact ⟨_, _, mark_access W h0 h1 h (mem1.2 hk) hw, rmark_access W h0 h1 h hk hw⟩
      · exact ⟨_, _, mark_write W h0 h1 h (mem1.2 hk) hw, rmark_write W h0 h1 h hk hw⟩
  · exact ⟨_, _, mark_kind W h0 h1 b h (fun m => hk (mem1.1 m)), rmark_kind W h0 h1 b h hk⟩
theorem old_both (W : Int) (h0 : 0 ≤ W) (h1 : W < 18446744073709551616) : ∃ a e, Two 19 #[.int .u64 W] a e ∧ Two 20 #[.int .u64 W] a e := by
  cases h : good W
  · exact ⟨_, _, old_bad W h0 h1 h, rold_bad W h0 h1 h⟩
  by_cases hk : uk W = 1
  · exact ⟨_, _, old_ok W h0 h1 h (mem1.2 hk), rold_ok W h0 h1 h hk⟩
  · exact ⟨_, _, old_kind W h0 h1 h (fun m => hk (mem1.1 m)), rold_kind W h0 h1 h hk⟩
theorem prot_both (W : Int) (h0 : 0 ≤ W) (h1 : W < 18446744073709551616) : ∃ a e, Two 21 #[.int .u64 W] a e ∧ Two 22 #[.int .u64 W] a e := by
  cases h : good W
  · exact ⟨_, _, prot_bad W h0 h1 h, rprot_bad W h0 h1 h⟩
  by_cases hk : uk W = 1
  · exact ⟨_, _, prot_ok W h0 h1 h (mem13.2 (.inl hk)), rprot_page W h0 h1 h hk⟩
  by_cases hk3 : uk W = 3
  · exact ⟨_, _, prot_ok W h0 h1 h (mem13.2 (.inr hk3)), rprot_move W h0 h1 h hk3⟩
  · exact ⟨_, _, prot_kind W h0 h1 h (fun m => by rcases mem13.1 m with m | m <;> omega), rprot_kind W h0 h1 h (by omega)⟩
theorem part_both (W i : Int) (h0 : 0 ≤ W) (h1 : W < 18446744073709551616) : ∃ a e, Two 23 #[.int .u64 W, .int .i64 i] a e ∧ Two 24 #[.int .u64 W, .int .i64 i] a e := by
  cases h : good W
  · exact ⟨_, _, part_bad W i h0 h1 h, rpart_bad W i h0 h1 h⟩
  cases hu : f6 W
  · exact ⟨_, _, part_state W i h0 h1 h hu, rpart_state W i h0 h1 h hu⟩
  by_cases hi : i < 0
  · exact ⟨_, _, part_low W i h0 h1 h hu hi, rpart_low W i h0 h1 h hu hi⟩
  by_cases hi8 : 8 ≤ i
  · exact ⟨_, _, part_high W i h0 h1 h hu hi8, rpart_high W i h0 h1 h hu hi8⟩
  · exact ⟨_, _, part_ok W i h0 h1 h hu (by omega) (by omega), rpart_ok W i h0 h1 h hu (by omega) (by omega)⟩
set_option maxHeartbeats 1000000 in
theorem law_marks (W : Int) (b : Bool) (w : World) (h0 : 0 ≤ W) (h1 : W < 18446744073709551616) : Calls Try.prog 5 #[.int .u64 W, .bool b] w (True1 w) := by
  obtain ⟨a1, e1, p1, q1⟩ := mark_both W b h0 h1
  obtain ⟨a2, e2, p2, q2⟩ := old_both W h0 h1
  obtain ⟨a3, e3, p3, q3⟩ := prot_both W h0 h1
  have P1 := hide p1
  have P2 := hide p2
  have P3 := hide p3
  have Q1 := hide q1
  have Q2 := hide q2
  have Q3 := hide q3
  clear p1 p2 p3 q1 q2 q3
  have K := hide (brefl w)
  go_enter Try.func5, Try.ntmps5
  go_wp2_with fail
  refine (P1.out _).mono ?_
  rintro en w1 ⟨rfl, hb1⟩
  replace K := hide (btrans K.out hb1)
  clear hb1
  go_wp2_with fail
  refine (Q1.out _).mono ?_
  rintro en w2 ⟨rfl, hb1⟩
  replace K := hide (btrans K.out hb1)
  clear hb1
  go_wp2_with fail
  refine (P2.out _).mono ?_
  rintro en w3 ⟨rfl, hb1⟩
  replace K := hide (btrans K.out hb1)
  clear hb1
  go_wp2_with fail
  refine (Q2.out _).mono ?_
  rintro en w4 ⟨rfl, hb1⟩
  replace K := hide (btrans K.out hb1)
  clear hb1
  go_wp2_with fail
  refine (P3.out _).mono ?_
  rintro en w5 ⟨rfl, hb1⟩
  replace K := hide (btrans K.out hb1)
  clear hb1
  go_wp2_with fail
  refine (Q3.out _).mono ?_
  rintro en w6 ⟨rfl, hb1⟩
  replace K := hide (btrans K.out hb1)
  clear hb1
  go_wp2_with fail
  refine (awake _).mono ?_
  rintro en w7 ⟨rfl, hb1⟩
  replace K := hide (btrans K.out hb1)
  clear hb1
  go_wp2_with fail
  go_ret
  exact ⟨rfl, K.out⟩
set_option maxHeartbeats 1000000 in
theorem law_parts (W i : Int) (w : World) (h0 : 0 ≤ W) (h1 : W < 18446744073709551616) : Calls Try.prog 6 #[.int .u64 W, .int .i64 i] w (True1 w) := by
  obtain ⟨a1, e1, p1, q1⟩ := part_both W i h0 h1
  have P1 := hide p1
  have Q1 := hide q1
  clear p1 q1
  have K := hide (brefl w)
  go_enter Try.func6, Try.ntmps6
  go_wp2_with fail
  refine (P1.out _).mono ?_
  rintro en w1 ⟨rfl, hb1⟩
  replace K := hide (btrans K.out hb1)
  clear hb1
  go_wp2_with fail
  refine (Q1.out _).mono ?_
  rintro en w2 ⟨rfl, hb1⟩
  replace K := hide (btrans K.out hb1)
  clear hb1
  go_wp2_with fail
  refine (awake _).mono ?_
  rintro en w7 ⟨rfl, hb1⟩
  replace K := hide (btrans K.out hb1)
  clear hb1
  go_wp2_with fail
  go_ret
  exact ⟨rfl, K.out⟩
end Go.Proofs.Ytacehgcgkpolhaa.Pt
