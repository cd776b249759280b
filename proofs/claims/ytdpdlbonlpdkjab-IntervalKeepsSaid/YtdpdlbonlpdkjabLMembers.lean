import Derived.Test.YtdpdlbonlpdkjabAwake
namespace Go.Proofs.Ytdpdlbonlpdkjab.Iv
open Go Go.RowKit
set_option linter.unusedVariables false
theorem sound_is (A : Option Addr) (L : IL) (c : Nat) (b : Bool) (w : World) (hr : Iv w A L) (hn : L.length ≤ 2000) (h : decide (chk L = 0) = b) :
    Calls Try.prog 32 #[.slice A L.length c] w fun e w' => e = .returned (.bool b) ∧ Below w.heap.size w w' := by
  have := sound_any A L c w hr (by omega)
  rwa [h] at this
theorem sound_mine {R : IL} (ha : asc (edges R)) (hl : R.length ≤ 2000) (A : Option Addr) (c : Nat) (w : World) (hr : Iv w A R) (hn : R.length ≤ 2000) :
    Calls Try.prog 32 #[.slice A R.length c] w fun e w' => e = .returned (.bool true) ∧ Below w.heap.size w w' :=
  sound_is A R c true w hr hn (decide_eq_true (chk_ok.2 ha))
theorem in_is (A : Option Addr) (L : IL) (c : Nat) (n : Int) (b : Bool) (w : World) (hr : Iv w A L) (hn : L.length ≤ 2000) (h : mem L n = b) :
    Calls Try.prog 33 #[.slice A L.length c, .int .i64 n] w fun e w' => e = .returned (.bool b) ∧ Below w.heap.size w w' := by
  have := in_any A L c n w hr (by omega)
  rwa [h] at this
theorem contains_is (A : Option Addr) (L : IL) (c : Nat) (n : Int) (b : Bool) (w : World) (hr : Iv w A L) (hn : L.length ≤ 2000) (ha : asc (edges L)) (h : mem L n = b) :
    Calls Try.prog 15 #[.slice A L.length c, .int .i64 n] w fun e w' => e = .returned (.bool b) ∧ Below w.heap.size w w' := by
  have := contains_any A L c n w hr (by omega)
  rwa [h, decide_eq_true (chk_ok.2 ha), Bool.true_and] at this
theorem few_is (A B : Option Addr) (n m c d : Nat) (b : Bool) (w : World) (hn : n ≤ 9223372036854775807) (hm : m ≤ 9223372036854775807) (h : (decide (n ≤ 12) && decide (m ≤ 12)) = b) :
    Calls Try.prog 11 #[.slice A n c, .slice B m d] w fun e w' => e = .returned (.bool b) ∧ w = w' := by
  have := few_any A B n m c d w hn hm
  rwa [h] at this
set_option maxHeartbeats 2000000 in
theorem members_good (A B : Option Addr) (L M : IL) (c d : Nat) (n : Int) (w : World) (hr : Iv w A L) (hs : Iv w B M) (hl : L.length ≤ 12) (hm : M.length ≤ 12) (h1 : chk L = 0) (h2 : chk M = 0) (x y : Bool) (hx : mem L n = x) (hy : mem M n = y) :
    Calls Try.prog 7 #[.slice A L.length c, .slice B M.length d, .int .i64 n] w fun e w' => e = .returned (.bool true) ∧ Below w.heap.size w w' := by
  have HF := hide (few_is A B L.length M.length c d true w (by omega) (by omega) (by simp [hl, hm]))
  have S1 := hide (fun W (hb : Below w.heap.size w W) => sound_is A L c true W (hr.below hb) (by omega) (decide_eq_true h1))
  have S2 := hide (fun W (hb : Below w.heap.size w W) => sound_is B M d true W (hs.below hb) (by omega) (decide_eq_true h2))
  have U := hide (fun W (hb : Below w.heap.size w W) => union_ok A B L M c d W (hr.below hb) (hs.below hb) (by omega) (by omega) h1 h2)
  have V := hide (fun W (hb : Below w.heap.size w W) => inter_ok A B L M c d W (hr.below hb) (hs.below hb) (by omega) (by omega) h1 h2)
  have D := hide (fun W (hb : Below w.heap.size w W) => subtract_ok A B L M c d W (hr.below hb) (hs.below hb) (by omega) (by omega) h1 h2)
  have I1 := hide (fun W (hb : Below w.heap.size w W) => in_is A L c n x W (hr.below hb) (by omega) hx)
  have I2 := hide (fun W (hb : Below w.heap.size w W) => in_is B M d n y W (hs.below hb) (by omega) hy)
  have HX := hide hx
  have HY := hide hy
  clear hr hs h1 h2 hx hy
  cases x <;> cases y
  all_goals
    go_enter Try.func7, Try.ntmps7
    go_wp2_with fail
    refine (HF.out).mono ?_
    rintro e w' ⟨rfl, rfl⟩
    go_wp2_with fail
    refine (S1.out _ (brefl _)).mono ?_
    rintro e w1 ⟨rfl, hb1⟩
    have K := hide hb1
    clear hb1
    go_wp2_with fail
    refine (S2.out _ K.out).mono ?_
    rintro e w2 ⟨rfl, hb2⟩
    replace K := hide (btrans K.out hb2)
    clear hb2
    go_wp2_with fail
    refine (U.out _ K.out).mono ?_
    rintro e w3 ⟨A3, c3, R3, rfl, ha3, hm3, hl3, hmine3, hb3⟩
    replace K := hide (btrans K.out hb3)
    have Q3 := hide hmine3.iv
    have E3 := hide (And.intro ha3 (And.intro hm3 hl3))
    clear ha3 hm3 hl3 hmine3 hb3
    go_wp2_with fail
    refine (V.out _ K.out).mono ?_
    rintro e w4 ⟨A4, c4, R4, rfl, ha4, hm4, hl4, hmine4, hb4⟩
    replace K := hide (btrans K.out hb4)
    replace Q3 := hide (Q3.out.below hb4)
    have Q4 := hide hmine4.iv
    have E4 := hide (And.intro ha4 (And.intro hm4 hl4))
    clear ha4 hm4 hl4 hmine4 hb4
    go_wp2_with fail
    refine (D.out _ K.out).mono ?_
    rintro e w5 ⟨A5, c5, R5, rfl, ha5, hm5, hl5, hmine5, hb5⟩
    replace K := hide (btrans K.out hb5)
    replace Q3 := hide (Q3.out.below hb5)
    replace Q4 := hide (Q4.out.below hb5)
    have Q5 := hide hmine5.iv
    have E5 := hide (And.intro ha5 (And.intro hm5 hl5))
    clear ha5 hm5 hl5 hmine5 hb5
    go_wp2_with fail
    refine (sound_is A3 R3 c3 true _ Q3.out (E3.out.2.2) (decide_eq_true (chk_ok.2 E3.out.1))).mono ?_
    rintro e w6 ⟨rfl, hb6⟩
    replace K := hide (btrans K.out hb6)
    replace Q3 := hide (Q3.out.below hb6)
    replace Q4 := hide (Q4.out.below hb6)
    replace Q5 := hide (Q5.out.below hb6)
    clear hb6
    go_wp2_with fail
    refine (sound_is A4 R4 c4 true _ Q4.out (E4.out.2.2) (decide_eq_true (chk_ok.2 E4.out.1))).mono ?_
    rintro e w7 ⟨rfl, hb7⟩
    replace K := hide (btrans K.out hb7)
    replace Q3 := hide (Q3.out.below hb7)
    replace Q4 := hide (Q4.out.below hb7)
    replace Q5 := hide (Q5.out.below hb7)
    clear hb7
    go_wp2_with fail
    refine (sound_is A5 R5 c5 true _ Q5.out (E5.out.2.2) (decide_eq_true (chk_ok.2 E5.out.1))).mono ?_
    rintro e w8 ⟨rfl, hb8⟩
    replace K := hide (btrans K.out hb8)
    replace Q3 := hide (Q3.out.below hb8)
    replace Q4 := hide (Q4.out.below hb8)
    replace Q5 := hide (Q5.out.below hb8)
    clear hb8
    go_wp2_with fail
    refine (I1.out _ K.out).mono ?_
    rintro e w9 ⟨rfl, hb9⟩
    replace K := hide (btrans K.out hb9)
    replace Q3 := hide (Q3.out.below hb9)
    replace Q4 := hide (Q4.out.below hb9)
    replace Q5 := hide (Q5.out.below hb9)
    clear hb9
    go_wp2_with fail
    refine (I2.out _ K.out).mono ?_
    rintro e w10 ⟨rfl, hb10⟩
    replace K := hide (btrans K.out hb10)
    replace Q3 := hide (Q3.out.below hb10)
    replace Q4 := hide (Q4.out.below hb10)
    replace Q5 := hide (Q5.out.below hb10)
    clear hb10
    go_wp2_with fail
    refine (in_is A3 R3 c3 n _ _ Q3.out (E3.out.2.2) (by rw [E3.out.2.1, HX.out, HY.out])).mono ?_
    rintro e w11 ⟨rfl, hb11⟩
    replace K := hide (btrans K.out hb11)
    replace Q3 := hide (Q3.out.below hb11)
    replace Q4 := hide (Q4.out.below hb11)
    replace Q5 := hide (Q5.out.below hb11)
    clear hb11
    go_wp2_with fail
    refine (in_is A4 R4 c4 n _ _ Q4.out (E4.out.2.2) (by rw [E4.out.2.1, HX.out, HY.out])).mono ?_
    rintro e w12 ⟨rfl, hb12⟩
    replace K := hide (btrans K.out hb12)
    replace Q3 := hide (Q3.out.below hb12)
    replace Q4 := hide (Q4.out.below hb12)
    replace Q5 := hide (Q5.out.below hb12)
    clear hb12
    go_wp2_with fail
    refine (in_is A5 R5 c5 n _ _ Q5.out (E5.out.2.2) (by rw [E5.out.2.1, HX.out, HY.out])).mono ?_
    rintro e w13 ⟨rfl, hb13⟩
    replace K := hide (btrans K.out hb13)
    replace Q3 := hide (Q3.out.below hb13)
    replace Q4 := hide (Q4.out.below hb13)
    replace Q5 := hide (Q5.out.below hb13)
    clear hb13
    go_wp2_with fail
    refine (contains_is A3 R3 c3 n _ _ Q3.out (E3.out.2.2) E3.out.1 (by rw [E3.out.2.1, HX.out, HY.out])).mono ?_
    rintro e w14 ⟨rfl, hb14⟩
    replace K := hide (btrans K.out hb14)
    replace Q3 := hide (Q3.out.below hb14)
    replace Q4 := hide (Q4.out.below hb14)
    replace Q5 := hide (Q5.out.below hb14)
    clear hb14
    go_wp2_with fail
    refine (awake _).mono ?_
    rintro e w15 ⟨rfl, hb15⟩
    replace K := hide (btrans K.out hb15)
    replace Q3 := hide (Q3.out.below hb15)
    replace Q4 := hide (Q4.out.below hb15)
    replace Q5 := hide (Q5.out.below hb15)
    clear hb15
    go_wp2_with fail
    go_ret
    exact ⟨rfl, K.out⟩
theorem members_bad (A B : Option Addr) (L M : IL) (c d : Nat) (n : Int) (w : World) (hr : Iv w A L) (hs : Iv w B M) (hl : L.length ≤ 9223372036854775807) (hm : M.length ≤ 9223372036854775807) (h : ¬ (L.length ≤ 12 ∧ M.length ≤ 12 ∧ chk L = 0 ∧ chk M = 0)) :
    Calls Try.prog 7 #[.slice A L.length c, .slice B M.length d, .int .i64 n] w fun e w' => e = .returned (.bool true) ∧ Below w.heap.size w w' := by
  by_cases h1 : L.length ≤ 12 ∧ M.length ≤ 12
  · have HF := hide (few_is A B L.length M.length c d true w (by omega) (by omega) (by simp [h1.1, h1.2]))
    by_cases h2 : chk L = 0
    · have h3 : ¬ chk M = 0 := fun e => h ⟨h1.1, h1.2, h2, e⟩
      have S1 := hide (sound_is A L c true w hr (by omega) (decide_eq_true h2))
      have S2 := hide (fun W (hb : Below w.heap.size w W) => sound_is B M d false W (hs.below hb) (by omega) (decide_eq_false h3))
      clear hr hs h h1 h2 h3
      go_enter Try.func7, Try.ntmps7
      go_wp2_with fail
      refine HF.out.mono ?_
      rintro e w' ⟨rfl, rfl⟩
      go_wp2_with fail
      refine S1.out.mono ?_
      rintro e w1 ⟨rfl, hb1⟩
      have K := hide hb1
      clear hb1
      go_wp2_with fail
      refine (S2.out _ K.out).mono ?_
      rintro e w2 ⟨rfl, hb2⟩
      replace K := hide (btrans K.out hb2)
      clear hb2
      go_wp2_with fail
      refine (awake _).mono ?_
      rintro e w3 ⟨rfl, hb3⟩
      replace K := hide (btrans K.out hb3)
      clear hb3
      go_wp2_with fail
      go_ret
      exact ⟨rfl, K.out⟩
    · have S1 := hide (sound_is A L c false w hr (by omega) (decide_eq_false h2))
      clear hr hs h h1 h2
      go_enter Try.func7, Try.ntmps7
      go_wp2_with fail
      refine HF.out.mono ?_
      rintro e w' ⟨rfl, rfl⟩
      go_wp2_with fail
      refine S1.out.mono ?_
      rintro e w1 ⟨rfl, hb1⟩
      have K := hide hb1
      clear hb1
      go_wp2_with fail
      refine (awake _).mono ?_
      rintro e w3 ⟨rfl, hb3⟩
      replace K := hide (btrans K.out hb3)
      clear hb3
      go_wp2_with fail
      go_ret
      exact ⟨rfl, K.out⟩
  · have HF := hide (few_is A B L.length M.length c d false w (by omega) (by omega) (by
      rw [Bool.eq_false_iff]; intro e; simp at e; exact h1 e))
    clear hr hs h h1
    go_enter Try.func7, Try.ntmps7
    go_wp2_with fail
    refine HF.out.mono ?_
    rintro e w' ⟨rfl, rfl⟩
    go_wp2_with fail
    refine (awake _).mono ?_
    rintro e w3 ⟨rfl, hb3⟩
    have K := hide hb3
    clear hb3
    go_wp2_with fail
    go_ret
    exact ⟨rfl, K.out⟩
theorem law_members (A B : Option Addr) (L M : IL) (c d : Nat) (n : Int) (w : World) (hr : Iv w A L) (hs : Iv w B M) (hl : L.length ≤ 9223372036854775807) (hm : M.length ≤ 9223372036854775807) :
    Calls Try.prog 7 #[.slice A L.length c, .slice B M.length d, .int .i64 n] w fun e w' => e = .returned (.bool true) ∧ Below w.heap.size w w' := by
  by_cases h : L.length ≤ 12 ∧ M.length ≤ 12 ∧ chk L = 0 ∧ chk M = 0
  · exact members_good A B L M c d n w hr hs h.1 h.2.1 h.2.2.1 h.2.2.2 _ _ rfl rfl
  · exact members_bad A B L M c d n w hr hs hl hm h
end Go.Proofs.Ytdpdlbonlpdkjab.Iv
