import Derived.Test.YtdpdlbonlpdkjabAwake
namespace Go.Proofs.Ytdpdlbonlpdkjab.Iv
open Go Go.RowKit
set_option linter.unusedVariables false
theorem few_lit (A : Option Addr) (n c : Nat) (b : Bool) (w : World) (hn : n ≤ 9223372036854775807) (h : decide (n ≤ 12) = b) :
    Calls Try.prog 11 #[.slice A n c, .slice none 0 0] w fun e w' => e = .returned (.bool b) ∧ w = w' := by
  have := few_any A none n 0 c 0 w hn (by omega)
  rw [h] at this
  simpa using this
set_option maxHeartbeats 1000000 in
theorem law_checks (A : Option Addr) (L : IL) (c : Nat) (n : Int) (w : World) (hr : Iv w A L) (hl : L.length ≤ 9223372036854775807) :
    Calls Try.prog 3 #[.slice A L.length c, .int .i64 n] w fun e w' => e = .returned (.bool true) ∧ Below w.heap.size w w' := by
  by_cases h12 : L.length ≤ 12
  · have HF := hide (few_lit A L.length c true w hl (decide_eq_true h12))
    have H1 := hide (check_any A L c w hr (by omega))
    have H2 := hide (fun W (hb : Below w.heap.size w W) => rcheck_any A L c W (hr.below hb) (by omega))
    have H3 := hide (fun W (hb : Below w.heap.size w W) => contains_any A L c n W (hr.below hb) (by omega))
    have H4 := hide (fun W (hb : Below w.heap.size w W) => rcontains_any A L c n W (hr.below hb) (by omega))
    generalize (decide (chk L = 0) && mem L n) = v at *
    generalize chk L = x at *
    have r1 : (x == x) = true := by simp
    have r2 : (v == v) = true := by simp
    clear hr
    go_enter Try.func3, Try.ntmps3
    go_wp2_with fail
    refine HF.out.mono ?_
    rintro e w' ⟨rfl, rfl⟩
    go_wp2_with fail
    refine H1.out.mono ?_
    rintro e w1 ⟨rfl, hb1⟩
    have K := hide hb1
    clear hb1
    go_wp2_with fail
    refine (H2.out _ K.out).mono ?_
    rintro e w2 ⟨rfl, hb2⟩
    replace K := hide (btrans K.out hb2)
    clear hb2
    go_wp2_with fail
    refine (H3.out _ K.out).mono ?_
    rintro e w3 ⟨rfl, hb3⟩
    replace K := hide (btrans K.out hb3)
    clear hb3
    go_wp2_with fail
    refine (H4.out _ K.out).mono ?_
    rintro e w4 ⟨rfl, hb4⟩
    replace K := hide (btrans K.out hb4)
    clear hb4
    go_wp2_with fail
    refine (awake _).mono ?_
    rintro e w5 ⟨rfl, hb5⟩
    replace K := hide (btrans K.out hb5)
    clear hb5
    go_wp2_with fail
    go_ret
    exact ⟨rfl, K.out⟩
  · have HF := hide (few_lit A L.length c false w hl (decide_eq_false h12))
    clear hr
    go_enter Try.func3, Try.ntmps3
    go_wp2_with fail
    refine HF.out.mono ?_
    rintro e w' ⟨rfl, rfl⟩
    go_wp2_with fail
    refine (awake _).mono ?_
    rintro e w5 ⟨rfl, hb5⟩
    go_wp2_with fail
    go_ret
    exact ⟨rfl, hb5⟩
end Go.Proofs.Ytdpdlbonlpdkjab.Iv
