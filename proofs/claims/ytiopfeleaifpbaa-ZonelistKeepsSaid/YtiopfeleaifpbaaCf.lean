import Derived.Test.YtiopfeleaifpbaaZx
import Derived.Test.YtiopfeleaifpbaaRc
namespace Go.Proofs.Ytiopfeleaifpbaa.Bd
open Go Go.RowKit
set_option linter.unusedVariables false
set_option linter.unusedSimpArgs false
set_option maxRecDepth 100000 in
set_option maxHeartbeats 4000000 in
/-- the predicate 'the zone lies on this node' -/
theorem pred_any (a b c d e : Int) (s0 s1 s2 s3 s4 : Value) (g : Nat) (n : Int) (w : World)
    (f : ∃ A0 n0 c0 A1 n1 c1 A2 n2 c2 A3 n3 c3 A4 n4 c4, s0 = .slice A0 n0 c0 ∧ s1 = .slice A1 n1 c1 ∧ s2 = .slice A2 n2 c2 ∧ s3 = .slice A3 n3 c3 ∧ s4 = .slice A4 n4 c4)
    (hX : Box w g 3 #[.int .i64 n]) : Calls Try.prog 26 #[.agg #[.int .i64 a, .int .i64 b, .int .i64 c, .int .i64 d, .int .i64 e, s0, s1, s2, s3, s4], .pointer (some ⟨g, 0, none⟩)] w fun r w' => r = .returned (.bool (decide (a = n))) ∧ Below w.heap.size w w' := by
  obtain ⟨A0, n0, c0, A1, n1, c1, A2, n2, c2, A3, n3, c3, A4, n4, c4, rfl, rfl, rfl, rfl, rfl⟩ := f
  have x : w.cell? ⟨g, 0, none⟩ = some (.int .i64 n) := hX.cell 0
  have hg : g < w.heap.size := hX.lt
  have M := hide (bal (brefl w) (.cells #[.int .i64 a, .int .i64 b, .int .i64 c, .int .i64 d, .int .i64 e, .slice A0 n0 c0, .slice A1 n1 c1, .slice A2 n2 c2, .slice A3 n3 c3, .slice A4 n4 c4] 41))
  clear hX
  by_cases hq : a = n
  · subst hq
    go_enter Try.func26, Try.ntmps26
    go_wp2
    go_ret
    exact ⟨ret_bool (by simp), M.out⟩
  · have dq : (a == n) = false := by simpa using hq
    have dd := decide_eq_false hq
    clear hq
    go_enter Try.func26, Try.ntmps26
    go_wp2
    go_ret
    exact ⟨ret_bool (by rw [dd]), M.out⟩
set_option maxRecDepth 100000 in
set_option maxHeartbeats 8000000 in
theorem idx_any (A : Option Addr) (cp : Nat) (Z : List Zo) (g : Nat) (n : Int) (w : World) (hr : Zs w A Z) (hz : ZIs w Z) (hn : Z.length ≤ 9223372036854775807) (hX : Box w g 3 #[.int .i64 n]) :
    Calls Try.prog 43 #[.slice A Z.length cp, .func (.func 26) #[] #[.pointer (some ⟨g, 0, none⟩)]] w fun e w' => (∃ i : Int, e = .returned (.int .i64 i) ∧ decide (0 ≤ i) = hs Z n) ∧ Below w.heap.size w w' := by
  have HR := hide hr
  have HZ := hide hz
  have HX := hide hX
  have K0 := hide (brefl w)
  have eg : ∀ args w, (callFunc 26 args).run Try.prog w = .ok (.enter 26 args) w := Go.Proofs.enters_of Try.func26 (by kernel_rfl) rfl
  clear hr hz hX
  go_enter Try.func43, Try.ntmps43
  go_wp2
  go_loopw [5, 8] (fun _ c wr => ∃ k : Nat, k ≤ Z.length ∧ c = .int .i64 k ∧ Hid (Below w.heap.size w wr) ∧ Hid (∀ j, j < k → nd Z j ≠ n)) (fun _ c _ => Z.length - (intOf c).toNat)
  case atStart => exact ⟨0, Nat.zero_le _, rfl, K0, hide (fun j h => by omega)⟩
  case round =>
    clear K0
    obtain ⟨k, hk, rfl, K, N⟩ := hrel
    by_cases hlt : k < Z.length
    · have hl2 : (k : Int) < (Z.length : Int) := by omega
      have hk0 : (0 : Int) ≤ (k : Int) := by omega
      obtain ⟨b, off, rfl, hbl, hcs⟩ := HR.out.cells K.out hlt
      obtain ⟨A0, c0, A1, c1, A2, c2, A3, c3, A4, c4, e0, e1, e2, e3, e4⟩ := (HZ.out k hlt).forms
      have YES := hide (fun (h : nd Z k = n) => hs_yes hlt h)
      have NO := hide (fun (h : nd Z k ≠ n) => no_next N.out h)
      have en : nd Z k = (zAt Z k).p.nd := rfl
      rw [en] at YES NO
      clear en
      have y0 := hcs 0 (by omega); have y1 := hcs 1 (by omega); have y2 := hcs 2 (by omega); have y3 := hcs 3 (by omega); have y4 := hcs 4 (by omega)
      have y5 := hcs 5 (by omega); have y6 := hcs 6 (by omega); have y7 := hcs 7 (by omega); have y8 := hcs 8 (by omega); have y9 := hcs 9 (by omega)
      generalize (zAt Z k).L = L at *
      generalize (zAt Z k).p = p at *
      generalize (zAt Z k).v = v at *
      unfold znC at y0 y1 y2 y3 y4 y5 y6 y7 y8 y9
      rw [e0, e1, e2, e3, e4] at y0 y1 y2 y3 y4 y5 y6 y7 y8 y9
      simp at y0 y1 y2 y3 y4 y5 y6 y7 y8 y9
      generalize (L 0).length = n0 at *
      generalize (L 1).length = n1 at *
      generalize (L 2).length = n2 at *
      generalize (L 3).length = n3 at *
      generalize (L 4).length = n4 at *
      clear hcs e0 e1 e2 e3 e4 N
      obtain ⟨nd, kd, st, ct, mn⟩ := p
      simp only at y0 y1 y2 y3 y4 YES NO
      have C := hide (pred_any nd kd st ct mn (.slice A0 n0 c0) (.slice A1 n1 c1) (.slice A2 n2 c2) (.slice A3 n3 c3) (.slice A4 n4 c4) g n wr ⟨A0, n0, c0, A1, n1, c1, A2, n2, c2, A3, n3, c3, A4, n4, c4, rfl, rfl, rfl, rfl, rfl⟩ (HX.out.below K.out))
      by_cases hq : nd = n
      · have R := hide (YES.out hq)
        rw [decide_eq_true hq] at C
        clear hq
        go_wp2_with fail
        refine C.out.mono ?_
        rintro e w' ⟨rfl, hb'⟩
        have KB := hide (btrans K.out hb')
        clear hb'
        go_wp2
        go_ret
        exact ⟨⟨_, rfl, by rw [R.out]; simp⟩, KB.out⟩
      · have R := hide (NO.out hq)
        rw [decide_eq_false hq] at C
        clear hq
        go_wp2_with fail
        refine C.out.mono ?_
        rintro e w' ⟨rfl, hb'⟩
        have KB := hide (btrans K.out hb')
        clear hb'
        go_wp2_with fail
        go_roundw
        case rel => exact ⟨k + 1, by omega, by go_num, KB, R⟩
        case measure => simp [intOf]; omega
    · obtain rfl : k = Z.length := by omega
      have E := hide (hs_no N.out)
      go_wp2
      go_ret
      exact ⟨⟨_, rfl, by rw [E.out]; decide⟩, K.out⟩
theorem cont_any (A : Option Addr) (cp : Nat) (Z : List Zo) (g : Nat) (n : Int) (w : World) (hr : Zs w A Z) (hz : ZIs w Z) (hn : Z.length ≤ 9223372036854775807) (hX : Box w g 3 #[.int .i64 n]) :
    Calls Try.prog 25 #[.slice A Z.length cp, .func (.func 26) #[] #[.pointer (some ⟨g, 0, none⟩)]] w fun e w' => e = .returned (.bool (hs Z n)) ∧ Below w.heap.size w w' := by
  have H := hide (idx_any A cp Z g n w hr hz hn hX)
  clear hr hz hX
  go_enter Try.func25, Try.ntmps25
  go_wp2_with fail
  refine H.out.mono ?_
  rintro e w1 ⟨⟨i, rfl, hi⟩, hb1⟩
  have K := hide hb1
  have I := hide hi
  clear hb1 hi
  go_wp2
  go_ret
  exact ⟨ret_bool (by rw [← I.out]), K.out⟩
end Go.Proofs.Ytiopfeleaifpbaa.Bd
