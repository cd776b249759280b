import Derived.Test.YtnegigcjeoenmaaRd1
namespace Go.Proofs.Ytnegigcjeoenmaa.Dv
open Go Go.RowKit
set_option linter.unusedVariables false
/-- the value of a device -/
abbrev dv (dep nxt : Int) (Ab : Option Addr) (nb cb : Nat) (Ac : Option Addr) (nc cc : Nat) (Aq : Option Addr) (nq cq : Nat) : Value := .agg #[.int .i64 dep, .int .i64 nxt, .slice Ab nb cb, .slice Ac nc cc, .slice Aq nq cq]
theorem isb_any (dep nxt : Int) (Ab : Option Addr) (nb cb : Nat) (vc vq : Value) (n : Int) (w : World) :
    Calls Try.prog 44 #[.agg #[.int .i64 dep, .int .i64 nxt, .slice Ab nb cb, vc, vq], .int .i64 n] w fun e w' => e = .returned (.bool (inB nb n)) ∧ Below w.heap.size w w' := by
  have K := hide (bal (brefl w) (.cells #[.int .i64 dep, .int .i64 nxt, .slice Ab nb cb, vc, vq] 28))
  by_cases h : 0 ≤ n
  · by_cases h2 : n < (nb : Int)
    · have e : inB nb n = true := by unfold inB; exact decide_eq_true ⟨h, h2⟩
      rw [e]
      have hd : decide (0 ≤ n) = true := decide_eq_true h
      clear e
      go_enter Try.func44, Try.ntmps44
      go_wp2
      go_ret
      exact ⟨ret_bool (by simp), K.out⟩
    · have e : inB nb n = false := by unfold inB; exact decide_eq_false (by omega)
      rw [e]
      have hd : decide (0 ≤ n) = true := decide_eq_true h
      clear e
      go_enter Try.func44, Try.ntmps44
      go_wp2
      go_ret
      exact ⟨ret_bool (by simp), K.out⟩
  · have e : inB nb n = false := by unfold inB; exact decide_eq_false (by omega)
    rw [e]
    have hd : decide (0 ≤ n) = false := decide_eq_false h
    clear e
    go_enter Try.func44, Try.ntmps44
    go_wp2
    go_ret
    exact ⟨ret_bool (by first | rfl | (simp; omega)), K.out⟩
theorem nopc_any (b : Int) (A : Option Addr) (l : By) (c : Nat) (w : World) : Calls Try.prog 59 #[.agg #[.int .i64 b, .slice A l.length c]] w fun e w' => e = .returned (.bool (noP l)) ∧ Below w.heap.size w w' := by
  have K := hide (bal (brefl w) (.cells #[.int .i64 b, .slice A l.length c] 64))
  have C := hide (fun w => nop_any A l c w)
  generalize l.length = m at *
  go_enter Try.func59, Try.ntmps59
  go_wp2_with fail
  refine (C.out _).mono ?_
  rintro e w' ⟨rfl, rfl⟩
  go_wp2
  go_ret
  exact ⟨rfl, K.out⟩
set_option maxHeartbeats 1000000 in
theorem idxC_hit (A : Option Addr) (L : List Ca) (c k0 : Nat) (w : World) (hr : RdC w A L) (hn : L.length ≤ 9223372036854775807) (hk0 : k0 < L.length) (hh : noP (cAt L k0).2 = true) (hbf : ∀ j, j < k0 → noP (cAt L j).2 = false) :
    Calls Try.prog 65 #[.slice A L.length c, .func (.func 59) #[] #[]] w fun e w' => e = .returned (.int .i64 k0) ∧ Below w.heap.size w w' := by
  have HR := hide hr
  have HH := hide hh
  have HB := hide hbf
  have eg := enters59
  unfold Enters at eg
  clear hr hh hbf
  go_enter Try.func65, Try.ntmps65
  go_wp2
  go_loopw [5, 8] (fun _ i wr => ∃ k : Nat, k ≤ k0 ∧ i = .int .i64 k ∧ Hid (Below w.heap.size w wr)) (fun _ i _ => L.length - (intOf i).toNat)
  case atStart => exact ⟨0, Nat.zero_le _, rfl, hide (brefl _)⟩
  case round =>
    obtain ⟨k, hk, rfl, K⟩ := hrel
    have hlt : k < L.length := by omega
    obtain ⟨b, off, v, rfl, hbl, c0, c1', A1, c1, rfl, _, _⟩ := HR.out.cells K.out hlt
    have C := hide (fun w => nopc_any (cAt L k).1 A1 (cAt L k).2 c1 w)
    by_cases e : k = k0
    · subst e
      rw [HH.out] at C
      generalize (cAt L k).2.length = m at *
      generalize (cAt L k).1 = z at *
      go_wp2_with fail
      refine (C.out _).mono ?_
      rintro e w' ⟨rfl, hb⟩
      have K2 := hide hb
      clear hb
      go_wp2
      go_ret
      exact ⟨rfl, btrans K.out K2.out⟩
    · rw [HB.out k (by omega)] at C
      generalize (cAt L k).2.length = m at *
      generalize (cAt L k).1 = z at *
      have hk2 : k < k0 := by omega
      clear e
      go_wp2_with fail
      refine (C.out _).mono ?_
      rintro e w' ⟨rfl, hb⟩
      have K2 := hide hb
      clear hb
      go_wp2
      go_roundw
      case rel => exact ⟨k + 1, by omega, by go_num, hide (btrans K.out K2.out)⟩
      case measure => simp [intOf]; omega
set_option maxHeartbeats 1000000 in
theorem idxC_miss (A : Option Addr) (L : List Ca) (c : Nat) (w : World) (hr : RdC w A L) (hn : L.length ≤ 9223372036854775807) (hbf : ∀ j, j < L.length → noP (cAt L j).2 = false) :
    Calls Try.prog 65 #[.slice A L.length c, .func (.func 59) #[] #[]] w fun e w' => e = .returned (.int .i64 (-1)) ∧ Below w.heap.size w w' := by
  have HR := hide hr
  have HB := hide hbf
  have eg := enters59
  unfold Enters at eg
  clear hr hbf
  go_enter Try.func65, Try.ntmps65
  go_wp2
  go_loopw [5, 8] (fun _ i wr => ∃ k : Nat, k ≤ L.length ∧ i = .int .i64 k ∧ Hid (Below w.heap.size w wr)) (fun _ i _ => L.length - (intOf i).toNat)
  case atStart => exact ⟨0, Nat.zero_le _, rfl, hide (brefl _)⟩
  case round =>
    obtain ⟨k, hk, rfl, K⟩ := hrel
    by_cases hlt : k < L.length
    · obtain ⟨b, off, v, rfl, hbl, c0, c1', A1, c1, rfl, _, _⟩ := HR.out.cells K.out hlt
      have C := hide (fun w => nopc_any (cAt L k).1 A1 (cAt L k).2 c1 w)
      rw [HB.out k (by omega)] at C
      generalize (cAt L k).2.length = m at *
      generalize (cAt L k).1 = z at *
      go_wp2_with fail
      refine (C.out _).mono ?_
      rintro e w' ⟨rfl, hb⟩
      have K2 := hide hb
      clear hb
      go_wp2
      go_roundw
      case rel => exact ⟨k + 1, by omega, by go_num, hide (btrans K.out K2.out)⟩
      case measure => simp [intOf]; omega
    · go_wp2
      go_ret
      exact ⟨rfl, K.out⟩
theorem contC_yes (A : Option Addr) (L : List Ca) (c k0 : Nat) (w : World) (hr : RdC w A L) (hn : L.length ≤ 9223372036854775807) (hk0 : k0 < L.length) (hh : noP (cAt L k0).2 = true) (hbf : ∀ j, j < k0 → noP (cAt L j).2 = false) :
    Calls Try.prog 58 #[.slice A L.length c, .func (.func 59) #[] #[]] w fun e w' => e = .returned (.bool true) ∧ Below w.heap.size w w' := by
  have C := hide (idxC_hit A L c k0 w hr hn hk0 hh hbf)
  have hz : (0 : Int) ≤ (k0 : Int) := by omega
  clear hr hn hh hbf hk0
  go_enter Try.func58, Try.ntmps58
  go_wp2_with fail
  refine C.out.mono ?_
  rintro e w' ⟨rfl, hb⟩
  have K := hide hb
  clear hb
  go_wp2
  go_ret
  exact ⟨ret_bool (by simp), K.out⟩
theorem contC_no (A : Option Addr) (L : List Ca) (c : Nat) (w : World) (hr : RdC w A L) (hn : L.length ≤ 9223372036854775807) (hbf : ∀ j, j < L.length → noP (cAt L j).2 = false) :
    Calls Try.prog 58 #[.slice A L.length c, .func (.func 59) #[] #[]] w fun e w' => e = .returned (.bool false) ∧ Below w.heap.size w w' := by
  have C := hide (idxC_miss A L c w hr hn hbf)
  clear hr hn hbf
  go_enter Try.func58, Try.ntmps58
  go_wp2_with fail
  refine C.out.mono ?_
  rintro e w' ⟨rfl, hb⟩
  have K := hide hb
  clear hb
  go_wp2
  go_ret
  exact ⟨ret_bool (by simp), K.out⟩
set_option maxHeartbeats 1000000 in
theorem chkbl_any (dep : Int) (A : Option Addr) (L : List By) (c : Nat) (w : World) (hr : RdB w A L) (hn : L.length ≤ 9223372036854775807) :
    Calls Try.prog 36 #[.int .i64 dep, .slice A L.length c] w fun e w' => e = .returned (.int .i64 (nwE dep L)) ∧ w = w' := by
  by_cases h1 : dep < 1
  · have E := hide (show nwE dep L = 2 by unfold nwE dbE; rw [if_neg (by simp; omega)])
    have hd : decide (dep < 1) = true := decide_eq_true h1
    rw [E.out]
    clear hr E
    go_enter Try.func36, Try.ntmps36
    go_wp2
    go_ret
    exact ⟨rfl, rfl⟩
  have hd1 : decide (dep < 1) = false := decide_eq_false h1
  by_cases h2 : 16 < dep
  · have E := hide (show nwE dep L = 2 by unfold nwE dbE; rw [if_neg (by simp; omega)])
    have hd : decide (16 < dep) = true := decide_eq_true h2
    rw [E.out]
    clear hr E
    go_enter Try.func36, Try.ntmps36
    go_wp2
    go_ret
    exact ⟨rfl, rfl⟩
  have hd2 : decide (16 < dep) = false := decide_eq_false h2
  by_cases h3 : (L.length : Int) < 1
  · have E := hide (show nwE dep L = 2 by unfold nwE dbE; rw [if_neg (by simp; omega)])
    have hd : decide ((L.length : Int) < 1) = true := decide_eq_true h3
    rw [E.out]
    clear hr E
    go_enter Try.func36, Try.ntmps36
    go_wp2
    go_ret
    exact ⟨rfl, rfl⟩
  have hd3 : decide ((L.length : Int) < 1) = false := decide_eq_false h3
  by_cases h4 : 256 < (L.length : Int)
  · have E := hide (show nwE dep L = 2 by unfold nwE dbE; rw [if_neg (by simp; omega)])
    have hd : decide (256 < (L.length : Int)) = true := decide_eq_true h4
    rw [E.out]
    clear hr E
    go_enter Try.func36, Try.ntmps36
    go_wp2
    go_ret
    exact ⟨rfl, rfl⟩
  have hd4 : decide (256 < (L.length : Int)) = false := decide_eq_false h4
  have E := hide (show nwE dep L = blE L by unfold nwE dbE; rw [if_pos (by simp; omega)])
  rw [E.out]
  rcases blE_cases L with ⟨e, hb⟩ | ⟨k, hk, e, hh, hb⟩
  · have C := hide (contB_no A L c w hr hn hb)
    rw [e]
    clear hr hb e E
    go_enter Try.func36, Try.ntmps36
    go_wp2_with (go_at_call 56; refine C.out.mono ?_; rintro e w' ⟨rfl, rfl⟩)
    go_ret
    exact ⟨rfl, rfl⟩
  · have C := hide (contB_yes A L c k w hr hn hk hh hb)
    rw [e]
    clear hr hb e E hh hk
    go_enter Try.func36, Try.ntmps36
    go_wp2_with (go_at_call 56; refine C.out.mono ?_; rintro e w' ⟨rfl, rfl⟩)
    go_ret
    exact ⟨rfl, rfl⟩
end Go.Proofs.Ytnegigcjeoenmaa.Dv
