import Derived.Test.YtncdilkcblakhaaDBaM
import Derived.Shelf.Abstract
namespace Go.Proofs.Ytncdilkcblakhaa.Dv
open Go Go.RowKit
set_option linter.unusedVariables false
def Enters (g : Nat) : Prop := ∀ args w, (callFunc g args).run Try.prog w = .ok (.enter g args) w
theorem enters56 : Enters 56 := Go.Proofs.enters_of Try.func56 (by kernel_rfl) rfl
theorem enters67 : Enters 67 := Go.Proofs.enters_of Try.func67 (by kernel_rfl) rfl
theorem Bs.cells {w w' : World} {A : Option Addr} {l : By} (h : Bs w A l) (hb : Below w.heap.size w w') {k : Nat} (hk : k < l.length) : ∃ b off, A = some ⟨b, off, none⟩ ∧ b < w.heap.size ∧ w'.cell? ⟨b, off + k, none⟩ = some (.int .u8 (l.getD k 0)) := by
  obtain ⟨b, off, e, hl, hc⟩ := h (by rintro rfl; simp at hk)
  exact ⟨b, off, e, hl, (hb.cell (p := ⟨b, _, none⟩) hl).trans (hc k hk)⟩
theorem nop_any (A : Option Addr) (l : By) (c : Nat) (w : World) : Calls Try.prog 56 #[.slice A l.length c] w fun e w' => e = .returned (.bool (noP l)) ∧ w = w' := by
  unfold noP
  by_cases h : l.length = 32
  · have e : decide (l.length ≠ 32) = false := by simpa using h
    rw [e]
    have hd : ((l.length : Int) != 32) = false := by simp; omega
    clear h e
    go_enter Try.func56, Try.ntmps56
    go_wp2
    go_ret
    exact ⟨rfl, rfl⟩
  · have e : decide (l.length ≠ 32) = true := by simpa using h
    rw [e]
    have hd : ((l.length : Int) != 32) = true := by simp; omega
    clear h e
    go_enter Try.func56, Try.ntmps56
    go_wp2
    go_ret
    exact ⟨rfl, rfl⟩
-- ContainsFunc over blocks
theorem blE_bad {L : List By} {k : Nat} (hk : k < L.length) (h : noP (bAt L k) = true) (hb : ∀ j, j < k → noP (bAt L j) = false) : blE L = 3 := by
  unfold blE
  rw [firstBad_at hk (fun j hj => by rw [hb j hj]; rfl) (by rw [h]; decide), h]; rfl
theorem blE_ok {L : List By} (hb : ∀ j, j < L.length → noP (bAt L j) = false) : blE L = 0 := firstBad_none fun j hj => by rw [hb j hj]; rfl
theorem blE_cases (L : List By) : (blE L = 0 ∧ ∀ j, j < L.length → noP (bAt L j) = false) ∨ ∃ k : Nat, k < L.length ∧ blE L = 3 ∧ noP (bAt L k) = true ∧ ∀ j, j < k → noP (bAt L j) = false := by
  by_cases c : ∃ k, k < L.length ∧ noP (bAt L k) = true
  · obtain ⟨k, hk⟩ := c
    induction k using Nat.strongRecOn with
    | ind k ih =>
      by_cases d : ∃ j, j < k ∧ noP (bAt L j) = true
      · obtain ⟨j, hj, hp⟩ := d
        exact ih j hj ⟨by omega, hp⟩
      · have hb : ∀ j, j < k → noP (bAt L j) = false := fun j hj => by
          cases e : noP (bAt L j)
          · rfl
          · exact absurd ⟨j, hj, e⟩ d
        exact .inr ⟨k, hk.1, blE_bad hk.1 hk.2 hb, hk.2, hb⟩
  · have hb : ∀ j, j < L.length → noP (bAt L j) = false := fun j hj => by
      cases e : noP (bAt L j)
      · rfl
      · exact absurd ⟨j, hj, e⟩ c
    exact .inl ⟨blE_ok hb, hb⟩
theorem cfE_bad {L : List Ca} {k : Nat} (hk : k < L.length) (h : noP (cAt L k).2 = true) (hb : ∀ j, j < k → noP (cAt L j).2 = false) : cfE L = 3 := by
  unfold cfE
  rw [firstBad_at hk (fun j hj => by rw [hb j hj]; rfl) (by rw [h]; decide), h]; rfl
theorem cfE_ok {L : List Ca} (hb : ∀ j, j < L.length → noP (cAt L j).2 = false) : cfE L = 0 := firstBad_none fun j hj => by rw [hb j hj]; rfl
theorem cfE_cases (L : List Ca) : (cfE L = 0 ∧ ∀ j, j < L.length → noP (cAt L j).2 = false) ∨ ∃ k : Nat, k < L.length ∧ cfE L = 3 ∧ noP (cAt L k).2 = true ∧ ∀ j, j < k → noP (cAt L j).2 = false := by
  by_cases c : ∃ k, k < L.length ∧ noP (cAt L k).2 = true
  · obtain ⟨k, hk⟩ := c
    induction k using Nat.strongRecOn with
    | ind k ih =>
      by_cases d : ∃ j, j < k ∧ noP (cAt L j).2 = true
      · obtain ⟨j, hj, hp⟩ := d
        exact ih j hj ⟨by omega, hp⟩
      · have hb : ∀ j, j < k → noP (cAt L j).2 = false := fun j hj => by
          cases e : noP (cAt L j).2
          · rfl
          · exact absurd ⟨j, hj, e⟩ d
        exact .inr ⟨k, hk.1, cfE_bad hk.1 hk.2 hb, hk.2, hb⟩
  · have hb : ∀ j, j < L.length → noP (cAt L j).2 = false := fun j hj => by
      cases e : noP (cAt L j).2
      · rfl
      · exact absurd ⟨j, hj, e⟩ c
    exact .inl ⟨cfE_ok hb, hb⟩
set_option maxHeartbeats 1000000 in
/-- IndexFunc over blocks: a hit or none -/
theorem idxB_hit (A : Option Addr) (L : List By) (c k0 : Nat) (w : World) (hr : RdB w A L) (hn : L.length ≤ 9223372036854775807) (hk0 : k0 < L.length) (hh : noP (bAt L k0) = true) (hbf : ∀ j, j < k0 → noP (bAt L j) = false) :
    Calls Try.prog 65 #[.slice A L.length c, .func (.func 56) #[] #[]] w fun e w' => e = .returned (.int .i64 k0) ∧ w = w' := by
  have HR := hide hr
  have HH := hide hh
  have HB := hide hbf
  have eg := enters56
  unfold Enters at eg
  clear hr hh hbf
  go_enter Try.func65, Try.ntmps65
  go_wp2
  go_loop [5, 8] (fun _ i => ∃ k : Nat, k ≤ k0 ∧ i = .int .i64 k) (fun _ i => L.length - (intOf i).toNat)
  case atStart => exact ⟨0, Nat.zero_le _, rfl⟩
  case round =>
    obtain ⟨k, hk, rfl⟩ := hrel
    have hlt : k < L.length := by omega
    obtain ⟨b, off, v, rfl, hbl, c0, A1, c1, rfl, _, _⟩ := HR.out.cells (brefl _) hlt
    have C := hide (fun w => nop_any A1 (bAt L k) c1 w)
    by_cases e : k = k0
    · subst e
      rw [HH.out] at C
      generalize (bAt L k).length = m at *
      go_wp2_with fail
      refine (C.out _).mono ?_
      rintro e w' ⟨rfl, rfl⟩
      go_wp2
      go_ret
      exact ⟨rfl, rfl⟩
    · rw [HB.out k (by omega)] at C
      generalize (bAt L k).length = m at *
      have hk2 : k < k0 := by omega
      clear e
      go_wp2_with fail
      refine (C.out _).mono ?_
      rintro e w' ⟨rfl, rfl⟩
      go_wp2
      go_round
      case rel => exact ⟨k + 1, by omega, by go_num⟩
      case measure => simp [intOf]; omega
set_option maxHeartbeats 1000000 in
theorem idxB_miss (A : Option Addr) (L : List By) (c : Nat) (w : World) (hr : RdB w A L) (hn : L.length ≤ 9223372036854775807) (hbf : ∀ j, j < L.length → noP (bAt L j) = false) :
    Calls Try.prog 65 #[.slice A L.length c, .func (.func 56) #[] #[]] w fun e w' => e = .returned (.int .i64 (-1)) ∧ w = w' := by
  have HR := hide hr
  have HB := hide hbf
  have eg := enters56
  unfold Enters at eg
  clear hr hbf
  go_enter Try.func65, Try.ntmps65
  go_wp2
  go_loop [5, 8] (fun _ i => ∃ k : Nat, k ≤ L.length ∧ i = .int .i64 k) (fun _ i => L.length - (intOf i).toNat)
  case atStart => exact ⟨0, Nat.zero_le _, rfl⟩
  case round =>
    obtain ⟨k, hk, rfl⟩ := hrel
    by_cases hlt : k < L.length
    · obtain ⟨b, off, v, rfl, hbl, c0, A1, c1, rfl, _, _⟩ := HR.out.cells (brefl _) hlt
      have C := hide (fun w => nop_any A1 (bAt L k) c1 w)
      rw [HB.out k (by omega)] at C
      generalize (bAt L k).length = m at *
      go_wp2_with fail
      refine (C.out _).mono ?_
      rintro e w' ⟨rfl, rfl⟩
      go_wp2
      go_round
      case rel => exact ⟨k + 1, by omega, by go_num⟩
      case measure => simp [intOf]; omega
    · go_wp2
      go_ret
      exact ⟨rfl, rfl⟩
theorem contB_yes (A : Option Addr) (L : List By) (c k0 : Nat) (w : World) (hr : RdB w A L) (hn : L.length ≤ 9223372036854775807) (hk0 : k0 < L.length) (hh : noP (bAt L k0) = true) (hbf : ∀ j, j < k0 → noP (bAt L j) = false) :
    Calls Try.prog 55 #[.slice A L.length c, .func (.func 56) #[] #[]] w fun e w' => e = .returned (.bool true) ∧ w = w' := by
  have C := hide (idxB_hit A L c k0 w hr hn hk0 hh hbf)
  have hz : (0 : Int) ≤ (k0 : Int) := by omega
  clear hr hn hh hbf hk0
  go_enter Try.func55, Try.ntmps55
  go_wp2_with fail
  refine C.out.mono ?_
  rintro e w' ⟨rfl, rfl⟩
  go_wp2
  go_ret
  exact ⟨ret_bool (by simp), rfl⟩
theorem contB_no (A : Option Addr) (L : List By) (c : Nat) (w : World) (hr : RdB w A L) (hn : L.length ≤ 9223372036854775807) (hbf : ∀ j, j < L.length → noP (bAt L j) = false) :
    Calls Try.prog 55 #[.slice A L.length c, .func (.func 56) #[] #[]] w fun e w' => e = .returned (.bool false) ∧ w = w' := by
  have C := hide (idxB_miss A L c w hr hn hbf)
  clear hr hn hbf
  go_enter Try.func55, Try.ntmps55
  go_wp2_with fail
  refine C.out.mono ?_
  rintro e w' ⟨rfl, rfl⟩
  go_wp2
  go_ret
  exact ⟨ret_bool (by simp), rfl⟩
end Go.Proofs.Ytncdilkcblakhaa.Dv
namespace Go.Proofs.Ytncdilkcblakhaa.Dv
open Go Go.RowKit
set_option linter.unusedVariables false
/-- the value of a device -/
abbrev dv (dep nxt : Int) (Ab : Option Addr) (nb cb : Nat) (Ac : Option Addr) (nc cc : Nat) (Aq : Option Addr) (nq cq : Nat) : Value := .agg #[.int .i64 dep, .int .i64 nxt, .slice Ab nb cb, .slice Ac nc cc, .slice Aq nq cq]
theorem isb_any (dep nxt : Int) (Ab : Option Addr) (nb cb : Nat) (vc vq : Value) (n : Int) (w : World) :
    Calls Try.prog 50 #[.agg #[.int .i64 dep, .int .i64 nxt, .slice Ab nb cb, vc, vq], .int .i64 n] w fun e w' => e = .returned (.bool (inB nb n)) ∧ Below w.heap.size w w' := by
  have K := hide (bal (brefl w) (.cells #[.int .i64 dep, .int .i64 nxt, .slice Ab nb cb, vc, vq] 57))
  by_cases h : 0 ≤ n
  · by_cases h2 : n < (nb : Int)
    · have e : inB nb n = true := by unfold inB; exact decide_eq_true ⟨h, h2⟩
      rw [e]
      have hd : decide (0 ≤ n) = true := decide_eq_true h
      clear e
      go_enter Try.func50, Try.ntmps50
      go_wp2
      go_ret
      exact ⟨ret_bool (by simp), K.out⟩
    · have e : inB nb n = false := by unfold inB; exact decide_eq_false (by omega)
      rw [e]
      have hd : decide (0 ≤ n) = true := decide_eq_true h
      clear e
      go_enter Try.func50, Try.ntmps50
      go_wp2
      go_ret
      exact ⟨ret_bool (by simp), K.out⟩
  · have e : inB nb n = false := by unfold inB; exact decide_eq_false (by omega)
    rw [e]
    have hd : decide (0 ≤ n) = false := decide_eq_false h
    clear e
    go_enter Try.func50, Try.ntmps50
    go_wp2
    go_ret
    exact ⟨ret_bool (by first | rfl | (simp; omega)), K.out⟩
theorem nopc_any (b : Int) (A : Option Addr) (l : By) (c : Nat) (w : World) : Calls Try.prog 67 #[.agg #[.int .i64 b, .slice A l.length c]] w fun e w' => e = .returned (.bool (noP l)) ∧ Below w.heap.size w w' := by
  have K := hide (bal (brefl w) (.cells #[.int .i64 b, .slice A l.length c] 89))
  have C := hide (fun w => nop_any A l c w)
  generalize l.length = m at *
  go_enter Try.func67, Try.ntmps67
  go_wp2_with fail
  refine (C.out _).mono ?_
  rintro e w' ⟨rfl, rfl⟩
  go_wp2
  go_ret
  exact ⟨rfl, K.out⟩
set_option maxHeartbeats 1000000 in
theorem idxC_hit (A : Option Addr) (L : List Ca) (c k0 : Nat) (w : World) (hr : RdC w A L) (hn : L.length ≤ 9223372036854775807) (hk0 : k0 < L.length) (hh : noP (cAt L k0).2 = true) (hbf : ∀ j, j < k0 → noP (cAt L j).2 = false) :
    Calls Try.prog 70 #[.slice A L.length c, .func (.func 67) #[] #[]] w fun e w' => e = .returned (.int .i64 k0) ∧ Below w.heap.size w w' := by
  have HR := hide hr
  have HH := hide hh
  have HB := hide hbf
  have eg := enters67
  unfold Enters at eg
  clear hr hh hbf
  go_enter Try.func70, Try.ntmps70
  go_wp2
  go_loopw [5, 8] (fun _ i wr => ∃ k : Nat, k ≤ k0 ∧ i = .int .i64 k ∧ Hid (Below w.heap.size w wr)) (fun _ i _ => L.length - (intOf i).toNat)
  case atStart => exact ⟨0, Nat.zero_le _, rfl, hide (brefl _)⟩
  case round =>
    obtain ⟨k, hk, rfl, K⟩ := hrel
    have hlt : k < L.length := by omega
    obtain ⟨b, off, v, rfl, hbl, c0, c1', A1, c1, rfl, _, _⟩ := HR.out.cells K.out hlt
    have C := hide (fun w => nopc_any (cAt L k).1 A1 (cAt L k).2 c1 w)
    by_cases e : k = k0
    · subst e
      rw [HH.out] at C
      generalize (cAt L k).2.length = m at *
      generalize (cAt L k).1 = z at *
      go_wp2_with fail
      refine (C.out _).mono ?_
      rintro e w' ⟨rfl, hb⟩
      have K2 := hide hb
      clear hb
      go_wp2
      go_ret
      exact ⟨rfl, btrans K.out K2.out⟩
    · rw [HB.out k (by omega)] at C
      generalize (cAt L k).2.length = m at *
      generalize (cAt L k).1 = z at *
      have hk2 : k < k0 := by omega
      clear e
      go_wp2_with fail
      refine (C.out _).mono ?_
      rintro e w' ⟨rfl, hb⟩
      have K2 := hide hb
      clear hb
      go_wp2
      go_roundw
      case rel => exact ⟨k + 1, by omega, by go_num, hide (btrans K.out K2.out)⟩
      case measure => simp [intOf]; omega
set_option maxHeartbeats 1000000 in
theorem idxC_miss (A : Option Addr) (L : List Ca) (c : Nat) (w : World) (hr : RdC w A L) (hn : L.length ≤ 9223372036854775807) (hbf : ∀ j, j < L.length → noP (cAt L j).2 = false) :
    Calls Try.prog 70 #[.slice A L.length c, .func (.func 67) #[] #[]] w fun e w' => e = .returned (.int .i64 (-1)) ∧ Below w.heap.size w w' := by
  have HR := hide hr
  have HB := hide hbf
  have eg := enters67
  unfold Enters at eg
  clear hr hbf
  go_enter Try.func70, Try.ntmps70
  go_wp2
  go_loopw [5, 8] (fun _ i wr => ∃ k : Nat, k ≤ L.length ∧ i = .int .i64 k ∧ Hid (Below w.heap.size w wr)) (fun _ i _ => L.length - (intOf i).toNat)
  case atStart => exact ⟨0, Nat.zero_le _, rfl, hide (brefl _)⟩
  case round =>
    obtain ⟨k, hk, rfl, K⟩ := hrel
    by_cases hlt : k < L.length
    · obtain ⟨b, off, v, rfl, hbl, c0, c1', A1, c1, rfl, _, _⟩ := HR.out.cells K.out hlt
      have C := hide (fun w => nopc_any (cAt L k).1 A1 (cAt L k).2 c1 w)
      rw [HB.out k (by omega)] at C
      generalize (cAt L k).2.length = m at *
      generalize (cAt L k).1 = z at *
      go_wp2_with fail
      refine (C.out _).mono ?_
      rintro e w' ⟨rfl, hb⟩
      have K2 := hide hb
      clear hb
      go_wp2
      go_roundw
      case rel => exact ⟨k + 1, by omega, by go_num, hide (btrans K.out K2.out)⟩
      case measure => simp [intOf]; omega
    · go_wp2
      go_ret
      exact ⟨rfl, K.out⟩
theorem contC_yes (A : Option Addr) (L : List Ca) (c k0 : Nat) (w : World) (hr : RdC w A L) (hn : L.length ≤ 9223372036854775807) (hk0 : k0 < L.length) (hh : noP (cAt L k0).2 = true) (hbf : ∀ j, j < k0 → noP (cAt L j).2 = false) :
    Calls Try.prog 66 #[.slice A L.length c, .func (.func 67) #[] #[]] w fun e w' => e = .returned (.bool true) ∧ Below w.heap.size w w' := by
  have C := hide (idxC_hit A L c k0 w hr hn hk0 hh hbf)
  have hz : (0 : Int) ≤ (k0 : Int) := by omega
  clear hr hn hh hbf hk0
  go_enter Try.func66, Try.ntmps66
  go_wp2_with fail
  refine C.out.mono ?_
  rintro e w' ⟨rfl, hb⟩
  have K := hide hb
  clear hb
  go_wp2
  go_ret
  exact ⟨ret_bool (by simp), K.out⟩
theorem contC_no (A : Option Addr) (L : List Ca) (c : Nat) (w : World) (hr : RdC w A L) (hn : L.length ≤ 9223372036854775807) (hbf : ∀ j, j < L.length → noP (cAt L j).2 = false) :
    Calls Try.prog 66 #[.slice A L.length c, .func (.func 67) #[] #[]] w fun e w' => e = .returned (.bool false) ∧ Below w.heap.size w w' := by
  have C := hide (idxC_miss A L c w hr hn hbf)
  clear hr hn hbf
  go_enter Try.func66, Try.ntmps66
  go_wp2_with fail
  refine C.out.mono ?_
  rintro e w' ⟨rfl, hb⟩
  have K := hide hb
  clear hb
  go_wp2
  go_ret
  exact ⟨ret_bool (by simp), K.out⟩
set_option maxHeartbeats 1000000 in
theorem chkbl_any (dep : Int) (A : Option Addr) (L : List By) (c : Nat) (w : World) (hr : RdB w A L) (hn : L.length ≤ 9223372036854775807) :
    Calls Try.prog 42 #[.int .i64 dep, .slice A L.length c] w fun e w' => e = .returned (.int .i64 (nwE dep L)) ∧ w = w' := by
  by_cases h1 : dep < 1
  · have E := hide (show nwE dep L = 2 by unfold nwE dbE; rw [if_neg (by simp; omega)])
    have hd : decide (dep < 1) = true := decide_eq_true h1
    rw [E.out]
    clear hr E
    go_enter Try.func42, Try.ntmps42
    go_wp2
    go_ret
    exact ⟨rfl, rfl⟩
  have hd1 : decide (dep < 1) = false := decide_eq_false h1
  by_cases h2 : 16 < dep
  · have E := hide (show nwE dep L = 2 by unfold nwE dbE; rw [if_neg (by simp; omega)])
    have hd : decide (16 < dep) = true := decide_eq_true h2
    rw [E.out]
    clear hr E
    go_enter Try.func42, Try.ntmps42
    go_wp2
    go_ret
    exact ⟨rfl, rfl⟩
  have hd2 : decide (16 < dep) = false := decide_eq_false h2
  by_cases h3 : (L.length : Int) < 1
  · have E := hide (show nwE dep L = 2 by unfold nwE dbE; rw [if_neg (by simp; omega)])
    have hd : decide ((L.length : Int) < 1) = true := decide_eq_true h3
    rw [E.out]
    clear hr E
    go_enter Try.func42, Try.ntmps42
    go_wp2
    go_ret
    exact ⟨rfl, rfl⟩
  have hd3 : decide ((L.length : Int) < 1) = false := decide_eq_false h3
  by_cases h4 : 256 < (L.length : Int)
  · have E := hide (show nwE dep L = 2 by unfold nwE dbE; rw [if_neg (by simp; omega)])
    have hd : decide (256 < (L.length : Int)) = true := decide_eq_true h4
    rw [E.out]
    clear hr E
    go_enter Try.func42, Try.ntmps42
    go_wp2
    go_ret
    exact ⟨rfl, rfl⟩
  have hd4 : decide (256 < (L.length : Int)) = false := decide_eq_false h4
  have E := hide (show nwE dep L = blE L by unfold nwE dbE; rw [if_pos (by simp; omega)])
  rw [E.out]
  rcases blE_cases L with ⟨e, hb⟩ | ⟨k, hk, e, hh, hb⟩
  · have C := hide (contB_no A L c w hr hn hb)
    rw [e]
    clear hr hb e E
    go_enter Try.func42, Try.ntmps42
    go_wp2_with (go_at_call 55; refine C.out.mono ?_; rintro e w' ⟨rfl, rfl⟩)
    go_ret
    exact ⟨rfl, rfl⟩
  · have C := hide (contB_yes A L c k w hr hn hk hh hb)
    rw [e]
    clear hr hb e E hh hk
    go_enter Try.func42, Try.ntmps42
    go_wp2_with (go_at_call 55; refine C.out.mono ?_; rintro e w' ⟨rfl, rfl⟩)
    go_ret
    exact ⟨rfl, rfl⟩
end Go.Proofs.Ytncdilkcblakhaa.Dv
namespace Go.Proofs.Ytncdilkcblakhaa.Dv
open Go Go.RowKit
set_option linter.unusedVariables false
def ordB (n : Nat) (L : List Ca) (i : Nat) : Bool := decide (inB n (cAt L i).1 = false ∨ (0 < i ∧ (cAt L i).1 ≤ (cAt L (i - 1)).1))
theorem coE_bad {n : Nat} {L : List Ca} {k : Nat} (hk : k < L.length) (h : ordB n L k = true) (hb : ∀ j, j < k → ordB n L j = false) : coE n L = 10 := by
  unfold coE
  unfold ordB at h hb
  simp only [decide_eq_true_eq, decide_eq_false_iff_not] at h hb
  rw [firstBad_at hk (fun j hj => if_neg (hb j hj)) (by rw [if_pos h]; decide), if_pos h]
theorem coE_ok {n : Nat} {L : List Ca} (hb : ∀ j, j < L.length → ordB n L j = false) : coE n L = 0 := by
  unfold coE
  unfold ordB at hb
  simp only [decide_eq_false_iff_not] at hb
  exact firstBad_none fun j hj => if_neg (hb j hj)
theorem caE_ord {n : Nat} {L : List Ca} {k : Nat} (hk : k < L.length) (h : ordB n L k = true) (hb : ∀ j, j < k → ordB n L j = false) : caE n L = 10 := by
  unfold caE; rw [coE_bad hk h hb]; rfl
theorem caE_form {n : Nat} {L : List Ca} (hb : ∀ j, j < L.length → ordB n L j = false) : caE n L = cfE L := by
  unfold caE; rw [coE_ok hb]; rfl
set_option maxHeartbeats 4000000 in
theorem chkca_any (dep nxt : Int) (Ab : Option Addr) (nb cb : Nat) (A : Option Addr) (L : List Ca) (c : Nat) (Aq : Option Addr) (nq cq : Nat) (w : World) (hr : RdC w A L) (hn : L.length ≤ 9223372036854775807) :
    Calls Try.prog 58 #[dv dep nxt Ab nb cb A L.length c Aq nq cq] w fun e w' => e = .returned (.int .i64 (caE nb L)) ∧ Below w.heap.size w w' := by
  have X := hide (Box.new w 57 #[.int .i64 dep, .int .i64 nxt, .slice Ab nb cb, .slice A L.length c, .slice Aq nq cq])
  have K0 := hide (bal (brefl w) (.cells #[.int .i64 dep, .int .i64 nxt, .slice Ab nb cb, .slice A L.length c, .slice Aq nq cq] 57))
  have HR := hide (hr.below K0.out)
  have NO := hide (fun w h => contC_no A L c w (hr := h) hn)
  have YES := hide (fun w h k => contC_yes A L c k w (hr := h) hn)
  have IB := hide (fun n w => isb_any dep nxt Ab nb cb (.slice A L.length c) (.slice Aq nq cq) n w)
  clear hr
  go_enter Try.func58, Try.ntmps58
  go_wp2
  obtain ⟨wb, hwb⟩ : ∃ wb, wb = w.alloc (.cells #[.int .i64 dep, .int .i64 nxt, .slice Ab nb cb, .slice A L.length c, .slice Aq nq cq] 57) := ⟨_, rfl⟩
  rw [← hwb] at X K0 HR ⊢
  clear hwb
  go_loopw [3, 4, 8] (fun _ _ i wr => ∃ k : Nat, k ≤ L.length ∧ i = .int .i64 k ∧ Hid (∀ j, j < k → ordB nb L j = false) ∧ Hid (Below wb.heap.size wb wr)) (fun _ _ i _ => L.length - (intOf i).toNat)
  case atStart => exact ⟨0, Nat.zero_le _, rfl, hide fun j hj => absurd hj (Nat.not_lt_zero _), hide (brefl _)⟩
  case round =>
    obtain ⟨k, hk, rfl, HA, K⟩ := hrel
    by_cases hlt : k < L.length
    · obtain ⟨b, off, v, rfl, hbl, c0, c1', A1, c1, rfl, _, _⟩ := HR.out.cells K.out hlt
      have NB := hide (fun h => caE_ord (n := nb) hlt h HA.out)
      have NG := hide (show ordB nb L k = false → ∀ j, j < k + 1 → ordB nb L j = false from fun h j hj => by
        by_cases e : j = k
        · rw [e]; exact h
        · exact HA.out j (by omega))
      obtain ⟨z, hz⟩ : ∃ z, z = (cAt L k).1 := ⟨_, rfl⟩
      have O := hide (show ordB nb L k = decide (inB nb z = false ∨ (0 < k ∧ z ≤ (cAt L (k - 1)).1)) by rw [hz]; rfl)
      rw [← hz] at c0
      generalize (cAt L k).2.length = m at *
      have XB := hide ((X.out.below K.out).more (.cells #[.int .i64 z, .slice A1 m c1] 89))
      have YB := hide (Box.new wr 89 #[.int .i64 z, .slice A1 m c1])
      have KA := hide (bal K.out (.cells #[.int .i64 z, .slice A1 m c1] 89))
      have KK := hide (brefl (wr.alloc (.cells #[.int .i64 z, .slice A1 m c1] 89)))
      have hlw := Nat.lt_of_lt_of_le X.out.lt K.out.size
      clear hz
      cases hq : inB nb z with
      | false =>
        have E := hide (NB.out (by rw [O.out]; exact decide_eq_true (.inl hq)))
        have HQ := hide hq
        clear hq NB NG O
        go_wp2
        refine wp_region_noPanic ?_
        refine wp_region_held_drew (S := (fun W => W.cell? ⟨w.heap.size, 0, none⟩ = some (.int .i64 dep) ∧ W.cell? ⟨w.heap.size, 1, none⟩ = some (.int .i64 nxt) ∧ W.cell? ⟨w.heap.size, 2, none⟩ = some (.slice Ab nb cb) ∧ W.cell? ⟨w.heap.size, 3, none⟩ = some (.slice (some ⟨b, off, none⟩) L.length c) ∧ W.cell? ⟨w.heap.size, 4, none⟩ = some (.slice Aq nq cq) ∧ W.cell? ⟨wr.heap.size, 0, none⟩ = some (.int .i64 z))) (by kernel_rfl) ?_ (fun hHeld => ?_)
        · (have k1 := (XB.out.below KK.out); have k2 := (YB.out.below KK.out); exact ⟨k1.cell 0, k1.cell 1, k1.cell 2, k1.cell 3, k1.cell 4, k2.cell 0⟩)
        refine wpAnyH_take (i := 0) (oi := ⟨some 13, _, _, _, _, _⟩) (v := ?_) rfl (by kernel_rfl) (by kernel_rfl) (by kernel_rfl) (fun _ _ _ h => h) (Or.inl ⟨by kernel_rfl, ?_⟩) (by assumption) ?_
        rotate_left 1
        · (intro w hSw; (try dsimp only at hSw); go_simp) <;> (with_reducible rfl)
        (try simp only [Act.put, List.setIfInBounds_toArray, List.set_cons_succ, List.set_cons_zero])
        refine wpAnyH_take (i := 1) (oi := ⟨some 14, _, _, _, _, _⟩) (v := ?_) rfl (by kernel_rfl) (by kernel_rfl) (by kernel_rfl) (fun _ _ _ h => h) (Or.inl ⟨by kernel_rfl, ?_⟩) (by assumption) ?_
        rotate_left 1
        · (intro w hSw; (try dsimp only at hSw); go_simp) <;> (with_reducible rfl)
        (try simp only [Act.put, List.setIfInBounds_toArray, List.set_cons_succ, List.set_cons_zero])
        refine wpAnyH_take (i := 2) (oi := ⟨some 15, _, _, _, _, _⟩) (v := ?_) rfl (by kernel_rfl) (by kernel_rfl) (by kernel_rfl) (fun _ _ _ h => h) (Or.inl ⟨by kernel_rfl, ?_⟩) (by assumption) ?_
        rotate_left 1
        · (intro w hSw; (try dsimp only at hSw); go_simp) <;> (with_reducible rfl)
        (try simp only [Act.put, List.setIfInBounds_toArray, List.set_cons_succ, List.set_cons_zero])
        refine wpAnyH_ready (rs := [3]) (by kernel_rfl) (by simp) ?_
        refine AllReadyH.cons (o := _) rfl (fun K' hK => ?_) AllReadyH.nil
        go_simp
        refine (IB.out _ _).mono ?_
        rintro e wk ⟨rfl, hbk⟩
        rw [HQ.out]
        replace KK := hide (by first | exact btrans KK.out hbk | exact btrans (below_drewN KK.out _) hbk)
        clear hbk
        refine hK.out _ _ ?_ (fun hHeld => ?_)
        · (have k1 := (XB.out.below KK.out); have k2 := (YB.out.below KK.out); exact ⟨k1.cell 0, k1.cell 1, k1.cell 2, k1.cell 3, k1.cell 4, k2.cell 0⟩)
        clear hK K'
        (try simp only [Act.put, List.setIfInBounds_toArray, List.set_cons_succ, List.set_cons_zero])
        refine wpAnyH_take (i := 4) (oi := ⟨some 17, _, _, _, _, _⟩) (v := ?_) rfl (by kernel_rfl) (by kernel_rfl) (by kernel_rfl) (fun _ _ _ h => h) (Or.inl ⟨by kernel_rfl, ?_⟩) (by assumption) ?_
        rotate_left 1
        · (intro w hSw; (try dsimp only at hSw); go_simp) <;> (with_reducible rfl)
        (try simp only [Act.put, List.setIfInBounds_toArray, List.set_cons_succ, List.set_cons_zero])
        refine wpAnyH_take (i := 5) (oi := ⟨some 18, _, _, _, _, _⟩) (v := ?_) rfl (by kernel_rfl) (by kernel_rfl) (by kernel_rfl) (fun _ _ _ h => h) (Or.inl ⟨by kernel_rfl, ?_⟩) (by assumption) ?_
        rotate_left 1
        · (intro w hSw; (try dsimp only at hSw); go_simp) <;> (with_reducible rfl)
        (try simp only [Act.put, List.setIfInBounds_toArray, List.set_cons_succ, List.set_cons_zero])
        refine wpAnyH_take (i := 6) (oi := ⟨some 19, _, _, _, _, _⟩) (v := undef) rfl (by kernel_rfl) (by kernel_rfl) (by kernel_rfl) (fun _ _ _ h => h) (Or.inr ⟨by kernel_rfl, rfl⟩) (by assumption) ?_
        (try simp only [Act.put, List.setIfInBounds_toArray, List.set_cons_succ, List.set_cons_zero])
        refine wpAnyH_take (i := 7) (oi := ⟨some 20, _, _, _, _, _⟩) (v := undef) rfl (by kernel_rfl) (by kernel_rfl) (by kernel_rfl) (fun _ _ _ h => h) (Or.inr ⟨by kernel_rfl, rfl⟩) (by assumption) ?_
        (try simp only [Act.put, List.setIfInBounds_toArray, List.set_cons_succ, List.set_cons_zero])
        refine wpAnyH_take (i := 8) (oi := ⟨some 21, _, _, _, _, _⟩) (v := undef) rfl (by kernel_rfl) (by kernel_rfl) (by kernel_rfl) (fun _ _ _ h => h) (Or.inr ⟨by kernel_rfl, rfl⟩) (by assumption) ?_
        (try simp only [Act.put, List.setIfInBounds_toArray, List.set_cons_succ, List.set_cons_zero])
        refine wpAnyH_take (i := 9) (oi := ⟨some 22, _, _, _, _, _⟩) (v := undef) rfl (by kernel_rfl) (by kernel_rfl) (by kernel_rfl) (fun _ _ _ h => h) (Or.inr ⟨by kernel_rfl, rfl⟩) (by assumption) ?_
        (try simp only [Act.put, List.setIfInBounds_toArray, List.set_cons_succ, List.set_cons_zero])
        refine wpAnyH_take (i := 10) (oi := ⟨some 23, _, _, _, _, _⟩) (v := undef) rfl (by kernel_rfl) (by kernel_rfl) (by kernel_rfl) (fun _ _ _ h => h) (Or.inr ⟨by kernel_rfl, rfl⟩) (by assumption) ?_
        (try simp only [Act.put, List.setIfInBounds_toArray, List.set_cons_succ, List.set_cons_zero])
        refine wpAnyH_take (i := 11) (oi := ⟨some 24, _, _, _, _, _⟩) (v := undef) rfl (by kernel_rfl) (by kernel_rfl) (by kernel_rfl) (fun _ _ _ h => h) (Or.inr ⟨by kernel_rfl, rfl⟩) (by assumption) ?_
        (try simp only [Act.put, List.setIfInBounds_toArray, List.set_cons_succ, List.set_cons_zero])
        refine wpAnyH_take (i := 12) (oi := ⟨some 25, _, _, _, _, _⟩) (v := undef) rfl (by kernel_rfl) (by kernel_rfl) (by kernel_rfl) (fun _ _ _ h => h) (Or.inr ⟨by kernel_rfl, rfl⟩) (by assumption) ?_
        (try simp only [Act.put, List.setIfInBounds_toArray, List.set_cons_succ, List.set_cons_zero])
        refine wpAnyH_take (i := 13) (oi := ⟨some 26, _, _, _, _, _⟩) (v := undef) rfl (by kernel_rfl) (by kernel_rfl) (by kernel_rfl) (fun _ _ _ h => h) (Or.inr ⟨by kernel_rfl, rfl⟩) (by assumption) ?_
        (try simp only [Act.put, List.setIfInBounds_toArray, List.set_cons_succ, List.set_cons_zero])
        refine wpAnyH_take (i := 14) (oi := ⟨some 27, _, _, _, _, _⟩) (v := undef) rfl (by kernel_rfl) (by kernel_rfl) (by kernel_rfl) (fun _ _ _ h => h) (Or.inr ⟨by kernel_rfl, rfl⟩) (by assumption) ?_
        (try simp only [Act.put, List.setIfInBounds_toArray, List.set_cons_succ, List.set_cons_zero])
        refine wpAnyH_take (i := 15) (oi := ⟨some 28, _, _, _, _, _⟩) (v := undef) rfl (by kernel_rfl) (by kernel_rfl) (by kernel_rfl) (fun _ _ _ h => h) (Or.inr ⟨by kernel_rfl, rfl⟩) (by assumption) ?_
        (try simp only [Act.put, List.setIfInBounds_toArray, List.set_cons_succ, List.set_cons_zero])
        refine wpAnyH_take (i := 16) (oi := ⟨some 29, _, _, _, _, _⟩) (v := undef) rfl (by kernel_rfl) (by kernel_rfl) (by kernel_rfl) (fun _ _ _ h => h) (Or.inr ⟨by kernel_rfl, rfl⟩) (by assumption) ?_
        (try simp only [Act.put, List.setIfInBounds_toArray, List.set_cons_succ, List.set_cons_zero])
        refine wpAnyH_take (i := 17) (oi := ⟨some 30, _, _, _, _, _⟩) (v := undef) rfl (by kernel_rfl) (by kernel_rfl) (by kernel_rfl) (fun _ _ _ h => h) (Or.inr ⟨by kernel_rfl, rfl⟩) (by assumption) ?_
        (try simp only [Act.put, List.setIfInBounds_toArray, List.set_cons_succ, List.set_cons_zero])
        refine wpAnyH_take (i := 18) (oi := ⟨some 31, _, _, _, _, _⟩) (v := undef) rfl (by kernel_rfl) (by kernel_rfl) (by kernel_rfl) (fun _ _ _ h => h) (Or.inr ⟨by kernel_rfl, rfl⟩) (by assumption) ?_
        (try simp only [Act.put, List.setIfInBounds_toArray, List.set_cons_succ, List.set_cons_zero])
        refine wpAnyH_take (i := 19) (oi := ⟨some 32, _, _, _, _, _⟩) (v := undef) rfl (by kernel_rfl) (by kernel_rfl) (by kernel_rfl) (fun _ _ _ h => h) (Or.inr ⟨by kernel_rfl, rfl⟩) (by assumption) ?_
        (try simp only [Act.put, List.setIfInBounds_toArray, List.set_cons_succ, List.set_cons_zero])
        refine wpAnyH_take (i := 20) (oi := ⟨some 33, _, _, _, _, _⟩) (v := ?_) rfl (by kernel_rfl) (by kernel_rfl) (by kernel_rfl) (fun _ _ _ h => h) (Or.inl ⟨by kernel_rfl, ?_⟩) (by assumption) ?_
        rotate_left 1
        · (intro w hSw; (try dsimp only at hSw); go_simp) <;> (with_reducible rfl)
        (try simp only [Act.put, List.setIfInBounds_toArray, List.set_cons_succ, List.set_cons_zero])
        refine wpAnyH_done (by kernel_rfl) ?_ _
        refine NoPanic.normal ?_
        all_goals
          go_wp2
          go_ret
          exact ⟨ret_int E.out.symm, btrans K0.out (btrans KA.out (by first | exact KK.out | exact below_drewN KK.out _))⟩
      | true =>
        have HQ := hide hq
        rcases k with _ | j
        · have E := hide (NG.out (by rw [O.out]; exact decide_eq_false (by rw [hq]; simp)))
          rw [Nat.zero_mul, Nat.add_zero] at c0 c1'
          clear hq NB NG O
          go_wp2
          refine wp_region_noPanic ?_
          refine wp_region_held_drew (S := (fun W => W.cell? ⟨w.heap.size, 0, none⟩ = some (.int .i64 dep) ∧ W.cell? ⟨w.heap.size, 1, none⟩ = some (.int .i64 nxt) ∧ W.cell? ⟨w.heap.size, 2, none⟩ = some (.slice Ab nb cb) ∧ W.cell? ⟨w.heap.size, 3, none⟩ = some (.slice (some ⟨b, off, none⟩) L.length c) ∧ W.cell? ⟨w.heap.size, 4, none⟩ = some (.slice Aq nq cq) ∧ W.cell? ⟨wr.heap.size, 0, none⟩ = some (.int .i64 z))) (by kernel_rfl) ?_ (fun hHeld => ?_)
          · (have k1 := (XB.out.below KK.out); have k2 := (YB.out.below KK.out); exact ⟨k1.cell 0, k1.cell 1, k1.cell 2, k1.cell 3, k1.cell 4, k2.cell 0⟩)
          refine wpAnyH_take (i := 0) (oi := ⟨some 13, _, _, _, _, _⟩) (v := ?_) rfl (by kernel_rfl) (by kernel_rfl) (by kernel_rfl) (fun _ _ _ h => h) (Or.inl ⟨by kernel_rfl, ?_⟩) (by assumption) ?_
          rotate_left 1
          · (intro w hSw; (try dsimp only at hSw); go_simp) <;> (with_reducible rfl)
          (try simp only [Act.put, List.setIfInBounds_toArray, List.set_cons_succ, List.set_cons_zero])
          refine wpAnyH_take (i := 1) (oi := ⟨some 14, _, _, _, _, _⟩) (v := ?_) rfl (by kernel_rfl) (by kernel_rfl) (by kernel_rfl) (fun _ _ _ h => h) (Or.inl ⟨by kernel_rfl, ?_⟩) (by assumption) ?_
          rotate_left 1
          · (intro w hSw; (try dsimp only at hSw); go_simp) <;> (with_reducible rfl)
          (try simp only [Act.put, List.setIfInBounds_toArray, List.set_cons_succ, List.set_cons_zero])
          refine wpAnyH_take (i := 2) (oi := ⟨some 15, _, _, _, _, _⟩) (v := ?_) rfl (by kernel_rfl) (by kernel_rfl) (by kernel_rfl) (fun _ _ _ h => h) (Or.inl ⟨by kernel_rfl, ?_⟩) (by assumption) ?_
          rotate_left 1
          · (intro w hSw; (try dsimp only at hSw); go_simp) <;> (with_reducible rfl)
          (try simp only [Act.put, List.setIfInBounds_toArray, List.set_cons_succ, List.set_cons_zero])
          refine wpAnyH_ready (rs := [3]) (by kernel_rfl) (by simp) ?_
          refine AllReadyH.cons (o := _) rfl (fun K' hK => ?_) AllReadyH.nil
          go_simp
          refine (IB.out _ _).mono ?_
          rintro e wk ⟨rfl, hbk⟩
          rw [HQ.out]
          replace KK := hide (by first | exact btrans KK.out hbk | exact btrans (below_drewN KK.out _) hbk)
          clear hbk
          refine hK.out _ _ ?_ (fun hHeld => ?_)
          · (have k1 := (XB.out.below KK.out); have k2 := (YB.out.below KK.out); exact ⟨k1.cell 0, k1.cell 1, k1.cell 2, k1.cell 3, k1.cell 4, k2.cell 0⟩)
          clear hK K'
          (try simp only [Act.put, List.setIfInBounds_toArray, List.set_cons_succ, List.set_cons_zero])
          refine wpAnyH_take (i := 4) (oi := ⟨some 17, _, _, _, _, _⟩) (v := ?_) rfl (by kernel_rfl) (by kernel_rfl) (by kernel_rfl) (fun _ _ _ h => h) (Or.inl ⟨by kernel_rfl, ?_⟩) (by assumption) ?_
          rotate_left 1
          · (intro w hSw; (try dsimp only at hSw); go_simp) <;> (with_reducible rfl)
          (try simp only [Act.put, List.setIfInBounds_toArray, List.set_cons_succ, List.set_cons_zero])
          refine wpAnyH_take (i := 5) (oi := ⟨some 18, _, _, _, _, _⟩) (v := ?_) rfl (by kernel_rfl) (by kernel_rfl) (by kernel_rfl) (fun _ _ _ h => h) (Or.inl ⟨by kernel_rfl, ?_⟩) (by assumption) ?_
          rotate_left 1
          · (intro w hSw; (try dsimp only at hSw); go_simp) <;> (with_reducible rfl)
          (try simp only [Act.put, List.setIfInBounds_toArray, List.set_cons_succ, List.set_cons_zero])
          refine wpAnyH_take (i := 6) (oi := ⟨some 19, _, _, _, _, _⟩) (v := ?_) rfl (by kernel_rfl) (by kernel_rfl) (by kernel_rfl) (fun _ _ _ h => h) (Or.inl ⟨by kernel_rfl, ?_⟩) (by assumption) ?_
          rotate_left 1
          · (intro w hSw; (try dsimp only at hSw); go_simp) <;> (with_reducible rfl)
          (try simp only [Act.put, List.setIfInBounds_toArray, List.set_cons_succ, List.set_cons_zero])
          refine wpAnyH_take (i := 7) (oi := ⟨some 20, _, _, _, _, _⟩) (v := ?_) rfl (by kernel_rfl) (by kernel_rfl) (by kernel_rfl) (fun _ _ _ h => h) (Or.inl ⟨by kernel_rfl, ?_⟩) (by assumption) ?_
          rotate_left 1
          · (intro w hSw; (try dsimp only at hSw); go_simp) <;> (with_reducible rfl)
          (try simp only [Act.put, List.setIfInBounds_toArray, List.set_cons_succ, List.set_cons_zero])
          refine wpAnyH_take (i := 8) (oi := ⟨some 21, _, _, _, _, _⟩) (v := ?_) rfl (by kernel_rfl) (by kernel_rfl) (by kernel_rfl) (fun _ _ _ h => h) (Or.inl ⟨by kernel_rfl, ?_⟩) (by assumption) ?_
          rotate_left 1
          · (intro w hSw; (try dsimp only at hSw); go_simp) <;> (with_reducible rfl)
          (try simp only [Act.put, List.setIfInBounds_toArray, List.set_cons_succ, List.set_cons_zero])
          refine wpAnyH_take (i := 9) (oi := ⟨some 22, _, _, _, _, _⟩) (v := undef) rfl (by kernel_rfl) (by kernel_rfl) (by kernel_rfl) (fun _ _ _ h => h) (Or.inr ⟨by kernel_rfl, rfl⟩) (by assumption) ?_
          (try simp only [Act.put, List.setIfInBounds_toArray, List.set_cons_succ, List.set_cons_zero])
          refine wpAnyH_take (i := 10) (oi := ⟨some 23, _, _, _, _, _⟩) (v := undef) rfl (by kernel_rfl) (by kernel_rfl) (by kernel_rfl) (fun _ _ _ h => h) (Or.inr ⟨by kernel_rfl, rfl⟩) (by assumption) ?_
          (try simp only [Act.put, List.setIfInBounds_toArray, List.set_cons_succ, List.set_cons_zero])
          refine wpAnyH_take (i := 11) (oi := ⟨some 24, _, _, _, _, _⟩) (v := undef) rfl (by kernel_rfl) (by kernel_rfl) (by kernel_rfl) (fun _ _ _ h => h) (Or.inr ⟨by kernel_rfl, rfl⟩) (by assumption) ?_
          (try simp only [Act.put, List.setIfInBounds_toArray, List.set_cons_succ, List.set_cons_zero])
          refine wpAnyH_take (i := 12) (oi := ⟨some 25, _, _, _, _, _⟩) (v := undef) rfl (by kernel_rfl) (by kernel_rfl) (by kernel_rfl) (fun _ _ _ h => h) (Or.inr ⟨by kernel_rfl, rfl⟩) (by assumption) ?_
          (try simp only [Act.put, List.setIfInBounds_toArray, List.set_cons_succ, List.set_cons_zero])
          refine wpAnyH_take (i := 13) (oi := ⟨some 26, _, _, _, _, _⟩) (v := undef) rfl (by kernel_rfl) (by kernel_rfl) (by kernel_rfl) (fun _ _ _ h => h) (Or.inr ⟨by kernel_rfl, rfl⟩) (by assumption) ?_
          (try simp only [Act.put, List.setIfInBounds_toArray, List.set_cons_succ, List.set_cons_zero])
          refine wpAnyH_take (i := 14) (oi := ⟨some 27, _, _, _, _, _⟩) (v := undef) rfl (by kernel_rfl) (by kernel_rfl) (by kernel_rfl) (fun _ _ _ h => h) (Or.inr ⟨by kernel_rfl, rfl⟩) (by assumption) ?_
          (try simp only [Act.put, List.setIfInBounds_toArray, List.set_cons_succ, List.set_cons_zero])
          refine wpAnyH_take (i := 15) (oi := ⟨some 28, _, _, _, _, _⟩) (v := undef) rfl (by kernel_rfl) (by kernel_rfl) (by kernel_rfl) (fun _ _ _ h => h) (Or.inr ⟨by kernel_rfl, rfl⟩) (by assumption) ?_
          (try simp only [Act.put, List.setIfInBounds_toArray, List.set_cons_succ, List.set_cons_zero])
          refine wpAnyH_take (i := 16) (oi := ⟨some 29, _, _, _, _, _⟩) (v := undef) rfl (by kernel_rfl) (by kernel_rfl) (by kernel_rfl) (fun _ _ _ h => h) (Or.inr ⟨by kernel_rfl, rfl⟩) (by assumption) ?_
          (try simp only [Act.put, List.setIfInBounds_toArray, List.set_cons_succ, List.set_cons_zero])
          refine wpAnyH_take (i := 17) (oi := ⟨some 30, _, _, _, _, _⟩) (v := undef) rfl (by kernel_rfl) (by kernel_rfl) (by kernel_rfl) (fun _ _ _ h => h) (Or.inr ⟨by kernel_rfl, rfl⟩) (by assumption) ?_
          (try simp only [Act.put, List.setIfInBounds_toArray, List.set_cons_succ, List.set_cons_zero])
          refine wpAnyH_take (i := 18) (oi := ⟨some 31, _, _, _, _, _⟩) (v := undef) rfl (by kernel_rfl) (by kernel_rfl) (by kernel_rfl) (fun _ _ _ h => h) (Or.inr ⟨by kernel_rfl, rfl⟩) (by assumption) ?_
          (try simp only [Act.put, List.setIfInBounds_toArray, List.set_cons_succ, List.set_cons_zero])
          refine wpAnyH_take (i := 19) (oi := ⟨some 32, _, _, _, _, _⟩) (v := ?_) rfl (by kernel_rfl) (by kernel_rfl) (by kernel_rfl) (fun _ _ _ h => h) (Or.inl ⟨by kernel_rfl, ?_⟩) (by assumption) ?_
          rotate_left 1
          · (intro w hSw; (try dsimp only at hSw); go_simp) <;> (with_reducible rfl)
          (try simp only [Act.put, List.setIfInBounds_toArray, List.set_cons_succ, List.set_cons_zero])
          refine wpAnyH_take (i := 20) (oi := ⟨some 33, _, _, _, _, _⟩) (v := ?_) rfl (by kernel_rfl) (by kernel_rfl) (by kernel_rfl) (fun _ _ _ h => h) (Or.inl ⟨by kernel_rfl, ?_⟩) (by assumption) ?_
          rotate_left 1
          · (intro w hSw; (try dsimp only at hSw); go_simp) <;> (with_reducible rfl)
          (try simp only [Act.put, List.setIfInBounds_toArray, List.set_cons_succ, List.set_cons_zero])
          refine wpAnyH_done (by kernel_rfl) ?_ _
          refine NoPanic.normal ?_
          all_goals
            go_wp2
            go_roundw
            case rel => exact ⟨1, by omega, by go_num, E, hide (btrans KA.out (by first | exact KK.out | exact below_drewN KK.out _))⟩
            case measure => simp [intOf]; omega
        · obtain ⟨b', off', v', e', _, p0, _⟩ := HR.out.cells K.out (show j < L.length by omega)
          injection e' with e'
          injection e' with e1 e2
          subst e1 e2
          have hpb : b < wr.heap.size := Nat.lt_of_lt_of_le hbl K.out.size
          obtain ⟨y, hy⟩ : ∃ y, y = (cAt L j).1 := ⟨_, rfl⟩
          have O2 := hide (show ordB nb L (j + 1) = decide (z ≤ y) by rw [O.out, hq, hy]; simp)
          rw [← hy] at p0
          have P := hide (fun (W : World) (h : Below (wr.alloc (.cells #[.int .i64 z, .slice A1 m c1] 89)).heap.size (wr.alloc (.cells #[.int .i64 z, .slice A1 m c1] 89)) W) => (h.cell (p := ⟨b, off + j * 2, none⟩) (by rw [alloc_size']; exact Nat.lt_succ_of_lt hpb)).trans (((bal (brefl wr) _).cell (p := ⟨b, off + j * 2, none⟩) hpb).trans p0))
          have hj1 : (0 : Int) ≤ (j : Int) := by omega
          have hjl : j < L.length := by omega
          have hwj : IntKind.i64.wrap (j : Int) = j := IntWalk.i64_in _ (by omega)
          clear O p0 hy
          by_cases hzy : z ≤ y
          · have E := hide (NB.out (by rw [O2.out]; exact decide_eq_true hzy))
            clear hq NB NG O2
            go_wp2
            refine wp_region_noPanic ?_
            refine wp_region_held_drew (S := (fun W => W.cell? ⟨w.heap.size, 0, none⟩ = some (.int .i64 dep) ∧ W.cell? ⟨w.heap.size, 1, none⟩ = some (.int .i64 nxt) ∧ W.cell? ⟨w.heap.size, 2, none⟩ = some (.slice Ab nb cb) ∧ W.cell? ⟨w.heap.size, 3, none⟩ = some (.slice (some ⟨b, off, none⟩) L.length c) ∧ W.cell? ⟨w.heap.size, 4, none⟩ = some (.slice Aq nq cq) ∧ W.cell? ⟨wr.heap.size, 0, none⟩ = some (.int .i64 z) ∧ W.cell? ⟨b, off + j * 2, none⟩ = some (.int .i64 y))) (by kernel_rfl) ?_ (fun hHeld => ?_)
            · (have k1 := (XB.out.below KK.out); have k2 := (YB.out.below KK.out); have k3 := P.out _ KK.out; exact ⟨k1.cell 0, k1.cell 1, k1.cell 2, k1.cell 3, k1.cell 4, k2.cell 0, k3⟩)
            refine wpAnyH_take (i := 0) (oi := ⟨some 13, _, _, _, _, _⟩) (v := ?_) rfl (by kernel_rfl) (by kernel_rfl) (by kernel_rfl) (fun _ _ _ h => h) (Or.inl ⟨by kernel_rfl, ?_⟩) (by assumption) ?_
            rotate_left 1
            · (intro w hSw; (try dsimp only at hSw); go_simp) <;> (with_reducible rfl)
            (try simp only [Act.put, List.setIfInBounds_toArray, List.set_cons_succ, List.set_cons_zero])
            refine wpAnyH_take (i := 1) (oi := ⟨some 14, _, _, _, _, _⟩) (v := ?_) rfl (by kernel_rfl) (by kernel_rfl) (by kernel_rfl) (fun _ _ _ h => h) (Or.inl ⟨by kernel_rfl, ?_⟩) (by assumption) ?_
            rotate_left 1
            · (intro w hSw; (try dsimp only at hSw); go_simp) <;> (with_reducible rfl)
            (try simp only [Act.put, List.setIfInBounds_toArray, List.set_cons_succ, List.set_cons_zero])
            refine wpAnyH_take (i := 2) (oi := ⟨some 15, _, _, _, _, _⟩) (v := ?_) rfl (by kernel_rfl) (by kernel_rfl) (by kernel_rfl) (fun _ _ _ h => h) (Or.inl ⟨by kernel_rfl, ?_⟩) (by assumption) ?_
            rotate_left 1
            · (intro w hSw; (try dsimp only at hSw); go_simp) <;> (with_reducible rfl)
            (try simp only [Act.put, List.setIfInBounds_toArray, List.set_cons_succ, List.set_cons_zero])
            refine wpAnyH_ready (rs := [3]) (by kernel_rfl) (by simp) ?_
            refine AllReadyH.cons (o := _) rfl (fun K' hK => ?_) AllReadyH.nil
            go_simp
            refine (IB.out _ _).mono ?_
            rintro e wk ⟨rfl, hbk⟩
            rw [HQ.out]
            replace KK := hide (by first | exact btrans KK.out hbk | exact btrans (below_drewN KK.out _) hbk)
            clear hbk
            refine hK.out _ _ ?_ (fun hHeld => ?_)
            · (have k1 := (XB.out.below KK.out); have k2 := (YB.out.below KK.out); have k3 := P.out _ KK.out; exact ⟨k1.cell 0, k1.cell 1, k1.cell 2, k1.cell 3, k1.cell 4, k2.cell 0, k3⟩)
            clear hK K'
            (try simp only [Act.put, List.setIfInBounds_toArray, List.set_cons_succ, List.set_cons_zero])
            refine wpAnyH_take (i := 4) (oi := ⟨some 17, _, _, _, _, _⟩) (v := ?_) rfl (by kernel_rfl) (by kernel_rfl) (by kernel_rfl) (fun _ _ _ h => h) (Or.inl ⟨by kernel_rfl, ?_⟩) (by assumption) ?_
            rotate_left 1
            · (intro w hSw; (try dsimp only at hSw); go_simp) <;> (with_reducible rfl)
            (try simp only [Act.put, List.setIfInBounds_toArray, List.set_cons_succ, List.set_cons_zero])
            refine wpAnyH_take (i := 5) (oi := ⟨some 18, _, _, _, _, _⟩) (v := ?_) rfl (by kernel_rfl) (by kernel_rfl) (by kernel_rfl) (fun _ _ _ h => h) (Or.inl ⟨by kernel_rfl, ?_⟩) (by assumption) ?_
            rotate_left 1
            · (intro w hSw; (try dsimp only at hSw); go_simp) <;> (with_reducible rfl)
            (try simp only [Act.put, List.setIfInBounds_toArray, List.set_cons_succ, List.set_cons_zero])
            refine wpAnyH_take (i := 6) (oi := ⟨some 19, _, _, _, _, _⟩) (v := ?_) rfl (by kernel_rfl) (by kernel_rfl) (by kernel_rfl) (fun _ _ _ h => h) (Or.inl ⟨by kernel_rfl, ?_⟩) (by assumption) ?_
            rotate_left 1
            · (intro w hSw; (try dsimp only at hSw); go_simp) <;> (with_reducible rfl)
            (try simp only [Act.put, List.setIfInBounds_toArray, List.set_cons_succ, List.set_cons_zero])
            refine wpAnyH_take (i := 7) (oi := ⟨some 20, _, _, _, _, _⟩) (v := ?_) rfl (by kernel_rfl) (by kernel_rfl) (by kernel_rfl) (fun _ _ _ h => h) (Or.inl ⟨by kernel_rfl, ?_⟩) (by assumption) ?_
            rotate_left 1
            · (intro w hSw; (try dsimp only at hSw); go_simp) <;> (with_reducible rfl)
            (try simp only [Act.put, List.setIfInBounds_toArray, List.set_cons_succ, List.set_cons_zero])
            refine wpAnyH_take (i := 8) (oi := ⟨some 21, _, _, _, _, _⟩) (v := ?_) rfl (by kernel_rfl) (by kernel_rfl) (by kernel_rfl) (fun _ _ _ h => h) (Or.inl ⟨by kernel_rfl, ?_⟩) (by assumption) ?_
            rotate_left 1
            · (intro w hSw; (try dsimp only at hSw); go_simp) <;> (with_reducible rfl)
            (try simp only [Act.put, List.setIfInBounds_toArray, List.set_cons_succ, List.set_cons_zero])
            refine wpAnyH_take (i := 9) (oi := ⟨some 22, _, _, _, _, _⟩) (v := ?_) rfl (by kernel_rfl) (by kernel_rfl) (by kernel_rfl) (fun _ _ _ h => h) (Or.inl ⟨by kernel_rfl, ?_⟩) (by assumption) ?_
            rotate_left 1
            · (intro w hSw; (try dsimp only at hSw); go_simp) <;> (with_reducible rfl)
            (try simp only [Act.put, List.setIfInBounds_toArray, List.set_cons_succ, List.set_cons_zero])
            refine wpAnyH_take (i := 10) (oi := ⟨some 23, _, _, _, _, _⟩) (v := ?_) rfl (by kernel_rfl) (by kernel_rfl) (by kernel_rfl) (fun _ _ _ h => h) (Or.inl ⟨by kernel_rfl, ?_⟩) (by assumption) ?_
            rotate_left 1
            · (intro w hSw; (try dsimp only at hSw); go_simp) <;> (with_reducible rfl)
            (try simp only [Act.put, List.setIfInBounds_toArray, List.set_cons_succ, List.set_cons_zero])
            refine wpAnyH_take (i := 11) (oi := ⟨some 24, _, _, _, _, _⟩) (v := ?_) rfl (by kernel_rfl) (by kernel_rfl) (by kernel_rfl) (fun _ _ _ h => h) (Or.inl ⟨by kernel_rfl, ?_⟩) (by assumption) ?_
            rotate_left 1
            · (intro w hSw; (try dsimp only at hSw); go_simp) <;> (with_reducible rfl)
            (try simp only [Act.put, List.setIfInBounds_toArray, List.set_cons_succ, List.set_cons_zero])
            refine wpAnyH_take (i := 12) (oi := ⟨some 25, _, _, _, _, _⟩) (v := ?_) rfl (by kernel_rfl) (by kernel_rfl) (by kernel_rfl) (fun _ _ _ h => h) (Or.inl ⟨by kernel_rfl, ?_⟩) (by assumption) ?_
            rotate_left 1
            · (intro w hSw; (try dsimp only at hSw); go_simp) <;> (with_reducible rfl)
            (try simp only [Act.put, List.setIfInBounds_toArray, List.set_cons_succ, List.set_cons_zero])
            refine wpAnyH_take (i := 13) (oi := ⟨some 26, _, _, _, _, _⟩) (v := ?_) rfl (by kernel_rfl) (by kernel_rfl) (by kernel_rfl) (fun _ _ _ h => h) (Or.inl ⟨by kernel_rfl, ?_⟩) (by assumption) ?_
            rotate_left 1
            · (intro w hSw; (try dsimp only at hSw); go_simp) <;> (with_reducible rfl)
            (try simp only [Act.put, List.setIfInBounds_toArray, List.set_cons_succ, List.set_cons_zero])
            refine wpAnyH_take (i := 14) (oi := ⟨some 27, _, _, _, _, _⟩) (v := ?_) rfl (by kernel_rfl) (by kernel_rfl) (by kernel_rfl) (fun _ _ _ h => h) (Or.inl ⟨by kernel_rfl, ?_⟩) (by assumption) ?_
            rotate_left 1
            · (intro w hSw; (try dsimp only at hSw); go_simp) <;> (with_reducible rfl)
            (try simp only [Act.put, List.setIfInBounds_toArray, List.set_cons_succ, List.set_cons_zero])
            refine wpAnyH_take (i := 15) (oi := ⟨some 28, _, _, _, _, _⟩) (v := ?_) rfl (by kernel_rfl) (by kernel_rfl) (by kernel_rfl) (fun _ _ _ h => h) (Or.inl ⟨by kernel_rfl, ?_⟩) (by assumption) ?_
            rotate_left 1
            · (intro w hSw; (try dsimp only at hSw); go_simp) <;> (with_reducible rfl)
            (try simp only [Act.put, List.setIfInBounds_toArray, List.set_cons_succ, List.set_cons_zero])
            refine wpAnyH_take (i := 16) (oi := ⟨some 29, _, _, _, _, _⟩) (v := ?_) rfl (by kernel_rfl) (by kernel_rfl) (by kernel_rfl) (fun _ _ _ h => h) (Or.inl ⟨by kernel_rfl, ?_⟩) (by assumption) ?_
            rotate_left 1
            · (intro w hSw; (try dsimp only at hSw); go_simp) <;> (with_reducible rfl)
            (try simp only [Act.put, List.setIfInBounds_toArray, List.set_cons_succ, List.set_cons_zero])
            refine wpAnyH_take (i := 17) (oi := ⟨some 30, _, _, _, _, _⟩) (v := ?_) rfl (by kernel_rfl) (by kernel_rfl) (by kernel_rfl) (fun _ _ _ h => h) (Or.inl ⟨by kernel_rfl, ?_⟩) (by assumption) ?_
            rotate_left 1
            · (intro w hSw; (try dsimp only at hSw); go_simp) <;> (with_reducible rfl)
            (try simp only [Act.put, List.setIfInBounds_toArray, List.set_cons_succ, List.set_cons_zero])
            refine wpAnyH_take (i := 18) (oi := ⟨some 31, _, _, _, _, _⟩) (v := ?_) rfl (by kernel_rfl) (by kernel_rfl) (by kernel_rfl) (fun _ _ _ h => h) (Or.inl ⟨by kernel_rfl, ?_⟩) (by assumption) ?_
            rotate_left 1
            · (intro w hSw; (try dsimp only at hSw); go_simp) <;> (with_reducible rfl)
            (try simp only [Act.put, List.setIfInBounds_toArray, List.set_cons_succ, List.set_cons_zero])
            refine wpAnyH_take (i := 19) (oi := ⟨some 32, _, _, _, _, _⟩) (v := ?_) rfl (by kernel_rfl) (by kernel_rfl) (by kernel_rfl) (fun _ _ _ h => h) (Or.inl ⟨by kernel_rfl, ?_⟩) (by assumption) ?_
            rotate_left 1
            · (intro w hSw; (try dsimp only at hSw); go_simp) <;> (with_reducible rfl)
            (try simp only [Act.put, List.setIfInBounds_toArray, List.set_cons_succ, List.set_cons_zero])
            refine wpAnyH_take (i := 20) (oi := ⟨some 33, _, _, _, _, _⟩) (v := ?_) rfl (by kernel_rfl) (by kernel_rfl) (by kernel_rfl) (fun _ _ _ h => h) (Or.inl ⟨by kernel_rfl, ?_⟩) (by assumption) ?_
            rotate_left 1
            · (intro w hSw; (try dsimp only at hSw); go_simp) <;> (with_reducible rfl)
            (try simp only [Act.put, List.setIfInBounds_toArray, List.set_cons_succ, List.set_cons_zero])
            refine wpAnyH_done (by kernel_rfl) ?_ _
            refine NoPanic.normal ?_
            all_goals
              go_wp2
              go_ret
              exact ⟨ret_int E.out.symm, btrans K0.out (btrans KA.out (by first | exact KK.out | exact below_drewN KK.out _))⟩
          · have E := hide (NG.out (by rw [O2.out]; exact decide_eq_false hzy))
            clear hq NB NG O2
            go_wp2
            refine wp_region_noPanic ?_
            refine wp_region_held_drew (S := (fun W => W.cell? ⟨w.heap.size, 0, none⟩ = some (.int .i64 dep) ∧ W.cell? ⟨w.heap.size, 1, none⟩ = some (.int .i64 nxt) ∧ W.cell? ⟨w.heap.size, 2, none⟩ = some (.slice Ab nb cb) ∧ W.cell? ⟨w.heap.size, 3, none⟩ = some (.slice (some ⟨b, off, none⟩) L.length c) ∧ W.cell? ⟨w.heap.size, 4, none⟩ = some (.slice Aq nq cq) ∧ W.cell? ⟨wr.heap.size, 0, none⟩ = some (.int .i64 z) ∧ W.cell? ⟨b, off + j * 2, none⟩ = some (.int .i64 y))) (by kernel_rfl) ?_ (fun hHeld => ?_)
            · (have k1 := (XB.out.below KK.out); have k2 := (YB.out.below KK.out); have k3 := P.out _ KK.out; exact ⟨k1.cell 0, k1.cell 1, k1.cell 2, k1.cell 3, k1.cell 4, k2.cell 0, k3⟩)
            refine wpAnyH_take (i := 0) (oi := ⟨some 13, _, _, _, _, _⟩) (v := ?_) rfl (by kernel_rfl) (by kernel_rfl) (by kernel_rfl) (fun _ _ _ h => h) (Or.inl ⟨by kernel_rfl, ?_⟩) (by assumption) ?_
            rotate_left 1
            · (intro w hSw; (try dsimp only at hSw); go_simp) <;> (with_reducible rfl)
            (try simp only [Act.put, List.setIfInBounds_toArray, List.set_cons_succ, List.set_cons_zero])
            refine wpAnyH_take (i := 1) (oi := ⟨some 14, _, _, _, _, _⟩) (v := ?_) rfl (by kernel_rfl) (by kernel_rfl) (by kernel_rfl) (fun _ _ _ h => h) (Or.inl ⟨by kernel_rfl, ?_⟩) (by assumption) ?_
            rotate_left 1
            · (intro w hSw; (try dsimp only at hSw); go_simp) <;> (with_reducible rfl)
            (try simp only [Act.put, List.setIfInBounds_toArray, List.set_cons_succ, List.set_cons_zero])
            refine wpAnyH_take (i := 2) (oi := ⟨some 15, _, _, _, _, _⟩) (v := ?_) rfl (by kernel_rfl) (by kernel_rfl) (by kernel_rfl) (fun _ _ _ h => h) (Or.inl ⟨by kernel_rfl, ?_⟩) (by assumption) ?_
            rotate_left 1
            · (intro w hSw; (try dsimp only at hSw); go_simp) <;> (with_reducible rfl)
            (try simp only [Act.put, List.setIfInBounds_toArray, List.set_cons_succ, List.set_cons_zero])
            refine wpAnyH_ready (rs := [3]) (by kernel_rfl) (by simp) ?_
            refine AllReadyH.cons (o := _) rfl (fun K' hK => ?_) AllReadyH.nil
            go_simp
            refine (IB.out _ _).mono ?_
            rintro e wk ⟨rfl, hbk⟩
            rw [HQ.out]
            replace KK := hide (by first | exact btrans KK.out hbk | exact btrans (below_drewN KK.out _) hbk)
            clear hbk
            refine hK.out _ _ ?_ (fun hHeld => ?_)
            · (have k1 := (XB.out.below KK.out); have k2 := (YB.out.below KK.out); have k3 := P.out _ KK.out; exact ⟨k1.cell 0, k1.cell 1, k1.cell 2, k1.cell 3, k1.cell 4, k2.cell 0, k3⟩)
            clear hK K'
            (try simp only [Act.put, List.setIfInBounds_toArray, List.set_cons_succ, List.set_cons_zero])
            refine wpAnyH_take (i := 4) (oi := ⟨some 17, _, _, _, _, _⟩) (v := ?_) rfl (by kernel_rfl) (by kernel_rfl) (by kernel_rfl) (fun _ _ _ h => h) (Or.inl ⟨by kernel_rfl, ?_⟩) (by assumption) ?_
            rotate_left 1
            · (intro w hSw; (try dsimp only at hSw); go_simp) <;> (with_reducible rfl)
            (try simp only [Act.put, List.setIfInBounds_toArray, List.set_cons_succ, List.set_cons_zero])
            refine wpAnyH_take (i := 5) (oi := ⟨some 18, _, _, _, _, _⟩) (v := ?_) rfl (by kernel_rfl) (by kernel_rfl) (by kernel_rfl) (fun _ _ _ h => h) (Or.inl ⟨by kernel_rfl, ?_⟩) (by assumption) ?_
            rotate_left 1
            · (intro w hSw; (try dsimp only at hSw); go_simp) <;> (with_reducible rfl)
            (try simp only [Act.put, List.setIfInBounds_toArray, List.set_cons_succ, List.set_cons_zero])
            refine wpAnyH_take (i := 6) (oi := ⟨some 19, _, _, _, _, _⟩) (v := ?_) rfl (by kernel_rfl) (by kernel_rfl) (by kernel_rfl) (fun _ _ _ h => h) (Or.inl ⟨by kernel_rfl, ?_⟩) (by assumption) ?_
            rotate_left 1
            · (intro w hSw; (try dsimp only at hSw); go_simp) <;> (with_reducible rfl)
            (try simp only [Act.put, List.setIfInBounds_toArray, List.set_cons_succ, List.set_cons_zero])
            refine wpAnyH_take (i := 7) (oi := ⟨some 20, _, _, _, _, _⟩) (v := ?_) rfl (by kernel_rfl) (by kernel_rfl) (by kernel_rfl) (fun _ _ _ h => h) (Or.inl ⟨by kernel_rfl, ?_⟩) (by assumption) ?_
            rotate_left 1
            · (intro w hSw; (try dsimp only at hSw); go_simp) <;> (with_reducible rfl)
            (try simp only [Act.put, List.setIfInBounds_toArray, List.set_cons_succ, List.set_cons_zero])
            refine wpAnyH_take (i := 8) (oi := ⟨some 21, _, _, _, _, _⟩) (v := ?_) rfl (by kernel_rfl) (by kernel_rfl) (by kernel_rfl) (fun _ _ _ h => h) (Or.inl ⟨by kernel_rfl, ?_⟩) (by assumption) ?_
            rotate_left 1
            · (intro w hSw; (try dsimp only at hSw); go_simp) <;> (with_reducible rfl)
            (try simp only [Act.put, List.setIfInBounds_toArray, List.set_cons_succ, List.set_cons_zero])
            refine wpAnyH_take (i := 9) (oi := ⟨some 22, _, _, _, _, _⟩) (v := ?_) rfl (by kernel_rfl) (by kernel_rfl) (by kernel_rfl) (fun _ _ _ h => h) (Or.inl ⟨by kernel_rfl, ?_⟩) (by assumption) ?_
            rotate_left 1
            · (intro w hSw; (try dsimp only at hSw); go_simp) <;> (with_reducible rfl)
            (try simp only [Act.put, List.setIfInBounds_toArray, List.set_cons_succ, List.set_cons_zero])
            refine wpAnyH_take (i := 10) (oi := ⟨some 23, _, _, _, _, _⟩) (v := ?_) rfl (by kernel_rfl) (by kernel_rfl) (by kernel_rfl) (fun _ _ _ h => h) (Or.inl ⟨by kernel_rfl, ?_⟩) (by assumption) ?_
            rotate_left 1
            · (intro w hSw; (try dsimp only at hSw); go_simp) <;> (with_reducible rfl)
            (try simp only [Act.put, List.setIfInBounds_toArray, List.set_cons_succ, List.set_cons_zero])
            refine wpAnyH_take (i := 11) (oi := ⟨some 24, _, _, _, _, _⟩) (v := ?_) rfl (by kernel_rfl) (by kernel_rfl) (by kernel_rfl) (fun _ _ _ h => h) (Or.inl ⟨by kernel_rfl, ?_⟩) (by assumption) ?_
            rotate_left 1
            · (intro w hSw; (try dsimp only at hSw); go_simp) <;> (with_reducible rfl)
            (try simp only [Act.put, List.setIfInBounds_toArray, List.set_cons_succ, List.set_cons_zero])
            refine wpAnyH_take (i := 12) (oi := ⟨some 25, _, _, _, _, _⟩) (v := ?_) rfl (by kernel_rfl) (by kernel_rfl) (by kernel_rfl) (fun _ _ _ h => h) (Or.inl ⟨by kernel_rfl, ?_⟩) (by assumption) ?_
            rotate_left 1
            · (intro w hSw; (try dsimp only at hSw); go_simp) <;> (with_reducible rfl)
            (try simp only [Act.put, List.setIfInBounds_toArray, List.set_cons_succ, List.set_cons_zero])
            refine wpAnyH_take (i := 13) (oi := ⟨some 26, _, _, _, _, _⟩) (v := ?_) rfl (by kernel_rfl) (by kernel_rfl) (by kernel_rfl) (fun _ _ _ h => h) (Or.inl ⟨by kernel_rfl, ?_⟩) (by assumption) ?_
            rotate_left 1
            · (intro w hSw; (try dsimp only at hSw); go_simp) <;> (with_reducible rfl)
            (try simp only [Act.put, List.setIfInBounds_toArray, List.set_cons_succ, List.set_cons_zero])
            refine wpAnyH_take (i := 14) (oi := ⟨some 27, _, _, _, _, _⟩) (v := ?_) rfl (by kernel_rfl) (by kernel_rfl) (by kernel_rfl) (fun _ _ _ h => h) (Or.inl ⟨by kernel_rfl, ?_⟩) (by assumption) ?_
            rotate_left 1
            · (intro w hSw; (try dsimp only at hSw); go_simp) <;> (with_reducible rfl)
            (try simp only [Act.put, List.setIfInBounds_toArray, List.set_cons_succ, List.set_cons_zero])
            refine wpAnyH_take (i := 15) (oi := ⟨some 28, _, _, _, _, _⟩) (v := ?_) rfl (by kernel_rfl) (by kernel_rfl) (by kernel_rfl) (fun _ _ _ h => h) (Or.inl ⟨by kernel_rfl, ?_⟩) (by assumption) ?_
            rotate_left 1
            · (intro w hSw; (try dsimp only at hSw); go_simp) <;> (with_reducible rfl)
            (try simp only [Act.put, List.setIfInBounds_toArray, List.set_cons_succ, List.set_cons_zero])
            refine wpAnyH_take (i := 16) (oi := ⟨some 29, _, _, _, _, _⟩) (v := ?_) rfl (by kernel_rfl) (by kernel_rfl) (by kernel_rfl) (fun _ _ _ h => h) (Or.inl ⟨by kernel_rfl, ?_⟩) (by assumption) ?_
            rotate_left 1
            · (intro w hSw; (try dsimp only at hSw); go_simp) <;> (with_reducible rfl)
            (try simp only [Act.put, List.setIfInBounds_toArray, List.set_cons_succ, List.set_cons_zero])
            refine wpAnyH_take (i := 17) (oi := ⟨some 30, _, _, _, _, _⟩) (v := ?_) rfl (by kernel_rfl) (by kernel_rfl) (by kernel_rfl) (fun _ _ _ h => h) (Or.inl ⟨by kernel_rfl, ?_⟩) (by assumption) ?_
            rotate_left 1
            · (intro w hSw; (try dsimp only at hSw); go_simp) <;> (with_reducible rfl)
            (try simp only [Act.put, List.setIfInBounds_toArray, List.set_cons_succ, List.set_cons_zero])
            refine wpAnyH_take (i := 18) (oi := ⟨some 31, _, _, _, _, _⟩) (v := ?_) rfl (by kernel_rfl) (by kernel_rfl) (by kernel_rfl) (fun _ _ _ h => h) (Or.inl ⟨by kernel_rfl, ?_⟩) (by assumption) ?_
            rotate_left 1
            · (intro w hSw; (try dsimp only at hSw); go_simp) <;> (with_reducible rfl)
            (try simp only [Act.put, List.setIfInBounds_toArray, List.set_cons_succ, List.set_cons_zero])
            refine wpAnyH_take (i := 19) (oi := ⟨some 32, _, _, _, _, _⟩) (v := ?_) rfl (by kernel_rfl) (by kernel_rfl) (by kernel_rfl) (fun _ _ _ h => h) (Or.inl ⟨by kernel_rfl, ?_⟩) (by assumption) ?_
            rotate_left 1
            · (intro w hSw; (try dsimp only at hSw); go_simp) <;> (with_reducible rfl)
            (try simp only [Act.put, List.setIfInBounds_toArray, List.set_cons_succ, List.set_cons_zero])
            refine wpAnyH_take (i := 20) (oi := ⟨some 33, _, _, _, _, _⟩) (v := ?_) rfl (by kernel_rfl) (by kernel_rfl) (by kernel_rfl) (fun _ _ _ h => h) (Or.inl ⟨by kernel_rfl, ?_⟩) (by assumption) ?_
            rotate_left 1
            · (intro w hSw; (try dsimp only at hSw); go_simp) <;> (with_reducible rfl)
            (try simp only [Act.put, List.setIfInBounds_toArray, List.set_cons_succ, List.set_cons_zero])
            refine wpAnyH_done (by kernel_rfl) ?_ _
            refine NoPanic.normal ?_
            all_goals
              go_wp2
              go_roundw
              case rel => exact ⟨j + 2, by omega, by go_num, E, hide (btrans KA.out (by first | exact KK.out | exact below_drewN KK.out _))⟩
              case measure => simp [intOf]; omega
    · have E := hide (caE_form (n := nb) (L := L) fun j hj => HA.out j (by omega))
      have x3 := (X.out.below K.out).cell 3
      simp at x3
      rcases cfE_cases L with ⟨e, hb⟩ | ⟨k1, hk1, e, hh, hb⟩
      · have C := hide (NO.out wr (HR.out.below K.out) hb)
        rw [e] at E
        clear hb e
        go_wp2_with fail
        refine C.out.mono ?_
        rintro e w' ⟨rfl, hb⟩
        have K2 := hide hb
        clear hb
        go_wp2
        go_ret
        exact ⟨ret_int E.out.symm, btrans K0.out (btrans K.out K2.out)⟩
      · have C := hide (YES.out wr (HR.out.below K.out) k1 hk1 hh hb)
        rw [e] at E
        clear hb e hh hk1
        go_wp2_with fail
        refine C.out.mono ?_
        rintro e w' ⟨rfl, hb⟩
        have K2 := hide hb
        clear hb
        go_wp2
        go_ret
        exact ⟨ret_int E.out.symm, btrans K0.out (btrans K.out K2.out)⟩
end Go.Proofs.Ytncdilkcblakhaa.Dv
namespace Go.Proofs.Ytncdilkcblakhaa.Dv
open Go Go.RowKit
set_option linter.unusedVariables false
set_option maxHeartbeats 4000000 in
theorem chkrq_any (dep nxt : Int) (Ab : Option Addr) (nb cb : Nat) (Ac : Option Addr) (nc cc : Nat) (Aq : Option Addr) (nq cq : Nat) (i k b : Int) (A : Option Addr) (l : By) (c : Nat) (w : World) :
    Calls Try.prog 57 #[dv dep nxt Ab nb cb Ac nc cc Aq nq cq, .agg #[.int .i64 i, .int .i64 k, .int .i64 b, .slice A l.length c]] w fun e w' => e = .returned (.int .i64 (reqE nb k b l.length)) ∧ Below w.heap.size w w' := by
  obtain ⟨W0, hW0⟩ : ∃ W0, W0 = (w.alloc (.cells #[.int .i64 dep, .int .i64 nxt, .slice Ab nb cb, .slice Ac nc cc, .slice Aq nq cq] 57)).alloc (.cells #[.int .i64 i, .int .i64 k, .int .i64 b, .slice A l.length c] 67) := ⟨_, rfl⟩
  have K0 := hide (show Below w.heap.size w ((w.alloc (.cells #[.int .i64 dep, .int .i64 nxt, .slice Ab nb cb, .slice Ac nc cc, .slice Aq nq cq] 57)).alloc (.cells #[.int .i64 i, .int .i64 k, .int .i64 b, .slice A l.length c] 67)) from bal (bal (brefl w) _) _)
  have Y0 := hide (show Box W0 (w.heap.size + 1) 67 #[.int .i64 i, .int .i64 k, .int .i64 b, .slice A l.length c] by rw [hW0]; exact Box.new2 _ _ _ _)
  have IB := hide (fun w => isb_any dep nxt Ab nb cb (.slice Ac nc cc) (.slice Aq nq cq) b w)
  have HW := hide hW0
  by_cases k1 : k = 1
  · subst k1
    rw [← hW0] at K0
    clear hW0
    cases hq : inB nb b with
    | false =>
      rw [hq] at IB
      have E := hide (show reqE nb 1 b l.length = 2 by unfold reqE; rw [if_neg (by simp), if_pos (by rw [hq]; simp)])
      rw [E.out]
      clear E hq
      go_enter Try.func57, Try.ntmps57
      go_wp2_with fail
      rw [← HW.out]
      refine (IB.out _).mono ?_
      rintro e w1 ⟨rfl, hb⟩
      have K := hide hb
      have y0 := (Y0.out.below hb).cell 0
      have y1 := (Y0.out.below hb).cell 1
      have y2 := (Y0.out.below hb).cell 2
      have y3 := (Y0.out.below hb).cell 3
      simp at y0 y1 y2 y3
      clear hb
      go_wp2
      go_ret
      exact ⟨rfl, btrans K0.out K.out⟩
    | true =>
      rw [hq] at IB
      by_cases hl : l.length = 0
      · have hd : ¬ (0 : Int) < (l.length : Int) := by omega
        have hd2 : ¬ 0 < l.length := by omega
        have E := hide (show reqE nb 1 b l.length = 0 by unfold reqE; rw [if_neg (by simp), if_neg (by rw [hq]; simp), if_neg (by omega)])
        rw [E.out]
        clear E hq hl
        go_enter Try.func57, Try.ntmps57
        go_wp2_with fail
        rw [← HW.out]
        refine (IB.out _).mono ?_
        rintro e w1 ⟨rfl, hb⟩
        have K := hide hb
        have y0 := (Y0.out.below hb).cell 0
        have y1 := (Y0.out.below hb).cell 1
        have y2 := (Y0.out.below hb).cell 2
        have y3 := (Y0.out.below hb).cell 3
        simp at y0 y1 y2 y3
        clear hb
        go_wp2
        go_ret
        exact ⟨rfl, btrans K0.out K.out⟩
      · have hd : (0 : Int) < (l.length : Int) := by omega
        have hd2 : 0 < l.length := by omega
        have E := hide (show reqE nb 1 b l.length = 3 by unfold reqE; rw [if_neg (by simp), if_neg (by rw [hq]; simp), if_pos (by omega)])
        rw [E.out]
        clear E hq hl
        go_enter Try.func57, Try.ntmps57
        go_wp2_with fail
        rw [← HW.out]
        refine (IB.out _).mono ?_
        rintro e w1 ⟨rfl, hb⟩
        have K := hide hb
        have y0 := (Y0.out.below hb).cell 0
        have y1 := (Y0.out.below hb).cell 1
        have y2 := (Y0.out.below hb).cell 2
        have y3 := (Y0.out.below hb).cell 3
        simp at y0 y1 y2 y3
        clear hb
        go_wp2
        go_ret
        exact ⟨rfl, btrans K0.out K.out⟩
  by_cases k2 : k = 2
  · subst k2
    rw [← hW0] at K0
    clear hW0
    cases hq : inB nb b with
    | false =>
      rw [hq] at IB
      have E := hide (show reqE nb 2 b l.length = 2 by unfold reqE; rw [if_neg (by simp), if_pos (by rw [hq]; simp)])
      rw [E.out]
      clear E hq
      go_enter Try.func57, Try.ntmps57
      go_wp2_with fail
      rw [← HW.out]
      refine (IB.out _).mono ?_
      rintro e w1 ⟨rfl, hb⟩
      have K := hide hb
      have y0 := (Y0.out.below hb).cell 0
      have y1 := (Y0.out.below hb).cell 1
      have y2 := (Y0.out.below hb).cell 2
      have y3 := (Y0.out.below hb).cell 3
      simp at y0 y1 y2 y3
      clear hb
      go_wp2
      go_ret
      exact ⟨rfl, btrans K0.out K.out⟩
    | true =>
      rw [hq] at IB
      have NP := hide (fun w => nop_any A l c w)
      by_cases hl : l.length = 32
      · rw [show noP l = false by unfold noP; simpa using hl] at NP
        have E := hide (show reqE nb 2 b l.length = 0 by unfold reqE; rw [if_neg (by simp), if_neg (by rw [hq]; simp), if_neg (by omega)])
        rw [E.out]
        clear E hq hl
        go_enter Try.func57, Try.ntmps57
        go_wp2_with fail
        rw [← HW.out]
        refine (IB.out _).mono ?_
        rintro e w1 ⟨rfl, hb⟩
        have K := hide hb
        have y0 := (Y0.out.below hb).cell 0
        have y1 := (Y0.out.below hb).cell 1
        have y2 := (Y0.out.below hb).cell 2
        have y3 := (Y0.out.below hb).cell 3
        simp at y0 y1 y2 y3
        clear hb
        go_wp2_with (go_at_call 56; refine (NP.out _).mono ?_; rintro e w2 ⟨rfl, rfl⟩)
        go_ret
        exact ⟨rfl, btrans K0.out K.out⟩
      · rw [show noP l = true by unfold noP; simpa using hl] at NP
        have E := hide (show reqE nb 2 b l.length = 3 by unfold reqE; rw [if_neg (by simp), if_neg (by rw [hq]; simp), if_pos (by omega)])
        rw [E.out]
        clear E hq hl
        go_enter Try.func57, Try.ntmps57
        go_wp2_with fail
        rw [← HW.out]
        refine (IB.out _).mono ?_
        rintro e w1 ⟨rfl, hb⟩
        have K := hide hb
        have y0 := (Y0.out.below hb).cell 0
        have y1 := (Y0.out.below hb).cell 1
        have y2 := (Y0.out.below hb).cell 2
        have y3 := (Y0.out.below hb).cell 3
        simp at y0 y1 y2 y3
        clear hb
        go_wp2_with (go_at_call 56; refine (NP.out _).mono ?_; rintro e w2 ⟨rfl, rfl⟩)
        go_ret
        exact ⟨rfl, btrans K0.out K.out⟩
  by_cases k3 : k = 3
  · subst k3
    by_cases hb : b = 0
    · subst hb
      rw [← hW0] at K0
      clear hW0
      cases hq : inB nb 0 with
      | false =>
        rw [hq] at IB
        have E := hide (show reqE nb 3 0 l.length = 2 by unfold reqE; rw [if_neg (by simp), if_pos (by rw [hq]; simp)])
        rw [E.out]
        clear E hq
        go_enter Try.func57, Try.ntmps57
        go_wp2_with fail
        rw [← HW.out]
        refine (IB.out _).mono ?_
        rintro e w1 ⟨rfl, hb⟩
        have K := hide hb
        have y0 := (Y0.out.below hb).cell 0
        have y1 := (Y0.out.below hb).cell 1
        have y2 := (Y0.out.below hb).cell 2
        have y3 := (Y0.out.below hb).cell 3
        simp at y0 y1 y2 y3
        clear hb
        go_wp2
        go_ret
        exact ⟨rfl, btrans K0.out K.out⟩
      | true =>
        rw [hq] at IB
        by_cases hl : l.length = 0
        · have hd : ¬ (0 : Int) < (l.length : Int) := by omega
          have hd2 : ¬ 0 < l.length := by omega
          have E := hide (show reqE nb 3 0 l.length = 0 by unfold reqE; rw [if_neg (by simp), if_neg (by rw [hq]; simp), if_neg (by omega)])
          rw [E.out]
          clear E hq hl
          go_enter Try.func57, Try.ntmps57
          go_wp2_with fail
          rw [← HW.out]
          refine (IB.out _).mono ?_
          rintro e w1 ⟨rfl, hb⟩
          have K := hide hb
          have y0 := (Y0.out.below hb).cell 0
          have y1 := (Y0.out.below hb).cell 1
          have y2 := (Y0.out.below hb).cell 2
          have y3 := (Y0.out.below hb).cell 3
          simp at y0 y1 y2 y3
          clear hb
          go_wp2
          go_ret
          exact ⟨rfl, btrans K0.out K.out⟩
        · have hd : (0 : Int) < (l.length : Int) := by omega
          have hd2 : 0 < l.length := by omega
          have E := hide (show reqE nb 3 0 l.length = 3 by unfold reqE; rw [if_neg (by simp), if_neg (by rw [hq]; simp), if_pos (by omega)])
          rw [E.out]
          clear E hq hl
          go_enter Try.func57, Try.ntmps57
          go_wp2_with fail
          rw [← HW.out]
          refine (IB.out _).mono ?_
          rintro e w1 ⟨rfl, hb⟩
          have K := hide hb
          have y0 := (Y0.out.below hb).cell 0
          have y1 := (Y0.out.below hb).cell 1
          have y2 := (Y0.out.below hb).cell 2
          have y3 := (Y0.out.below hb).cell 3
          simp at y0 y1 y2 y3
          clear hb
          go_wp2
          go_ret
          exact ⟨rfl, btrans K0.out K.out⟩
    · have hd : (b != 0) = true := by simpa using hb
      clear hW0
      have E := hide (show reqE nb 3 b l.length = 2 by unfold reqE; rw [if_neg (by simp), if_pos (Or.inr ⟨rfl, hb⟩)])
      rw [E.out]
      clear E hb IB Y0 HW
      go_enter Try.func57, Try.ntmps57
      go_wp2
      go_ret
      exact ⟨rfl, K0.out⟩
  have h1 : (k != 1) = true := by simpa using k1
  have h2 : (k == 2) = false := by simpa using k2
  have h3 : (k == 3) = false := by simpa using k3
  clear hW0
  have E := hide (show reqE nb k b l.length = 1 by unfold reqE; rw [if_pos ⟨k1, k2, k3⟩])
  rw [E.out]
  clear E k1 k2 k3 IB Y0 HW
  go_enter Try.func57, Try.ntmps57
  go_wp2
  go_ret
  exact ⟨rfl, K0.out⟩
end Go.Proofs.Ytncdilkcblakhaa.Dv
namespace Go.Proofs.Ytncdilkcblakhaa.Dv
open Go Go.RowKit
set_option linter.unusedVariables false
theorem quE_at {n : Nat} {nx : Int} {L : List Rq} {k : Nat} (hk : k < L.length) (h : ∀ j, j < k → q1E n nx L j = 0) (hb : q1E n nx L k ≠ 0) : quE n nx L = q1E n nx L k := firstBad_at hk h hb
theorem quE_ok {n : Nat} {nx : Int} {L : List Rq} (h : ∀ j, j < L.length → q1E n nx L j = 0) : quE n nx L = 0 := firstBad_none h
theorem q1E_id {n : Nat} {nx : Int} {L : List Rq} {j : Nat} (h : q1E n nx L j = 0) : 0 ≤ (qAt L j).1 := by
  unfold q1E at h
  by_cases c : rqE n (qAt L j) = 0
  · rw [if_pos c] at h
    by_cases d : (qAt L j).1 < 0 ∨ nx ≤ (qAt L j).1 ∨ (0 < j ∧ (qAt L j).1 ≤ (qAt L (j - 1)).1)
    · rw [if_pos d] at h; simp at h
    · omega
  · rw [if_neg c] at h; exact absurd h c
/-- the number of the request before the k-th, -1 before the first -/
def befQ (L : List Rq) (k : Nat) : Int := if k = 0 then -1 else (qAt L (k - 1)).1
theorem q1E_bef {n : Nat} {nx : Int} {L : List Rq} {k : Nat} (h : ∀ j, j < k → q1E n nx L j = 0) (hr : rqE n (qAt L k) = 0) :
    q1E n nx L k = if (qAt L k).1 ≤ befQ L k ∨ nx ≤ (qAt L k).1 then 10 else 0 := by
  unfold q1E befQ
  rw [if_pos hr]
  by_cases e : k = 0
  · subst e
    simp only [if_true]
    by_cases c : (qAt L 0).1 < 0 ∨ nx ≤ (qAt L 0).1
    · rw [if_pos (by omega), if_pos (by omega)]
    · rw [if_neg (by omega), if_neg (by omega)]
  · have := q1E_id (h (k - 1) (by omega))
    rw [if_neg e]
    by_cases c : (qAt L k).1 ≤ (qAt L (k - 1)).1 ∨ nx ≤ (qAt L k).1
    · rw [if_pos (by omega), if_pos (by omega)]
    · rw [if_neg (by omega), if_neg (by omega)]
set_option maxHeartbeats 4000000 in
theorem chkqu_any (dep nxt : Int) (Ab : Option Addr) (nb cb : Nat) (Ac : Option Addr) (nc cc : Nat) (A : Option Addr) (L : List Rq) (c : Nat) (w : World) (hr : RdQ w A L) (hn : L.length ≤ 9223372036854775807) :
    Calls Try.prog 59 #[dv dep nxt Ab nb cb Ac nc cc A L.length c] w fun e w' => e = .returned (.int .i64 (if dep < (L.length : Int) then 8 else quE nb nxt L)) ∧ Below w.heap.size w w' := by
  have X := hide (Box.new w 57 #[.int .i64 dep, .int .i64 nxt, .slice Ab nb cb, .slice Ac nc cc, .slice A L.length c])
  have K0 := hide (bal (brefl w) (.cells #[.int .i64 dep, .int .i64 nxt, .slice Ab nb cb, .slice Ac nc cc, .slice A L.length c] 57))
  have HR := hide (hr.below K0.out)
  have RQ := hide (fun i k b A' l c' w => chkrq_any dep nxt Ab nb cb Ac nc cc A L.length c i k b A' l c' w)
  clear hr
  by_cases hf : dep < (L.length : Int)
  · rw [if_pos hf]
    clear RQ HR X
    go_enter Try.func59, Try.ntmps59
    go_wp2
    go_ret
    exact ⟨rfl, K0.out⟩
  rw [if_neg hf]
  go_enter Try.func59, Try.ntmps59
  go_wp2
  obtain ⟨wb, hwb⟩ : ∃ wb, wb = w.alloc (.cells #[.int .i64 dep, .int .i64 nxt, .slice Ab nb cb, .slice Ac nc cc, .slice A L.length c] 57) := ⟨_, rfl⟩
  rw [← hwb] at X K0 HR ⊢
  clear hwb
  go_loopw [3, 5, 6, 16] (fun p _ _ i wr => ∃ k : Nat, k ≤ L.length ∧ i = .int .i64 k ∧ p = .int .i64 (befQ L k) ∧ Hid (∀ j, j < k → q1E nb nxt L j = 0) ∧ Hid (Below wb.heap.size wb wr)) (fun _ _ _ i _ => L.length - (intOf i).toNat)
  case atStart => exact ⟨0, Nat.zero_le _, rfl, rfl, hide fun j hj => absurd hj (Nat.not_lt_zero _), hide (brefl _)⟩
  case round =>
    obtain ⟨k, hk, rfl, rfl, HA, K⟩ := hrel
    by_cases hlt : k < L.length
    · obtain ⟨b, off, v, rfl, hbl, c0, c1, c2, c3, A1, d1, rfl, _, _⟩ := HR.out.cells K.out hlt
      have N1 := hide (fun h => quE_at hlt HA.out h)
      have NX := hide (show befQ L (k + 1) = (qAt L k).1 by unfold befQ; rw [if_neg (by omega)]; rfl)
      have NG := hide (show q1E nb nxt L k = 0 → ∀ j, j < k + 1 → q1E nb nxt L j = 0 from fun h j hj => by
        by_cases e : j = k
        · rw [e]; exact h
        · exact HA.out j (by omega))
      have QB := hide (fun h => q1E_bef (n := nb) (nx := nxt) (L := L) (k := k) HA.out h)
      have QR := hide (show rqE nb (qAt L k) ≠ 0 → q1E nb nxt L k = rqE nb (qAt L k) from fun h => by unfold q1E; rw [if_neg h])
      have RR := hide (show rqE nb (qAt L k) = reqE nb (qAt L k).2.1 (qAt L k).2.2.1 (qAt L k).2.2.2.length from rfl)
      obtain ⟨⟨z0, z1, z2, z3⟩, hz⟩ : ∃ q, q = qAt L k := ⟨_, rfl⟩
      rw [← hz] at c0 c1 c2 c3 NX QB QR RR
      simp only at c0 c1 c2 c3
      have XB := hide ((X.out.below K.out).more (.cells #[.int .i64 z0, .int .i64 z1, .int .i64 z2, .slice A1 z3.length d1] 67))
      have YB := hide (Box.new wr 67 #[.int .i64 z0, .int .i64 z1, .int .i64 z2, .slice A1 z3.length d1])
      have KA := hide (bal K.out (.cells #[.int .i64 z0, .int .i64 z1, .int .i64 z2, .slice A1 z3.length d1] 67))
      have hlw := Nat.lt_of_lt_of_le X.out.lt K.out.size
      obtain ⟨er, her⟩ : ∃ er, er = reqE nb z1 z2 z3.length := ⟨_, rfl⟩
      have C := hide (fun w => RQ.out z0 z1 z2 A1 z3 d1 w)
      rw [← her] at C
      have HER := hide her
      generalize befQ L k = bq at *
      obtain ⟨q0, q1⟩ : wr.cell? ⟨w.heap.size, 0, none⟩ = some (.int .i64 dep) ∧ wr.cell? ⟨w.heap.size, 1, none⟩ = some (.int .i64 nxt) := ⟨(X.out.below K.out).cell 0, (X.out.below K.out).cell 1⟩
      have q2 : wr.cell? ⟨w.heap.size, 2, none⟩ = some (.slice Ab nb cb) := (X.out.below K.out).cell 2
      have q3 : wr.cell? ⟨w.heap.size, 3, none⟩ = some (.slice Ac nc cc) := (X.out.below K.out).cell 3
      have q4 : wr.cell? ⟨w.heap.size, 4, none⟩ = some (.slice (some ⟨b, off, none⟩) L.length c) := (X.out.below K.out).cell 4
      clear hz her
      by_cases he : er = 0
      · subst he
        have R0 := hide (show rqE nb (z0, z1, z2, z3) = 0 by rw [RR.out]; exact HER.out.symm)
        have QQ := hide (QB.out R0.out)
        clear QB QR RR
        by_cases hd1 : z0 ≤ bq
        · have E := hide (show quE nb nxt L = 10 by rw [N1.out (by rw [QQ.out, if_pos (.inl hd1)]; decide), QQ.out, if_pos (.inl hd1)])
          have hdd : decide (z0 ≤ bq) = true := decide_eq_true hd1
          clear N1 NG QQ NX
          go_wp2_with fail
          refine (C.out _).mono ?_
          rintro e w1 ⟨rfl, hb⟩
          have K1 := hide hb
          have y0 := (YB.out.below hb).cell 0
          simp at y0
          clear hb
          go_wp2
          go_ret
          exact ⟨ret_int E.out.symm, btrans K0.out (btrans KA.out K1.out)⟩
        · have hdd : decide (z0 ≤ bq) = false := decide_eq_false hd1
          by_cases hd2 : nxt ≤ z0
          · have E := hide (show quE nb nxt L = 10 by rw [N1.out (by rw [QQ.out, if_pos (.inr hd2)]; decide), QQ.out, if_pos (.inr hd2)])
            have hde : decide (nxt ≤ z0) = true := decide_eq_true hd2
            clear N1 NG QQ NX
            go_wp2_with fail
            refine (C.out _).mono ?_
            rintro e w1 ⟨rfl, hb⟩
            have K1 := hide hb
            have y0 := (YB.out.below hb).cell 0
            have x1 := (XB.out.below hb).cell 1
            simp at y0 x1
            clear hb
            go_wp2
            go_ret
            exact ⟨ret_int E.out.symm, btrans K0.out (btrans KA.out K1.out)⟩
          · have hde : decide (nxt ≤ z0) = false := decide_eq_false hd2
            have E := hide (NG.out (by rw [QQ.out, if_neg (by omega)]))
            clear N1 NG QQ
            go_wp2_with fail
            refine (C.out _).mono ?_
            rintro e w1 ⟨rfl, hb⟩
            have K1 := hide hb
            have y0 := (YB.out.below hb).cell 0
            have x1 := (XB.out.below hb).cell 1
            simp at y0 x1
            clear hb
            go_wp2
            go_roundw
            case rel => exact ⟨k + 1, by omega, by go_num, by rw [NX.out], E, hide (btrans KA.out K1.out)⟩
            case measure => simp [intOf]; omega
      · have E := hide (show quE nb nxt L = er by
          have e1 : q1E nb nxt L k = er := (QR.out (by rw [RR.out]; rw [HER.out] at he; exact he)).trans (RR.out.trans HER.out.symm)
          rw [N1.out (by rw [e1]; exact he), e1])
        have hd : (er != 0) = true := by simpa using he
        clear N1 NG NX QB QR RR HER he
        go_wp2_with fail
        refine (C.out _).mono ?_
        rintro e w1 ⟨rfl, hb⟩
        have K1 := hide hb
        clear hb
        go_wp2
        go_ret
        exact ⟨ret_int E.out.symm, btrans K0.out (btrans KA.out K1.out)⟩
    · have E := hide (quE_ok (n := nb) (nx := nxt) (L := L) fun j hj => HA.out j (by omega))
      go_wp2
      go_ret
      exact ⟨ret_int E.out.symm, btrans K0.out K.out⟩
end Go.Proofs.Ytncdilkcblakhaa.Dv
namespace Go.Proofs.Ytncdilkcblakhaa.Dv
open Go Go.RowKit
set_option linter.unusedVariables false
theorem chk_n {D : Dev} (h : D.nxt < 0 ∨ mx < D.nxt) : chk D = 2 := by unfold chk; rw [if_pos h]
theorem chk_b {D : Dev} (h : ¬ (D.nxt < 0 ∨ mx < D.nxt)) (h2 : nwE D.dep D.bl ≠ 0) : chk D = nwE D.dep D.bl := by unfold chk; rw [if_neg h, if_pos h2]
theorem chk_c {D : Dev} (h : ¬ (D.nxt < 0 ∨ mx < D.nxt)) (h2 : nwE D.dep D.bl = 0) (h3 : caE D.bl.length D.ca ≠ 0) : chk D = caE D.bl.length D.ca := by unfold chk; rw [if_neg h, if_neg (by simpa using h2), if_pos h3]
theorem chk_q {D : Dev} (h : ¬ (D.nxt < 0 ∨ mx < D.nxt)) (h2 : nwE D.dep D.bl = 0) (h3 : caE D.bl.length D.ca = 0) : chk D = if D.dep < D.qu.length then 8 else quE D.bl.length D.nxt D.qu := by unfold chk; rw [if_neg h, if_neg (by simpa using h2), if_neg (by simpa using h3)]
set_option maxHeartbeats 4000000 in
theorem check_any (v : Value) (D : Dev) (w : World) (h : DevIn w v D) (hB : Big D) :
    Calls Try.prog 46 #[v] w fun e w' => e = .returned (.int .i64 (chk D)) ∧ Below w.heap.size w w' := by
  obtain ⟨Ab, cb, Ac, cc, Aq, cq, rfl, h1, h2, h3, rb, rc, rq⟩ := h
  obtain ⟨W0, hW0⟩ : ∃ W0, W0 = w.alloc (.cells #[.int .i64 D.dep, .int .i64 D.nxt, .slice Ab D.bl.length cb, .slice Ac D.ca.length cc, .slice Aq D.qu.length cq] 57) := ⟨_, rfl⟩
  have K0 := hide (show Below w.heap.size w W0 by rw [hW0]; exact bal (brefl w) _)
  have X := hide (show Box W0 w.heap.size 57 #[.int .i64 D.dep, .int .i64 D.nxt, .slice Ab D.bl.length cb, .slice Ac D.ca.length cc, .slice Aq D.qu.length cq] by rw [hW0]; exact Box.new w 57 _)
  have RB := hide (rb.below K0.out)
  have RC := hide (rc.below K0.out)
  have RQ := hide (rq.below K0.out)
  by_cases g1 : D.nxt < 0
  · have E := hide (chk_n (.inl g1))
    have hd : decide (D.nxt < 0) = true := decide_eq_true g1
    generalize D.dep = dep at *
    generalize D.nxt = nxt at *
    clear rb rc rq RB RC RQ
    go_enter Try.func46, Try.ntmps46
    go_wp2
    rw [← hW0]
    go_ret
    exact ⟨ret_int E.out.symm, K0.out⟩
  have hd1 : decide (D.nxt < 0) = false := decide_eq_false g1
  by_cases g2 : mx < D.nxt
  · have E := hide (chk_n (.inr g2))
    have hd : decide ((1099511627776 : Int) < D.nxt) = true := decide_eq_true g2
    generalize D.dep = dep at *
    generalize D.nxt = nxt at *
    clear rb rc rq RB RC RQ g2
    go_enter Try.func46, Try.ntmps46
    go_wp2
    rw [← hW0]
    go_ret
    exact ⟨ret_int E.out.symm, K0.out⟩
  have hd2 : decide ((1099511627776 : Int) < D.nxt) = false := decide_eq_false g2
  have G := hide (show ¬ (D.nxt < 0 ∨ mx < D.nxt) from fun h => h.elim g1 g2)
  have C1 := hide (fun W (hb : Below W0.heap.size W0 W) => chkbl_any D.dep Ab D.bl cb W (RB.out.below hb) hB.bl)
  have C2 := hide (fun W (hb : Below W0.heap.size W0 W) => chkca_any D.dep D.nxt Ab D.bl.length cb Ac D.ca cc Aq D.qu.length cq W (RC.out.below hb) hB.ca)
  have C3 := hide (fun W (hb : Below W0.heap.size W0 W) => chkqu_any D.dep D.nxt Ab D.bl.length cb Ac D.ca.length cc Aq D.qu cq W (RQ.out.below hb) hB.qu)
  have HW := hide hW0
  clear rb rc rq RB RC RQ g1 g2 hB
  by_cases e1 : nwE D.dep D.bl = 0
  · have E1 := hide e1
    rw [e1] at C1
    by_cases e2 : caE D.bl.length D.ca = 0
    · have E := hide (chk_q G.out E1.out e2)
      rw [e2] at C2
      generalize (if D.dep < (D.qu.length : Int) then (8 : Int) else quE D.bl.length D.nxt D.qu) = er at *
      generalize D.dep = dep at *
      generalize D.nxt = nxt at *
      clear e1 e2 E1 G hW0
      go_enter Try.func46, Try.ntmps46
      go_wp2_with fail
      rw [← HW.out]
      refine (C1.out _ (brefl _)).mono ?_
      rintro e w1 ⟨rfl, rfl⟩
      obtain ⟨x0, x1⟩ : W0.cell? ⟨w.heap.size, 0, none⟩ = some (.int .i64 dep) ∧ W0.cell? ⟨w.heap.size, 1, none⟩ = some (.int .i64 nxt) := ⟨X.out.cell 0, X.out.cell 1⟩
      have x2 := X.out.cell 2
      have x3 := X.out.cell 3
      have x4 := X.out.cell 4
      simp at x2 x3 x4
      go_wp2_with fail
      refine (C2.out _ (brefl _)).mono ?_
      rintro e w1 ⟨rfl, hb⟩
      have K := hide hb
      clear hb x0 x1 x2 x3 x4
      have x0 := (X.out.below K.out).cell 0
      have x1 := (X.out.below K.out).cell 1
      have x2 := (X.out.below K.out).cell 2
      have x3 := (X.out.below K.out).cell 3
      have x4 := (X.out.below K.out).cell 4
      simp at x0 x1 x2 x3 x4
      go_wp2_with fail
      refine (C3.out _ K.out).mono ?_
      rintro e w2 ⟨rfl, hb⟩
      have K2 := hide hb
      clear hb x0 x1 x2 x3 x4
      go_wp2
      go_ret
      exact ⟨ret_int E.out.symm, btrans K0.out (btrans K.out K2.out)⟩
    · have E := hide (chk_c G.out E1.out e2)
      have hd : (caE D.bl.length D.ca != 0) = true := by simpa using e2
      generalize caE D.bl.length D.ca = er at *
      generalize D.dep = dep at *
      generalize D.nxt = nxt at *
      clear e1 e2 E1 G hW0
      go_enter Try.func46, Try.ntmps46
      go_wp2_with fail
      rw [← HW.out]
      refine (C1.out _ (brefl _)).mono ?_
      rintro e w1 ⟨rfl, rfl⟩
      obtain ⟨x0, x1⟩ : W0.cell? ⟨w.heap.size, 0, none⟩ = some (.int .i64 dep) ∧ W0.cell? ⟨w.heap.size, 1, none⟩ = some (.int .i64 nxt) := ⟨X.out.cell 0, X.out.cell 1⟩
      have x2 := X.out.cell 2
      have x3 := X.out.cell 3
      have x4 := X.out.cell 4
      simp at x2 x3 x4
      go_wp2_with fail
      refine (C2.out _ (brefl _)).mono ?_
      rintro e w1 ⟨rfl, hb⟩
      have K := hide hb
      clear hb x0 x1 x2 x3 x4
      go_wp2
      go_ret
      exact ⟨ret_int E.out.symm, btrans K0.out K.out⟩
  · have E := hide (chk_b G.out e1)
    have hd : (nwE D.dep D.bl != 0) = true := by simpa using e1
    generalize nwE D.dep D.bl = er at *
    generalize D.dep = dep at *
    generalize D.nxt = nxt at *
    clear e1 G hW0
    go_enter Try.func46, Try.ntmps46
    go_wp2_with fail
    rw [← HW.out]
    refine (C1.out _ (brefl _)).mono ?_
    rintro e w1 ⟨rfl, rfl⟩
    go_wp2
    go_ret
    exact ⟨ret_int E.out.symm, K0.out⟩
end Go.Proofs.Ytncdilkcblakhaa.Dv
