import Derived.Test.YtnegigcjeoenmaaMath
import Derived.Test.YtnegigcjeoenmaaFrame
import Derived.Shelf.Abstract
namespace Go.Proofs.Ytnegigcjeoenmaa.Dv
open Go Go.RowKit
set_option linter.unusedVariables false
def Enters (g : Nat) : Prop := ∀ args w, (callFunc g args).run Try.prog w = .ok (.enter g args) w
theorem enters57 : Enters 57 := Go.Proofs.enters_of Try.func57 (by kernel_rfl) rfl
theorem enters59 : Enters 59 := Go.Proofs.enters_of Try.func59 (by kernel_rfl) rfl
theorem Bs.cells {w w' : World} {A : Option Addr} {l : By} (h : Bs w A l) (hb : Below w.heap.size w w') {k : Nat} (hk : k < l.length) : ∃ b off, A = some ⟨b, off, none⟩ ∧ b < w.heap.size ∧ w'.cell? ⟨b, off + k, none⟩ = some (.int .u8 (l.getD k 0)) := by
  obtain ⟨b, off, e, hl, hc⟩ := h (by rintro rfl; simp at hk)
  exact ⟨b, off, e, hl, (hb.cell (p := ⟨b, _, none⟩) hl).trans (hc k hk)⟩
theorem nop_any (A : Option Addr) (l : By) (c : Nat) (w : World) : Calls Try.prog 57 #[.slice A l.length c] w fun e w' => e = .returned (.bool (noP l)) ∧ w = w' := by
  unfold noP
  by_cases h : l.length = 32
  · have e : decide (l.length ≠ 32) = false := by simpa using h
    rw [e]
    have hd : ((l.length : Int) != 32) = false := by simp; omega
    clear h e
    go_enter Try.func57, Try.ntmps57
    go_wp2
    go_ret
    exact ⟨rfl, rfl⟩
  · have e : decide (l.length ≠ 32) = true := by simpa using h
    rw [e]
    have hd : ((l.length : Int) != 32) = true := by simp; omega
    clear h e
    go_enter Try.func57, Try.ntmps57
    go_wp2
    go_ret
    exact ⟨rfl, rfl⟩
set_option maxHeartbeats 1000000 in
theorem sbytes (A1 A2 : Option Addr) (c1 c2 : Nat) (l : By) (w : World) (h1 : Bs w A1 l) (h2 : Bs w A2 l) (hn : l.length ≤ 9223372036854775807) :
    Calls Try.prog 18 #[.slice A1 l.length c1, .slice A2 l.length c2] w fun e w' => e = .returned (.bool true) ∧ Below w.heap.size w w' := by
  have H1 := hide h1
  have H2 := hide h2
  clear h1 h2
  go_enter Try.func18, Try.ntmps18
  go_wp2
  go_loopw [5] (fun i wr => ∃ k : Nat, k ≤ l.length ∧ i = .int .i64 k ∧ Hid (Below w.heap.size w wr)) (fun i _ => l.length - (intOf i).toNat)
  case atStart => exact ⟨0, Nat.zero_le _, rfl, hide (brefl _)⟩
  case round =>
    obtain ⟨k, hk, rfl, K⟩ := hrel
    by_cases hlt : k < l.length
    · obtain ⟨b1, o1, rfl, hb1, x1⟩ := H1.out.cells K.out hlt
      obtain ⟨b2, o2, rfl, hb2, x2⟩ := H2.out.cells K.out hlt
      generalize l.getD k 0 = z at *
      go_wp2
      go_quiet (fail)
      go_wp2
      go_roundw
      case rel => exact ⟨k + 1, by omega, by go_num, hide (below_drewN K.out _)⟩
      case measure => simp [intOf]; omega
    · go_wp2
      go_ret
      exact ⟨rfl, K.out⟩
-- ContainsFunc over blocks
theorem blE_bad {L : List By} {k : Nat} (hk : k < L.length) (h : noP (bAt L k) = true) (hb : ∀ j, j < k → noP (bAt L j) = false) : blE L = 3 := by
  unfold blE
  rw [firstBad_at hk (fun j hj => by rw [hb j hj]; rfl) (by rw [h]; decide), h]; rfl
theorem blE_ok {L : List By} (hb : ∀ j, j < L.length → noP (bAt L j) = false) : blE L = 0 := firstBad_none fun j hj => by rw [hb j hj]; rfl
theorem blE_cases (L : List By) : (blE L = 0 ∧ ∀ j, j < L.length → noP (bAt L j) = false) ∨ ∃ k : Nat, k < L.length ∧ blE L = 3 ∧ noP (bAt L k) = true ∧ ∀ j, j < k → noP (bAt L j) = false := by
  by_cases c : ∃ k, k < L.length ∧ noP (bAt L k) = true
  · obtain ⟨k, hk⟩ := c
    induction k using Nat.strongRecOn with
    | ind k ih =>
      by_cases d : ∃ j, j < k ∧ noP (bAt L j) = true
      · obtain ⟨j, hj, hp⟩ := d
        exact ih j hj ⟨by omega, hp⟩
      · have hb : ∀ j, j < k → noP (bAt L j) = false := fun j hj => by
          cases e : noP (bAt L j)
          · rfl
          · exact absurd ⟨j, hj, e⟩ d
        exact .inr ⟨k, hk.1, blE_bad hk.1 hk.2 hb, hk.2, hb⟩
  · have hb : ∀ j, j < L.length → noP (bAt L j) = false := fun j hj => by
      cases e : noP (bAt L j)
      · rfl
      · exact absurd ⟨j, hj, e⟩ c
    exact .inl ⟨blE_ok hb, hb⟩
theorem cfE_bad {L : List Ca} {k : Nat} (hk : k < L.length) (h : noP (cAt L k).2 = true) (hb : ∀ j, j < k → noP (cAt L j).2 = false) : cfE L = 3 := by
  unfold cfE
  rw [firstBad_at hk (fun j hj => by rw [hb j hj]; rfl) (by rw [h]; decide), h]; rfl
theorem cfE_ok {L : List Ca} (hb : ∀ j, j < L.length → noP (cAt L j).2 = false) : cfE L = 0 := firstBad_none fun j hj => by rw [hb j hj]; rfl
theorem cfE_cases (L : List Ca) : (cfE L = 0 ∧ ∀ j, j < L.length → noP (cAt L j).2 = false) ∨ ∃ k : Nat, k < L.length ∧ cfE L = 3 ∧ noP (cAt L k).2 = true ∧ ∀ j, j < k → noP (cAt L j).2 = false := by
  by_cases c : ∃ k, k < L.length ∧ noP (cAt L k).2 = true
  · obtain ⟨k, hk⟩ := c
    induction k using Nat.strongRecOn with
    | ind k ih =>
      by_cases d : ∃ j, j < k ∧ noP (cAt L j).2 = true
      · obtain ⟨j, hj, hp⟩ := d
        exact ih j hj ⟨by omega, hp⟩
      · have hb : ∀ j, j < k → noP (cAt L j).2 = false := fun j hj => by
          cases e : noP (cAt L j).2
          · rfl
          · exact absurd ⟨j, hj, e⟩ d
        exact .inr ⟨k, hk.1, cfE_bad hk.1 hk.2 hb, hk.2, hb⟩
  · have hb : ∀ j, j < L.length → noP (cAt L j).2 = false := fun j hj => by
      cases e : noP (cAt L j).2
      · rfl
      · exact absurd ⟨j, hj, e⟩ c
    exact .inl ⟨cfE_ok hb, hb⟩
set_option maxHeartbeats 1000000 in
/-- IndexFunc over blocks: a hit or none -/
theorem idxB_hit (A : Option Addr) (L : List By) (c k0 : Nat) (w : World) (hr : RdB w A L) (hn : L.length ≤ 9223372036854775807) (hk0 : k0 < L.length) (hh : noP (bAt L k0) = true) (hbf : ∀ j, j < k0 → noP (bAt L j) = false) :
    Calls Try.prog 64 #[.slice A L.length c, .func (.func 57) #[] #[]] w fun e w' => e = .returned (.int .i64 k0) ∧ w = w' := by
  have HR := hide hr
  have HH := hide hh
  have HB := hide hbf
  have eg := enters57
  unfold Enters at eg
  clear hr hh hbf
  go_enter Try.func64, Try.ntmps64
  go_wp2
  go_loop [5, 8] (fun _ i => ∃ k : Nat, k ≤ k0 ∧ i = .int .i64 k) (fun _ i => L.length - (intOf i).toNat)
  case atStart => exact ⟨0, Nat.zero_le _, rfl⟩
  case round =>
    obtain ⟨k, hk, rfl⟩ := hrel
    have hlt : k < L.length := by omega
    obtain ⟨b, off, v, rfl, hbl, c0, A1, c1, rfl, _, _⟩ := HR.out.cells (brefl _) hlt
    have C := hide (fun w => nop_any A1 (bAt L k) c1 w)
    by_cases e : k = k0
    · subst e
      rw [HH.out] at C
      generalize (bAt L k).length = m at *
      go_wp2_with fail
      refine (C.out _).mono ?_
      rintro e w' ⟨rfl, rfl⟩
      go_wp2
      go_ret
      exact ⟨rfl, rfl⟩
    · rw [HB.out k (by omega)] at C
      generalize (bAt L k).length = m at *
      have hk2 : k < k0 := by omega
      clear e
      go_wp2_with fail
      refine (C.out _).mono ?_
      rintro e w' ⟨rfl, rfl⟩
      go_wp2
      go_round
      case rel => exact ⟨k + 1, by omega, by go_num⟩
      case measure => simp [intOf]; omega
set_option maxHeartbeats 1000000 in
theorem idxB_miss (A : Option Addr) (L : List By) (c : Nat) (w : World) (hr : RdB w A L) (hn : L.length ≤ 9223372036854775807) (hbf : ∀ j, j < L.length → noP (bAt L j) = false) :
    Calls Try.prog 64 #[.slice A L.length c, .func (.func 57) #[] #[]] w fun e w' => e = .returned (.int .i64 (-1)) ∧ w = w' := by
  have HR := hide hr
  have HB := hide hbf
  have eg := enters57
  unfold Enters at eg
  clear hr hbf
  go_enter Try.func64, Try.ntmps64
  go_wp2
  go_loop [5, 8] (fun _ i => ∃ k : Nat, k ≤ L.length ∧ i = .int .i64 k) (fun _ i => L.length - (intOf i).toNat)
  case atStart => exact ⟨0, Nat.zero_le _, rfl⟩
  case round =>
    obtain ⟨k, hk, rfl⟩ := hrel
    by_cases hlt : k < L.length
    · obtain ⟨b, off, v, rfl, hbl, c0, A1, c1, rfl, _, _⟩ := HR.out.cells (brefl _) hlt
      have C := hide (fun w => nop_any A1 (bAt L k) c1 w)
      rw [HB.out k (by omega)] at C
      generalize (bAt L k).length = m at *
      go_wp2_with fail
      refine (C.out _).mono ?_
      rintro e w' ⟨rfl, rfl⟩
      go_wp2
      go_round
      case rel => exact ⟨k + 1, by omega, by go_num⟩
      case measure => simp [intOf]; omega
    · go_wp2
      go_ret
      exact ⟨rfl, rfl⟩
theorem contB_yes (A : Option Addr) (L : List By) (c k0 : Nat) (w : World) (hr : RdB w A L) (hn : L.length ≤ 9223372036854775807) (hk0 : k0 < L.length) (hh : noP (bAt L k0) = true) (hbf : ∀ j, j < k0 → noP (bAt L j) = false) :
    Calls Try.prog 56 #[.slice A L.length c, .func (.func 57) #[] #[]] w fun e w' => e = .returned (.bool true) ∧ w = w' := by
  have C := hide (idxB_hit A L c k0 w hr hn hk0 hh hbf)
  have hz : (0 : Int) ≤ (k0 : Int) := by omega
  clear hr hn hh hbf hk0
  go_enter Try.func56, Try.ntmps56
  go_wp2_with fail
  refine C.out.mono ?_
  rintro e w' ⟨rfl, rfl⟩
  go_wp2
  go_ret
  exact ⟨ret_bool (by simp), rfl⟩
theorem contB_no (A : Option Addr) (L : List By) (c : Nat) (w : World) (hr : RdB w A L) (hn : L.length ≤ 9223372036854775807) (hbf : ∀ j, j < L.length → noP (bAt L j) = false) :
    Calls Try.prog 56 #[.slice A L.length c, .func (.func 57) #[] #[]] w fun e w' => e = .returned (.bool false) ∧ w = w' := by
  have C := hide (idxB_miss A L c w hr hn hbf)
  clear hr hn hbf
  go_enter Try.func56, Try.ntmps56
  go_wp2_with fail
  refine C.out.mono ?_
  rintro e w' ⟨rfl, rfl⟩
  go_wp2
  go_ret
  exact ⟨ret_bool (by simp), rfl⟩
end Go.Proofs.Ytnegigcjeoenmaa.Dv
