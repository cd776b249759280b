import Derived.Test.YtnegigcjeoenmaaRd6
namespace Go.Proofs.Ytnegigcjeoenmaa.Dv
open Go Go.RowKit
set_option linter.unusedVariables false
set_option maxHeartbeats 4000000 in
theorem rreq_any (k b : Int) (len nb : Nat) (w : World) :
    Calls Try.prog 43 #[.int .i64 k, .int .i64 b, .int .i64 len, .int .i64 nb] w fun e w' => e = .returned (.int .i64 (reqE nb k b len)) ∧ w = w' := by
  by_cases k1 : k = 1
  · subst k1
    by_cases b0 : b < 0
    · have hd : decide (b < 0) = true := decide_eq_true b0
      rw [show reqE nb 1 b len = 2 by unfold reqE; rw [if_neg (by omega), if_pos (.inl (by unfold inB; exact decide_eq_false (by omega)))]]
      clear b0
      go_enter Try.func43, Try.ntmps43
      go_wp2
      go_ret
      exact ⟨rfl, rfl⟩
    have hb0 : decide (b < 0) = false := decide_eq_false b0
    by_cases b1 : (nb : Int) ≤ b
    · have hd : decide ((nb : Int) ≤ b) = true := decide_eq_true b1
      rw [show reqE nb 1 b len = 2 by unfold reqE; rw [if_neg (by omega), if_pos (.inl (by unfold inB; exact decide_eq_false (by omega)))]]
      clear b0 b1
      go_enter Try.func43, Try.ntmps43
      go_wp2
      go_ret
      exact ⟨rfl, rfl⟩
    have hb1 : decide ((nb : Int) ≤ b) = false := decide_eq_false b1
    have hin : inB nb b = true := by unfold inB; exact decide_eq_true (by omega)
    by_cases l0 : len = 0
    · have hl : ((len : Int) != 0) = false := by simp; omega
      rw [show reqE nb 1 b len = 0 by unfold reqE; rw [if_neg (by omega), if_neg (by rw [hin]; simp), if_neg (by omega)]]
      clear b0 b1 hin l0
      go_enter Try.func43, Try.ntmps43
      go_wp2
      go_ret
      exact ⟨rfl, rfl⟩
    · have hl : ((len : Int) != 0) = true := by simp; omega
      rw [show reqE nb 1 b len = 3 by unfold reqE; rw [if_neg (by omega), if_neg (by rw [hin]; simp), if_pos (by omega)]]
      clear b0 b1 hin l0
      go_enter Try.func43, Try.ntmps43
      go_wp2
      go_ret
      exact ⟨rfl, rfl⟩
  by_cases k2 : k = 2
  · subst k2
    by_cases b0 : b < 0
    · have hd : decide (b < 0) = true := decide_eq_true b0
      rw [show reqE nb 2 b len = 2 by unfold reqE; rw [if_neg (by omega), if_pos (.inl (by unfold inB; exact decide_eq_false (by omega)))]]
      clear b0
      go_enter Try.func43, Try.ntmps43
      go_wp2
      go_ret
      exact ⟨rfl, rfl⟩
    have hb0 : decide (b < 0) = false := decide_eq_false b0
    by_cases b1 : (nb : Int) ≤ b
    · have hd : decide ((nb : Int) ≤ b) = true := decide_eq_true b1
      rw [show reqE nb 2 b len = 2 by unfold reqE; rw [if_neg (by omega), if_pos (.inl (by unfold inB; exact decide_eq_false (by omega)))]]
      clear b0 b1
      go_enter Try.func43, Try.ntmps43
      go_wp2
      go_ret
      exact ⟨rfl, rfl⟩
    have hb1 : decide ((nb : Int) ≤ b) = false := decide_eq_false b1
    have hin : inB nb b = true := by unfold inB; exact decide_eq_true (by omega)
    by_cases l0 : len = 32
    · have hl : ((len : Int) != 32) = false := by simp; omega
      rw [show reqE nb 2 b len = 0 by unfold reqE; rw [if_neg (by omega), if_neg (by rw [hin]; simp), if_neg (by omega)]]
      clear b0 b1 hin l0
      go_enter Try.func43, Try.ntmps43
      go_wp2
      go_ret
      exact ⟨rfl, rfl⟩
    · have hl : ((len : Int) != 32) = true := by simp; omega
      rw [show reqE nb 2 b len = 3 by unfold reqE; rw [if_neg (by omega), if_neg (by rw [hin]; simp), if_pos (by omega)]]
      clear b0 b1 hin l0
      go_enter Try.func43, Try.ntmps43
      go_wp2
      go_ret
      exact ⟨rfl, rfl⟩
  by_cases k3 : k = 3
  · subst k3
    by_cases b0 : b < 0
    · have hd : decide (b < 0) = true := decide_eq_true b0
      rw [show reqE nb 3 b len = 2 by unfold reqE; rw [if_neg (by omega), if_pos (.inl (by unfold inB; exact decide_eq_false (by omega)))]]
      clear b0
      go_enter Try.func43, Try.ntmps43
      go_wp2
      go_ret
      exact ⟨rfl, rfl⟩
    have hb0 : decide (b < 0) = false := decide_eq_false b0
    by_cases b1 : (nb : Int) ≤ b
    · have hd : decide ((nb : Int) ≤ b) = true := decide_eq_true b1
      rw [show reqE nb 3 b len = 2 by unfold reqE; rw [if_neg (by omega), if_pos (.inl (by unfold inB; exact decide_eq_false (by omega)))]]
      clear b0 b1
      go_enter Try.func43, Try.ntmps43
      go_wp2
      go_ret
      exact ⟨rfl, rfl⟩
    have hb1 : decide ((nb : Int) ≤ b) = false := decide_eq_false b1
    have hin : inB nb b = true := by unfold inB; exact decide_eq_true (by omega)
    by_cases b2 : b = 0
    · have hd : (b != 0) = false := by simpa using b2
      by_cases l0 : len = 0
      · have hl : ((len : Int) != 0) = false := by simp; omega
        rw [show reqE nb 3 b len = 0 by unfold reqE; rw [if_neg (by omega), if_neg (by rw [hin, b2]; simp), if_neg (by omega)]]
        clear b0 b1 hin b2 l0
        go_enter Try.func43, Try.ntmps43
        go_wp2
        go_ret
        exact ⟨rfl, rfl⟩
      · have hl : ((len : Int) != 0) = true := by simp; omega
        rw [show reqE nb 3 b len = 3 by unfold reqE; rw [if_neg (by omega), if_neg (by rw [hin, b2]; simp), if_pos (by omega)]]
        clear b0 b1 hin b2 l0
        go_enter Try.func43, Try.ntmps43
        go_wp2
        go_ret
        exact ⟨rfl, rfl⟩
    · have hd : (b != 0) = true := by simpa using b2
      rw [show reqE nb 3 b len = 2 by unfold reqE; rw [if_neg (by omega), if_pos (.inr ⟨rfl, b2⟩)]]
      clear b0 b1 hin b2
      go_enter Try.func43, Try.ntmps43
      go_wp2
      go_ret
      exact ⟨rfl, rfl⟩
  have h1 : (k != 1) = true := by simpa using k1
  have h2 : (k != 2) = true := by simpa using k2
  have h3 : (k != 3) = true := by simpa using k3
  rw [show reqE nb k b len = 1 by unfold reqE; rw [if_pos ⟨k1, k2, k3⟩]]
  clear k1 k2 k3
  go_enter Try.func43, Try.ntmps43
  go_wp2
  go_ret
  exact ⟨rfl, rfl⟩
set_option maxHeartbeats 4000000 in
theorem rbl_any (A : Option Addr) (L : List By) (c : Nat) (w : World) (hr : RdB w A L) (hn : L.length ≤ 9223372036854775807) :
    Calls Try.prog 38 #[.slice A L.length c] w fun e w' => e = .returned (.int .i64 (blE L)) ∧ w = w' := by
  have HR := hide hr
  clear hr
  go_enter Try.func38, Try.ntmps38
  go_wp2
  go_loop [3] (fun i => ∃ k : Nat, k ≤ L.length ∧ i = .int .i64 k ∧ Hid (∀ j, j < k → noP (bAt L j) = false)) (fun i => L.length - (intOf i).toNat)
  case atStart => exact ⟨0, Nat.zero_le _, rfl, hide fun j hj => absurd hj (Nat.not_lt_zero _)⟩
  case round =>
    obtain ⟨k, hk, rfl, HA⟩ := hrel
    by_cases hlt : k < L.length
    · obtain ⟨b, off, v, rfl, hbl, c0, A1, c1, rfl, _, _⟩ := HR.out.cells (brefl _) hlt
      by_cases hq : (bAt L k).length = 32
      · have NG := hide (show ∀ j, j < k + 1 → noP (bAt L j) = false from fun j hj => by
          by_cases e : j = k
          · rw [e]; unfold noP; simpa using hq
          · exact HA.out j (by omega))
        have hd : (((bAt L k).length : Int) != 32) = false := by simp; omega
        clear hq
        generalize (bAt L k).length = m at *
        go_wp2
        go_round
        case rel => exact ⟨k + 1, by omega, by go_num, NG⟩
        case measure => simp [intOf]; omega
      · have E := hide (blE_bad hlt (by unfold noP; simpa using hq) HA.out)
        have hd : (((bAt L k).length : Int) != 32) = true := by simp; omega
        clear hq
        generalize (bAt L k).length = m at *
        go_wp2
        go_ret
        exact ⟨ret_int E.out.symm, rfl⟩
    · have E := hide (blE_ok (L := L) fun j hj => HA.out j (by omega))
      go_wp2
      go_ret
      exact ⟨ret_int E.out.symm, rfl⟩
set_option maxHeartbeats 4000000 in
theorem rca_any (A : Option Addr) (L : List Ca) (c nb : Nat) (w : World) (hr : RdC w A L) (hn : L.length ≤ 9223372036854775807) :
    Calls Try.prog 42 #[.slice A L.length c, .int .i64 nb] w fun e w' => e = .returned (.int .i64 (caE nb L)) ∧ Below w.heap.size w w' := by
  have HR := hide hr
  clear hr
  go_enter Try.func42, Try.ntmps42
  go_wp2
  go_loopw [5] (fun i wr => ∃ k : Nat, k ≤ L.length ∧ i = .int .i64 k ∧ Hid (∀ j, j < k → ordB nb L j = false) ∧ Hid (Below w.heap.size w wr)) (fun i _ => L.length - (intOf i).toNat)
  case atStart => exact ⟨0, Nat.zero_le _, rfl, hide fun j hj => absurd hj (Nat.not_lt_zero _), hide (brefl _)⟩
  case round =>
    obtain ⟨k, hk, rfl, HA, K⟩ := hrel
    by_cases hlt : k < L.length
    · obtain ⟨b, off, v, rfl, hbl, c0, c1', A1, c1, rfl, _, _⟩ := HR.out.cells K.out hlt
      have NB := hide (fun h => caE_ord (n := nb) hlt h HA.out)
      have NG := hide (show ordB nb L k = false → ∀ j, j < k + 1 → ordB nb L j = false from fun h j hj => by
        by_cases e : j = k
        · rw [e]; exact h
        · exact HA.out j (by omega))
      obtain ⟨z, hz⟩ : ∃ z, z = (cAt L k).1 := ⟨_, rfl⟩
      have O := hide (show ordB nb L k = decide (inB nb z = false ∨ (0 < k ∧ z ≤ (cAt L (k - 1)).1)) by rw [hz]; rfl)
      rw [← hz] at c0
      clear hz c1'
      by_cases z0 : z < 0
      · have E := hide (NB.out (by rw [O.out]; exact decide_eq_true (.inl (by unfold inB; exact decide_eq_false (by omega)))))
        have hd : decide (z < 0) = true := decide_eq_true z0
        clear NB NG O
        go_wp2
        go_quiet (fail)
        go_wp2
        go_ret
        exact ⟨ret_int E.out.symm, below_drewN K.out _⟩
      have hz0 : decide (z < 0) = false := decide_eq_false z0
      by_cases z1 : (nb : Int) ≤ z
      · have E := hide (NB.out (by rw [O.out]; exact decide_eq_true (.inl (by unfold inB; exact decide_eq_false (by omega)))))
        have hd : decide ((nb : Int) ≤ z) = true := decide_eq_true z1
        clear NB NG O
        go_wp2
        go_quiet (fail)
        go_wp2
        go_ret
        exact ⟨ret_int E.out.symm, below_drewN K.out _⟩
      have hz1 : decide ((nb : Int) ≤ z) = false := decide_eq_false z1
      have HI := hide (show inB nb z = true by unfold inB; exact decide_eq_true (by omega))
      rcases k with _ | j
      · have E := hide (NG.out (by rw [O.out]; exact decide_eq_false (by rw [HI.out]; simp)))
        rw [Nat.zero_mul, Nat.add_zero] at c0
        clear NB NG O
        go_wp2
        go_quiet (fail)
        go_wp2
        go_roundw
        case rel => exact ⟨1, by omega, by go_num, E, hide (below_drewN K.out _)⟩
        case measure => simp [intOf]; omega
      · obtain ⟨b', off', v', e', _, p0, _⟩ := HR.out.cells K.out (show j < L.length by omega)
        injection e' with e'
        injection e' with e1 e2
        subst e1 e2
        obtain ⟨y, hy⟩ : ∃ y, y = (cAt L j).1 := ⟨_, rfl⟩
        have O2 := hide (show ordB nb L (j + 1) = decide (z ≤ y) by rw [O.out, HI.out, hy]; simp)
        rw [← hy] at p0
        have hj1 : (0 : Int) ≤ (j : Int) := by omega
        have hjl : j < L.length := by omega
        have hwj : IntKind.i64.wrap (j : Int) = j := IntWalk.i64_in _ (by omega)
        clear O hy
        by_cases hzy : z ≤ y
        · have E := hide (NB.out (by rw [O2.out]; exact decide_eq_true hzy))
          have hd : decide (z ≤ y) = true := decide_eq_true hzy
          clear NB NG O2
          go_wp2
          go_quiet (fail)
          go_wp2
          go_ret
          exact ⟨ret_int E.out.symm, below_drewN K.out _⟩
        · have E := hide (NG.out (by rw [O2.out]; exact decide_eq_false hzy))
          have hd : decide (z ≤ y) = false := decide_eq_false hzy
          clear NB NG O2
          go_wp2
          go_quiet (fail)
          go_wp2
          go_roundw
          case rel => exact ⟨j + 2, by omega, by go_num, E, hide (below_drewN K.out _)⟩
          case measure => simp [intOf]; omega
    · have E := hide (caE_form (n := nb) (L := L) fun j hj => HA.out j (by omega))
      go_wp2
      go_loop [6] (fun i => ∃ k : Nat, k ≤ L.length ∧ i = .int .i64 k ∧ Hid (∀ j, j < k → noP (cAt L j).2 = false)) (fun i => L.length - (intOf i).toNat)
      case atStart => exact ⟨0, Nat.zero_le _, rfl, hide fun j hj => absurd hj (Nat.not_lt_zero _)⟩
      case round =>
        obtain ⟨k2, hk2, rfl, HA2⟩ := hrel
        by_cases hlt2 : k2 < L.length
        · obtain ⟨b, off, v, rfl, hbl, c0, c1', A1, c1, rfl, _, _⟩ := HR.out.cells K.out hlt2
          by_cases hq : (cAt L k2).2.length = 32
          · have NG := hide (show ∀ j, j < k2 + 1 → noP (cAt L j).2 = false from fun j hj => by
              by_cases e : j = k2
              · rw [e]; unfold noP; simpa using hq
              · exact HA2.out j (by omega))
            have hd : (((cAt L k2).2.length : Int) != 32) = false := by simp; omega
            clear hq c0
            generalize (cAt L k2).2.length = m at *
            go_wp2
            go_round
            case rel => exact ⟨k2 + 1, by omega, by go_num, NG⟩
            case measure => simp [intOf]; omega
          · have E2 := hide (E.out.trans (cfE_bad hlt2 (by unfold noP; simpa using hq) HA2.out))
            have hd : (((cAt L k2).2.length : Int) != 32) = true := by simp; omega
            clear hq c0
            generalize (cAt L k2).2.length = m at *
            go_wp2
            go_ret
            exact ⟨ret_int E2.out.symm, K.out⟩
        · have E2 := hide (E.out.trans (cfE_ok (L := L) fun j hj => HA2.out j (by omega)))
          go_wp2
          go_ret
          exact ⟨ret_int E2.out.symm, K.out⟩
end Go.Proofs.Ytnegigcjeoenmaa.Dv
