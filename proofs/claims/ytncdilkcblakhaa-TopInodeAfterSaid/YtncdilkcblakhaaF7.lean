import Derived.Test.YtncdilkcblakhaaF6
namespace Go.Proofs.Ytncdilkcblakhaa.In
open Go Go.RowKit
set_option linter.unusedVariables false
set_option linter.unusedSimpArgs false
theorem mk_cast_succ (l : Fs) (k : Nat) (h : l.getD k false = true) : ((mk l (k + 1) : Nat) : Int) = (mk l k : Int) + 2 ^ k := by
  rw [mk, if_pos h]; simp
theorem mk_cast_same (l : Fs) (k : Nat) (h : l.getD k false = false) : mk l (k + 1) = mk l k := by
  rw [mk, if_neg (by rw [h]; simp)]; rfl
theorem mk_bd (l : Fs) (k : Nat) (h : k ≤ 16) : (mk l k : Int) < 2 ^ k ∧ (2 : Int) ^ k ≤ 65536 ∧ (1 : Int) ≤ 2 ^ k := by
  have h1 := mk_lt l k
  have h2 : 2 ^ k ≤ 2 ^ 16 := Nat.pow_le_pow_right (by omega) h
  have h3 : 0 < 2 ^ k := Nat.pow_pos (by omega)
  have e : ((2 : Int) ^ k) = ((2 ^ k : Nat) : Int) := by simp
  rw [e]
  have : (2 : Nat) ^ 16 = 65536 := rfl
  omega
theorem or_bit (l : Fs) (k : Nat) (h : k ≤ 16) : bits .or .i64 (mk l k : Int) (2 ^ k) = (mk l k : Int) + 2 ^ k := by
  have h1 := mk_lt l k
  have h2 : 2 ^ k ≤ 2 ^ 16 := Nat.pow_le_pow_right (by omega) h
  have h4 : (2 : Nat) ^ 16 = 65536 := rfl
  have e : ((2 : Int) ^ k) = ((2 ^ k : Nat) : Int) := by simp
  rw [e, i64_or_nat _ _ (by omega) (by omega), Nat.or_comm, nat_join k (2 ^ k) (mk l k) (by simp) h1]
  omega
def MaR (l : Fs) (w : World) (e : Ending) (w' : World) : Prop := e = .returned (.tuple #[.int .i64 (mR l), .int .i64 (mE l)]) ∧ w = w'
set_option maxRecDepth 100000 in
set_option maxHeartbeats 4000000 in
theorem mask_any (A : Option Addr) (c : Nat) (l : Fs) (w : World) (h : BsF w A l) (hn : l.length ≤ 9223372036854775807) : Calls Try.prog 19 #[.slice A l.length c] w (MaR l w) := by
  have C1 := hide (fun w => issize_any (l.length : Int) w)
  by_cases hl : l.length ≤ 16
  · have e1 : mE l = 0 := if_pos hl
    have e2 : mR l = mk l l.length := if_pos hl
    rw [decide_eq_true (show (0 : Int) ≤ l.length ∧ (l.length : Int) ≤ 16 by omega)] at C1
    unfold MaR
    rw [e1, e2]
    have H := hide h
    clear e1 e2 h
    go_enter Try.func19, Try.ntmps19
    go_wp2_with fail
    refine (C1.out _).mono ?_
    rintro e w' ⟨rfl, rfl⟩
    go_wp2
    go_loopw [4, 13] (fun a i wr => ∃ k : Nat, k ≤ l.length ∧ i = .int .i64 k ∧ a = .int .i64 (mk l k) ∧ wr = w) (fun _ i _ => l.length - (intOf i).toNat)
    case atStart => exact ⟨0, Nat.zero_le _, rfl, rfl, rfl⟩
    case round =>
      obtain ⟨k, hk, rfl, rfl, rfl⟩ := hrel
      by_cases hlt : k < l.length
      · have hl2 : (k : Int) < (l.length : Int) := by omega
        have hk0 : (0 : Int) ≤ (k : Int) := by omega
        have hk6 : (k : Int) ≤ 64 := by omega
        obtain ⟨b, o, rfl, hb, xx⟩ := H.out.cells (brefl _) hlt
        cases he : l.getD k false
        · have E := hide (mk_cast_same l k he)
          rw [he] at xx
          clear he
          go_wp2
          go_roundw
          case rel => exact ⟨k + 1, by omega, by go_num, by rw [E.out], trivial⟩
          case measure => simp [intOf]; omega
        · have E := hide (mk_cast_succ l k he)
          have bd := mk_bd l k (by omega)
          have ob := or_bit l k (by omega)
          rw [he] at xx
          obtain ⟨p, hp⟩ : ∃ p : Int, p = 2 ^ k := ⟨_, rfl⟩
          have hp2 := hp.symm
          rw [← hp] at E bd ob
          have tn : ((k : Int)).toNat = k := by simp
          have wp1 : IntKind.i64.wrap p = p := by rw [IntKind.wrap_i64]; omega
          generalize (mk l k : Int) = s at *
          clear he hp
          go_wp2
          go_roundw
          case rel => exact ⟨k + 1, by omega, by go_num, by rw [E.out], trivial⟩
          case measure => simp [intOf]; omega
      · obtain rfl : k = l.length := by omega
        go_wp2
        go_ret2
        exact ⟨rfl, rfl⟩
  · have e1 : mE l = 9 := if_neg hl
    have e2 : mR l = 0 := if_neg hl
    rw [decide_eq_false (show ¬ ((0 : Int) ≤ l.length ∧ (l.length : Int) ≤ 16) by omega)] at C1
    unfold MaR
    rw [e1, e2]
    clear e1 e2 h hl
    go_enter Try.func19, Try.ntmps19
    go_wp2_with fail
    refine (C1.out _).mono ?_
    rintro e w' ⟨rfl, rfl⟩
    go_wp2
    go_ret2
    exact ⟨rfl, rfl⟩
set_option maxRecDepth 100000 in
set_option maxHeartbeats 4000000 in
theorem rmask_any (A : Option Addr) (c : Nat) (l : Fs) (w : World) (h : BsF w A l) (hn : l.length ≤ 9223372036854775807) : Calls Try.prog 20 #[.slice A l.length c] w (MaR l w) := by
  by_cases hl : l.length ≤ 16
  · have e1 : mE l = 0 := if_pos hl
    have e2 : mR l = mk l l.length := if_pos hl
    have hgt : ¬ (16 : Int) < l.length := by omega
    unfold MaR
    rw [e1, e2]
    have H := hide h
    clear e1 e2 h
    go_enter Try.func20, Try.ntmps20
    go_wp2
    go_loopw [4, 5] (fun a i wr => ∃ k : Nat, k ≤ l.length ∧ i = .int .i64 k ∧ a = .int .i64 (mk l k) ∧ wr = w) (fun _ i _ => l.length - (intOf i).toNat)
    case atStart => exact ⟨0, Nat.zero_le _, rfl, rfl, rfl⟩
    case round =>
      obtain ⟨k, hk, rfl, rfl, rfl⟩ := hrel
      by_cases hlt : k < l.length
      · have hl2 : (k : Int) < (l.length : Int) := by omega
        have hk0 : (0 : Int) ≤ (k : Int) := by omega
        have hk6 : (k : Int) ≤ 64 := by omega
        obtain ⟨b, o, rfl, hb, xx⟩ := H.out.cells (brefl _) hlt
        cases he : l.getD k false
        · have E := hide (mk_cast_same l k he)
          rw [he] at xx
          clear he
          go_wp2
          go_roundw
          case rel => exact ⟨k + 1, by omega, by go_num, by rw [E.out], trivial⟩
          case measure => simp [intOf]; omega
        · have E := hide (mk_cast_succ l k he)
          have bd := mk_bd l k (by omega)
          rw [he] at xx
          obtain ⟨p, hp⟩ : ∃ p : Int, p = 2 ^ k := ⟨_, rfl⟩
          have hp2 := hp.symm
          rw [← hp] at E bd
          have tn : ((k : Int)).toNat = k := by simp
          have wp1 : IntKind.i64.wrap p = p := by rw [IntKind.wrap_i64]; omega
          have wu : IntKind.u64.wrap (k : Int) = (k : Int) := by rw [IntKind.wrap_u64]; omega
          obtain ⟨s, hs⟩ : ∃ s : Int, s = (mk l k : Int) := ⟨_, rfl⟩
          have hs0 : 0 ≤ s := by omega
          rw [← hs] at E bd ⊢
          have wa : IntKind.i64.wrap (s + p) = s + p := by rw [IntKind.wrap_i64]; omega
          clear he hp hs
          go_wp2
          go_roundw
          case rel => exact ⟨k + 1, by omega, by go_num, by rw [E.out], trivial⟩
          case measure => simp [intOf]; omega
      · obtain rfl : k = l.length := by omega
        go_wp2
        go_ret2
        exact ⟨rfl, rfl⟩
  · have e1 : mE l = 9 := if_neg hl
    have e2 : mR l = 0 := if_neg hl
    have hgt : (16 : Int) < l.length := by omega
    unfold MaR
    rw [e1, e2]
    clear e1 e2 h hl
    go_enter Try.func20, Try.ntmps20
    go_wp2
    go_ret2
    exact ⟨rfl, rfl⟩
end Go.Proofs.Ytncdilkcblakhaa.In
