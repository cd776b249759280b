import Derived.Test.YtdpdlbonlpdkjabRead
namespace Go.Proofs.Ytdpdlbonlpdkjab.Iv
open Go Go.RowKit
set_option linter.unusedVariables false
theorem in_any (A : Option Addr) (L : IL) (c : Nat) (n : Int) (w : World) (hr : Iv w A L) (hn : L.length ≤ 3000) :
    Calls Try.prog 33 #[.slice A L.length c, .int .i64 n] w fun e w' => e = .returned (.bool (mem L n)) ∧ Below w.heap.size w w' := by
  have HR := hide hr
  clear hr
  go_enter Try.func33, Try.ntmps33
  go_wp2
  go_loopw [5] (fun i wr => ∃ k : Nat, k ≤ L.length ∧ i = .int .i64 k ∧ mem L n = mem (L.drop k) n ∧ Below w.heap.size w wr) (fun i _ => L.length - (intOf i).toNat)
  case atStart => exact ⟨0, Nat.zero_le _, rfl, rfl, brefl _⟩
  case round =>
    obtain ⟨k, hk, rfl, hch, hb⟩ := hrel
    by_cases hlt : k < L.length
    · obtain ⟨b, off, rfl, hbl, hcs⟩ := HR.out.cells hb hlt
      rw [mem_drop hlt] at hch
      obtain ⟨c0, c1⟩ := hcs k hlt
      have HB := hide hb
      generalize (pairAt L k).1 = f at *
      generalize (pairAt L k).2 = t at *
      by_cases t1 : f ≤ n <;> by_cases t2 : n < t
      · rw [decide_eq_true t1, decide_eq_true t2, Bool.and_self, Bool.true_or] at hch
        have HC := hide hch
        clear hcs hch hb
        go_wp2
        go_ret
        exact ⟨ret_bool HC.out.symm, HB.out⟩
      all_goals
        first | rw [decide_eq_true t1] at hch | rw [decide_eq_false t1] at hch
        first | rw [decide_eq_true t2] at hch | rw [decide_eq_false t2] at hch
        simp only [Bool.and_false, Bool.false_and, Bool.false_or] at hch
        have HC := hide hch
        clear hcs hch hb
        go_wp2
        go_roundw
        case rel => exact ⟨k + 1, by omega, by go_num, HC.out, HB.out⟩
        case measure => simp [intOf]; omega
    · have e1 : k = L.length := by omega
      have e2 : mem L n = false := by rw [hch, e1, List.drop_length]; rfl
      have HC := hide e2
      clear hch e2 e1
      go_wp2
      go_ret
      exact ⟨ret_bool HC.out.symm, hb⟩
set_option maxHeartbeats 1000000 in
theorem sound_any (A : Option Addr) (L : IL) (c : Nat) (w : World) (hr : Iv w A L) (hn : L.length ≤ 3000) :
    Calls Try.prog 32 #[.slice A L.length c] w fun e w' => e = .returned (.bool (decide (chk L = 0))) ∧ Below w.heap.size w w' := by
  have HR := hide hr
  clear hr
  go_enter Try.func32, Try.ntmps32
  go_wp2
  go_loopw [3] (fun i wr => ∃ k : Nat, k ≤ L.length ∧ i = .int .i64 k ∧ chk L = chkFrom (prevAt L k) (L.drop k) ∧ Below w.heap.size w wr) (fun i _ => L.length - (intOf i).toNat)
  case atStart => exact ⟨0, Nat.zero_le _, rfl, rfl, brefl _⟩
  case round =>
    obtain ⟨k, hk, rfl, hch, hb⟩ := hrel
    by_cases hlt : k < L.length
    · obtain ⟨b, off, rfl, hbl, hcs⟩ := HR.out.cells hb hlt
      rw [chk_step hlt] at hch
      obtain ⟨c0, c1⟩ := hcs k hlt
      have HB := hide hb
      by_cases t1 : (pairAt L k).2 ≤ (pairAt L k).1
      · have d1 : decide ((pairAt L k).2 ≤ (pairAt L k).1) = true := decide_eq_true t1
        rw [if_pos t1] at hch
        have HC := hide hch
        generalize (pairAt L k).1 = f at *
        generalize (pairAt L k).2 = t at *
        clear hcs hch hb
        go_wp2
        go_quiet (fail)
        go_wp2
        go_ret
        exact ⟨ret_bool (by rw [HC.out]; rfl), below_drewN HB.out _⟩
      · have d1 : decide ((pairAt L k).2 ≤ (pairAt L k).1) = false := decide_eq_false t1
        rw [if_neg t1] at hch
        rcases Nat.eq_zero_or_pos k with hk0 | hkp
        · rw [hk0, if_neg (by simp), ← hk0] at hch
          have hd : decide (0 < k) = false := by rw [hk0]; rfl
          have HC := hide hch
          have HK := hide hk0
          generalize (pairAt L k).1 = f at *
          generalize (pairAt L k).2 = t at *
          clear hcs hch hb hk0
          go_wp2
          go_quiet (fail)
          go_wp2
          go_roundw
          case rel => exact ⟨k + 1, by omega, by go_num, HC.out, below_drewN HB.out _⟩
          case measure => simp [intOf]; omega
        · obtain ⟨m, rfl⟩ : ∃ m, k = m + 1 := ⟨k - 1, by omega⟩
          obtain ⟨d0, d1⟩ := hcs m (by omega)
          rw [Nat.add_sub_cancel] at hch
          have hd : decide (0 < m + 1) = true := by simp
          have hlm : m < L.length := by omega
          have hw1 : IntKind.i64.wrap (((m + 1 : Nat) : Int) - 1) = (m : Int) := by rw [IntKind.wrap_i64]; omega
          by_cases t2 : (pairAt L (m + 1)).1 ≤ (pairAt L m).2
          · have d2 : decide ((pairAt L (m + 1)).1 ≤ (pairAt L m).2) = true := decide_eq_true t2
            rw [if_pos (by simpa using t2)] at hch
            have HC := hide hch
            generalize (pairAt L (m + 1)).1 = f at *
            generalize (pairAt L (m + 1)).2 = t at *
            generalize (pairAt L m).2 = q at *
            clear hcs hch hb d0 hkp
            go_wp2
            go_quiet (fail)
            go_wp2
            go_ret
            exact ⟨ret_bool (by rw [HC.out]; rfl), by first | exact below_drewN HB.out _ | exact below_drewN (below_drewN HB.out _) _⟩
          · have d2 : decide ((pairAt L (m + 1)).1 ≤ (pairAt L m).2) = false := decide_eq_false t2
            rw [if_neg (by simpa using t2)] at hch
            have HC := hide hch
            generalize (pairAt L (m + 1)).1 = f at *
            generalize (pairAt L (m + 1)).2 = t at *
            generalize (pairAt L m).2 = q at *
            clear hcs hch hb d0 hkp
            go_wp2
            go_quiet (fail)
            go_wp2
            go_roundw
            case rel => exact ⟨m + 1 + 1, by omega, by go_num, HC.out, below_drewN HB.out _⟩
            case measure => simp [intOf]; omega
    · have e1 : k = L.length := by omega
      have e2 : chk L = 0 := by rw [hch, e1, List.drop_length]; rfl
      have HC := hide e2
      clear hch e2 e1
      go_wp2
      go_ret
      exact ⟨ret_bool (by rw [HC.out]; rfl), hb⟩
theorem fewr_any (A : Option Addr) (n c m : Nat) (w : World) (hn : n ≤ 9223372036854775807) (hm : m ≤ 3000) :
    Calls Try.prog 35 #[.slice A n c, .int .i64 m] w fun e w' => e = .returned (.bool (decide (n ≤ m))) ∧ w = w' := by
  go_enter Try.func35, Try.ntmps35
  go_wp2
  go_ret
  exact ⟨ret_bool (by simp), rfl⟩
theorem few_any (A B : Option Addr) (n m c d : Nat) (w : World) (hn : n ≤ 9223372036854775807) (hm : m ≤ 9223372036854775807) :
    Calls Try.prog 11 #[.slice A n c, .slice B m d] w fun e w' => e = .returned (.bool (decide (n ≤ 12) && decide (m ≤ 12))) ∧ w = w' := by
  have H1 := hide (fewr_any A n c 12 w hn (by omega))
  have H2 := hide (fewr_any B m d 12 w hm (by omega))
  by_cases h1 : n ≤ 12
  · have e1 : decide (n ≤ 12) = true := decide_eq_true h1
    rw [e1] at H1 ⊢
    clear h1 e1
    go_enter Try.func11, Try.ntmps11
    go_wp2_with fail
    refine (H1.out).mono ?_
    rintro e w' ⟨rfl, rfl⟩
    go_wp2_with fail
    refine (H2.out).mono ?_
    rintro e w' ⟨rfl, rfl⟩
    go_wp2
    go_ret
    exact ⟨rfl, rfl⟩
  · have e1 : decide (n ≤ 12) = false := decide_eq_false h1
    rw [e1] at H1 ⊢
    clear h1 e1 H2
    go_enter Try.func11, Try.ntmps11
    go_wp2_with fail
    refine (H1.out).mono ?_
    rintro e w' ⟨rfl, rfl⟩
    go_wp2
    go_ret
    exact ⟨rfl, rfl⟩
theorem rcontains_any (A : Option Addr) (L : IL) (c : Nat) (n : Int) (w : World) (hr : Iv w A L) (hn : L.length ≤ 3000) :
    Calls Try.prog 16 #[.slice A L.length c, .int .i64 n] w fun e w' => e = .returned (.bool (decide (chk L = 0) && mem L n)) ∧ Below w.heap.size w w' := by
  have H1 := hide (rcheck_any A L c w hr hn)
  have H2 := hide (fun W (hb : Below w.heap.size w W) => rin_any A L c n W (hr.below hb) hn)
  clear hr
  by_cases h1 : chk L = 0
  · have e1 : decide (chk L = 0) = true := decide_eq_true h1
    rw [h1] at H1
    rw [e1]
    clear h1 e1
    go_enter Try.func16, Try.ntmps16
    go_wp2_with fail
    refine (H1.out).mono ?_
    rintro e w1 ⟨rfl, hb1⟩
    have HB := hide hb1
    clear hb1
    go_wp2_with fail
    refine (H2.out _ HB.out).mono ?_
    rintro e w2 ⟨rfl, hb2⟩
    have HB2 := hide (btrans HB.out hb2)
    clear hb2
    go_wp2
    go_ret
    exact ⟨rfl, HB2.out⟩
  · have e1 : decide (chk L = 0) = false := decide_eq_false h1
    have e2 : (chk L == 0) = false := by simpa using h1
    rw [e1]
    generalize chk L = x at *
    clear h1 e1 H2
    go_enter Try.func16, Try.ntmps16
    go_wp2_with fail
    refine (H1.out).mono ?_
    rintro e w1 ⟨rfl, hb1⟩
    go_wp2
    go_ret
    exact ⟨rfl, hb1⟩
end Go.Proofs.Ytdpdlbonlpdkjab.Iv
