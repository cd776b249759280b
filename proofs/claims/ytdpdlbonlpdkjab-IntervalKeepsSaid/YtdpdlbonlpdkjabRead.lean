import Derived.Test.YtdpdlbonlpdkjabCheck
namespace Go.Proofs.Ytdpdlbonlpdkjab.Iv
open Go Go.RowKit
set_option linter.unusedVariables false
set_option maxHeartbeats 1000000 in
theorem rcheck_any (A : Option Addr) (L : IL) (c : Nat) (w : World) (hr : Iv w A L) (hn : L.length ≤ 3000) :
    Calls Try.prog 14 #[.slice A L.length c] w fun e w' => e = .returned (.int .i64 (chk L)) ∧ Below w.heap.size w w' := by
  have HR := hide hr
  clear hr
  go_enter Try.func14, Try.ntmps14
  go_wp2
  go_loopw [3] (fun i wr => ∃ k : Nat, k ≤ L.length ∧ i = .int .i64 k ∧ chk L = chkFrom (prevAt L k) (L.drop k) ∧ Below w.heap.size w wr) (fun i _ => L.length - (intOf i).toNat)
  case atStart => exact ⟨0, Nat.zero_le _, rfl, rfl, brefl _⟩
  case round =>
    obtain ⟨k, hk, rfl, hch, hb⟩ := hrel
    by_cases hlt : k < L.length
    · obtain ⟨b, off, rfl, hbl, hcs⟩ := HR.out.cells hb hlt
      rw [chk_step hlt] at hch
      obtain ⟨c0, c1⟩ := hcs k hlt
      have HB := hide hb
      by_cases t1 : (pairAt L k).2 ≤ (pairAt L k).1
      · rw [if_pos t1] at hch
        have HC := hide hch
        generalize (pairAt L k).1 = f at *
        generalize (pairAt L k).2 = t at *
        clear hcs hch hb
        go_wp2
        go_quiet (fail)
        go_wp2
        go_ret
        exact ⟨ret_int HC.out.symm, below_drewN HB.out _⟩
      · rw [if_neg t1] at hch
        rcases Nat.eq_zero_or_pos k with hk0 | hkp
        · rw [hk0, if_neg (by simp), ← hk0] at hch
          have hd : decide (0 < k) = false := by rw [hk0]; rfl
          have HC := hide hch
          have HK := hide hk0
          generalize (pairAt L k).1 = f at *
          generalize (pairAt L k).2 = t at *
          clear hcs hch hb hk0
          go_wp2
          go_quiet (fail)
          go_wp2
          go_quiet (fail)
          go_wp2
          go_roundw
          case rel => exact ⟨k + 1, by omega, by go_num, HC.out, below_drewN HB.out _⟩
          case measure => simp [intOf]; omega
        · obtain ⟨m, rfl⟩ : ∃ m, k = m + 1 := ⟨k - 1, by omega⟩
          obtain ⟨d0, d1⟩ := hcs m (by omega)
          rw [Nat.add_sub_cancel] at hch
          have hd : decide (0 < m + 1) = true := by simp
          have hlm : m < L.length := by omega
          have hw1 : IntKind.i64.wrap (((m + 1 : Nat) : Int) - 1) = (m : Int) := by rw [IntKind.wrap_i64]; omega
          by_cases t2 : (pairAt L (m + 1)).1 ≤ (pairAt L m).2
          · rw [if_pos (by simpa using t2)] at hch
            have HC := hide hch
            generalize (pairAt L (m + 1)).1 = f at *
            generalize (pairAt L (m + 1)).2 = t at *
            generalize (pairAt L m).2 = q at *
            clear hcs hch hb d0 hkp
            go_wp2
            go_quiet (fail)
            go_wp2
            go_quiet (fail)
            go_wp2
            go_ret
            exact ⟨ret_int HC.out.symm, by first | exact below_drewN HB.out _ | exact below_drewN (below_drewN HB.out _) _⟩
          · rw [if_neg (by simpa using t2)] at hch
            have HC := hide hch
            generalize (pairAt L (m + 1)).1 = f at *
            generalize (pairAt L (m + 1)).2 = t at *
            generalize (pairAt L m).2 = q at *
            clear hcs hch hb d0 hkp
            go_wp2
            go_quiet (fail)
            go_wp2
            go_quiet (fail)
            go_wp2
            go_roundw
            case rel => exact ⟨m + 1 + 1, by omega, by go_num, HC.out, below_drewN HB.out _⟩
            case measure => simp [intOf]; omega
    · have e1 : k = L.length := by omega
      have e2 : chk L = 0 := by rw [hch, e1, List.drop_length]; rfl
      have HC := hide e2
      clear hch e2 e1
      go_wp2
      go_ret
      exact ⟨ret_int HC.out.symm, hb⟩
theorem mem_drop {L : IL} {k : Nat} (h : k < L.length) (n : Int) : mem (L.drop k) n = ((decide ((pairAt L k).1 ≤ n) && decide (n < (pairAt L k).2)) || mem (L.drop (k + 1)) n) := by
  rw [drop_pair h]; rfl
theorem rin_any (A : Option Addr) (L : IL) (c : Nat) (n : Int) (w : World) (hr : Iv w A L) (hn : L.length ≤ 3000) :
    Calls Try.prog 39 #[.slice A L.length c, .int .i64 n] w fun e w' => e = .returned (.bool (mem L n)) ∧ Below w.heap.size w w' := by
  have HR := hide hr
  clear hr
  go_enter Try.func39, Try.ntmps39
  go_wp2
  go_loopw [5] (fun i wr => ∃ k : Nat, k ≤ L.length ∧ i = .int .i64 k ∧ mem L n = mem (L.drop k) n ∧ Below w.heap.size w wr) (fun i _ => L.length - (intOf i).toNat)
  case atStart => exact ⟨0, Nat.zero_le _, rfl, rfl, brefl _⟩
  case round =>
    obtain ⟨k, hk, rfl, hch, hb⟩ := hrel
    by_cases hlt : k < L.length
    · obtain ⟨b, off, rfl, hbl, hcs⟩ := HR.out.cells hb hlt
      rw [mem_drop hlt] at hch
      obtain ⟨c0, c1⟩ := hcs k hlt
      have HB := hide hb
      generalize (pairAt L k).1 = f at *
      generalize (pairAt L k).2 = t at *
      by_cases t1 : f ≤ n <;> by_cases t2 : n < t
      · rw [decide_eq_true t1, decide_eq_true t2, Bool.and_self, Bool.true_or] at hch
        have HC := hide hch
        clear hcs hch hb
        go_wp2
        go_ret
        exact ⟨ret_bool HC.out.symm, HB.out⟩
      all_goals
        first | rw [decide_eq_true t1] at hch | rw [decide_eq_false t1] at hch
        first | rw [decide_eq_true t2] at hch | rw [decide_eq_false t2] at hch
        simp only [Bool.and_false, Bool.false_and, Bool.false_or] at hch
        have HC := hide hch
        clear hcs hch hb
        go_wp2
        go_roundw
        case rel => exact ⟨k + 1, by omega, by go_num, HC.out, HB.out⟩
        case measure => simp [intOf]; omega
    · have e1 : k = L.length := by omega
      have e2 : mem L n = false := by rw [hch, e1, List.drop_length]; rfl
      have HC := hide e2
      clear hch e2 e1
      go_wp2
      go_ret
      exact ⟨ret_bool HC.out.symm, hb⟩
theorem il_of_pairs {L M : IL} (hl : L.length = M.length) (h : ∀ k, k < L.length → pairAt L k = pairAt M k) : L = M := by
  apply List.ext_getElem hl
  intro k h1 h2
  have := h k h1
  unfold pairAt at this
  simpa [List.getD_eq_getElem?_getD, List.getElem?_eq_getElem h1, List.getElem?_eq_getElem h2] using this
def sameL (L M : IL) : Bool := decide (L = M)
theorem same_any (A B : Option Addr) (L M : IL) (c d : Nat) (w : World) (hr : Iv w A L) (hs : Iv w B M) (hn : L.length ≤ 3000) (hm : M.length ≤ 3000) :
    Calls Try.prog 23 #[.slice A L.length c, .slice B M.length d] w fun e w' => e = .returned (.bool (sameL L M)) ∧ Below w.heap.size w w' := by
  have HR := hide hr
  have HS := hide hs
  clear hr hs
  by_cases hl : L.length = M.length
  · rw [← hl]
    have HL := hide hl
    clear hl hm
    go_enter Try.func23, Try.ntmps23
    go_wp2
    go_loopw [5] (fun i wr => ∃ k : Nat, k ≤ L.length ∧ i = .int .i64 k ∧ (∀ j, j < k → pairAt L j = pairAt M j) ∧ Below w.heap.size w wr) (fun i _ => L.length - (intOf i).toNat)
    case atStart => exact ⟨0, Nat.zero_le _, rfl, fun j hj => by omega, brefl _⟩
    case round =>
      obtain ⟨k, hk, rfl, hch, hb⟩ := hrel
      by_cases hlt : k < L.length
      · obtain ⟨b, off, rfl, hbl, hcs⟩ := HR.out.cells hb hlt
        obtain ⟨b2, off2, rfl, hbl2, hcs2⟩ := HS.out.cells hb (k := k) (by rw [← HL.out]; exact hlt)
        obtain ⟨c0, c1⟩ := hcs k hlt
        obtain ⟨d0, d1⟩ := hcs2 k (by rw [← HL.out]; exact hlt)
        have HB := hide hb
        have HC := hide hch
        obtain ⟨p, hp⟩ : ∃ p, p = pairAt L k := ⟨_, rfl⟩
        obtain ⟨q, hq⟩ : ∃ p, p = pairAt M k := ⟨_, rfl⟩
        rw [← hp] at c0 c1
        rw [← hq] at d0 d1
        obtain ⟨f, t⟩ := p
        obtain ⟨g, u⟩ := q
        have HP := hide (And.intro hp hq)
        clear hcs hcs2 hch hb hp hq
        by_cases t1 : f = g <;> by_cases t2 : t = u
        · subst t1 t2
          go_wp2
          go_quiet (fail)
          go_wp2
          go_roundw
          case rel => exact ⟨k + 1, by omega, by go_num, fun j hj => by rcases Nat.lt_or_ge j k with h | h; exact HC.out j h; rw [show j = k by omega, ← HP.out.1, ← HP.out.2], below_drewN HB.out _⟩
          case measure => simp [intOf]; omega
        all_goals
          have HF := hide (show sameL L M = false by
            unfold sameL
            rw [decide_eq_false]
            intro h
            have h1 := HP.out.1.symm
            rw [h, ← HP.out.2] at h1
            injection h1 with h1 h2
            first | exact t1 h1.symm | exact t2 h2.symm)
          first
            | (have b1 : (f == g) = false := by simpa using t1)
            | (have b1 : (t == u) = false := by simpa using t2)
          go_wp2
          go_quiet (fail)
          go_wp2
          go_ret
          exact ⟨ret_bool HF.out.symm, below_drewN HB.out _⟩
      · have e1 : L = M := il_of_pairs HL.out fun j hj => hch j (by omega)
        have HF := hide (show sameL L M = true by unfold sameL; exact decide_eq_true e1)
        clear e1 hch
        go_wp2
        go_ret
        exact ⟨ret_bool HF.out.symm, hb⟩
  · have HF := hide (show sameL L M = false by unfold sameL; rw [decide_eq_false]; intro h; exact hl (by rw [h]))
    have h1 : (((L.length : Nat) : Int) == ((M.length : Nat) : Int)) = false := by rw [beq_eq_false_iff_ne]; omega
    clear HR HS
    go_enter Try.func23, Try.ntmps23
    go_wp2
    all_goals go_ret
    all_goals exact ⟨ret_bool HF.out.symm, brefl _⟩
end Go.Proofs.Ytdpdlbonlpdkjab.Iv
