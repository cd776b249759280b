import Derived.Test.YtdpdlbonlpdkjabHas
namespace Go.Proofs.Ytdpdlbonlpdkjab.Iv
open Go Go.RowKit
set_option linter.unusedVariables false
theorem found {L : IL} (h : asc (edges L)) (n : Int) {r : Nat} (hr : r ≤ L.length) (h1 : r = 0 ∨ decide (n < (pairAt L (r - 1)).2) = false) (h2 : r = L.length ∨ decide (n < (pairAt L r).2) = true) :
    mem L n = (decide (r < L.length) && decide ((pairAt L r).1 ≤ n)) := by
  have hl := edges_length L
  have low : ∀ k, k < 2 * r → (edges L).getD k 0 ≤ n := by
    intro k hk
    rcases h1 with h1 | h1
    · omega
    · have h1' : (pairAt L (r - 1)).2 ≤ n := by simpa using h1
      rw [← edges_odd] at h1'
      rcases Nat.lt_or_ge k (2 * (r - 1) + 1) with c | c
      · exact Int.le_trans (Int.le_of_lt (asc_getD h c (by omega))) h1'
      · have : k = 2 * (r - 1) + 1 := by omega
        rw [this]; exact h1'
  rw [mem_cnt h]
  rcases Nat.lt_or_ge r L.length with c | c
  · have h2' : n < (pairAt L r).2 := by
      rcases h2 with h2 | h2
      · omega
      · simpa using h2
    rw [← edges_odd] at h2'
    have up : ∀ k, 2 * r + 1 ≤ k → k < (edges L).length → n < (edges L).getD k 0 := by
      intro k hk hk2
      rcases Nat.lt_or_ge (2 * r + 1) k with d | d
      · exact Int.lt_trans h2' (asc_getD h d hk2)
      · have : k = 2 * r + 1 := by omega
        rw [this]; exact h2'
    rw [decide_eq_true c, Bool.true_and]
    by_cases e : (pairAt L r).1 ≤ n
    · rw [decide_eq_true e]
      have hs : splits (edges L) (2 * r + 1) n := ⟨by omega, fun k hk => by
        rcases Nat.lt_or_ge k (2 * r) with d | d
        · exact low k d
        · have : k = 2 * r := by omega
          rw [this, edges_even]; exact e, up⟩
      rw [hs.cnt, odd_succ, odd_dbl]; rfl
    · rw [decide_eq_false e]
      have hs : splits (edges L) (2 * r) n := ⟨by omega, low, fun k hk hk2 => by
        rcases Nat.lt_or_ge (2 * r) k with d | d
        · exact up k (by omega) hk2
        · have : k = 2 * r := by omega
          rw [this, edges_even]; omega⟩
      rw [hs.cnt, odd_dbl]
  · rw [decide_eq_false (by omega : ¬ r < L.length), Bool.false_and]
    have hs : splits (edges L) (2 * r) n := ⟨by omega, low, fun k hk hk2 => by omega⟩
    rw [hs.cnt, odd_dbl]
set_option maxHeartbeats 1000000 in
theorem contains_any (A : Option Addr) (L : IL) (c : Nat) (n : Int) (w : World) (hr : Iv w A L) (hn : L.length ≤ 3000) :
    Calls Try.prog 15 #[.slice A L.length c, .int .i64 n] w fun e w' => e = .returned (.bool (decide (chk L = 0) && mem L n)) ∧ Below w.heap.size w w' := by
  have B1 : Box1 ((w.alloc (.cells #[.slice A L.length c] 22)).alloc (.cells #[.int .i64 n] 3)) w.heap.size 22 (.slice A L.length c) := (Box1.new w 22 _).below (bal (brefl _) _)
  have B2 : Box1 ((w.alloc (.cells #[.slice A L.length c] 22)).alloc (.cells #[.int .i64 n] 3)) (w.heap.size + 1) 3 (.int .i64 n) := by simpa using Box1.new (w.alloc (.cells #[.slice A L.length c] 22)) 3 (.int .i64 n)
  have hb0 := bal (bal (brefl w) (.cells #[.slice A L.length c] 22)) (.cells #[.int .i64 n] 3)
  have H1 := hide (check_any A L c _ (hr.below hb0) hn)
  have HR := hide (hr.below hb0)
  have HB1 := hide B1
  have HB2 := hide B2
  have HB0 := hide hb0
  clear hr B1 B2 hb0
  by_cases h1 : chk L = 0
  · have hA := chk_ok.1 h1
    have e1 : decide (chk L = 0) = true := decide_eq_true h1
    rw [h1] at H1
    rw [e1, Bool.true_and]
    have HAS := hide hA
    clear h1 e1 hA
    go_enter Try.func15, Try.ntmps15
    go_wp2_with fail
    refine H1.out.mono ?_
    rintro e w1 ⟨rfl, hb1⟩
    have x0 := (HB1.out.below hb1).c0
    have x1 := (HB2.out.below hb1).c0
    have HBA := hide hb1
    clear hb1
    go_wp2_with fail
    refine (search_any L.length (fun k => decide (n < (pairAt L k).2)) _ _ w1 hn (fun k W hk hW => clos_any A L c k n _ _ W (HR.out.below (btrans HBA.out hW)) (HB1.out.below (btrans HBA.out hW)) (HB2.out.below (btrans HBA.out hW)) hk hn)).mono ?_
    rintro e w2 ⟨r, hrl, rfl, ha, hb, hb2⟩
    have hf := found HAS.out n hrl ha hb
    have HBC := hide (btrans HBA.out hb2)
    have y0 := (HB1.out.below HBC.out).c0
    have y1 := (HB2.out.below HBC.out).c0
    clear x0 x1 hb2 ha hb
    by_cases hlt : r < L.length
    · obtain ⟨b, off, rfl, hbl, hcs⟩ := HR.out.cells HBC.out hlt
      obtain ⟨c0, c1⟩ := hcs r hlt
      rw [decide_eq_true hlt, Bool.true_and] at hf
      have HF := hide hf
      have hd : decide (r < L.length) = true := decide_eq_true hlt
      have q0 : (0 : Int) ≤ (r : Int) := by omega
      have q1 : (r : Int) < (L.length : Int) := by omega
      generalize (pairAt L r).1 = f at *
      generalize (pairAt L r).2 = t at *
      clear hcs hf hrl
      go_wp2
      go_quiet (fail)
      go_wp2
      go_ret
      exact ⟨ret_bool HF.out.symm, below_drewN (btrans HB0.out HBC.out) _⟩
    · rw [decide_eq_false hlt, Bool.false_and] at hf
      have HF := hide hf
      have hd : decide (r < L.length) = false := decide_eq_false hlt
      clear hf hrl
      go_wp2
      go_quiet (fail)
      go_wp2
      go_ret
      exact ⟨ret_bool HF.out.symm, below_drewN (btrans HB0.out HBC.out) _⟩
  · have e1 : decide (chk L = 0) = false := decide_eq_false h1
    have e2 : (chk L == 0) = false := by simpa using h1
    have e3 : (chk L != 0) = true := by rw [bne, e2]; rfl
    rw [e1, Bool.false_and]
    generalize chk L = x at *
    clear h1 e1
    go_enter Try.func15, Try.ntmps15
    go_wp2_with fail
    refine H1.out.mono ?_
    rintro e w1 ⟨rfl, hb1⟩
    go_wp2
    go_ret
    exact ⟨rfl, btrans HB0.out hb1⟩
end Go.Proofs.Ytdpdlbonlpdkjab.Iv
