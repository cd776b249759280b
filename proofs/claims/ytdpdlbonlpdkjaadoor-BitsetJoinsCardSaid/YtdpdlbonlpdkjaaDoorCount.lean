import Derived.Test.YtdpdlbonlpdkjaaDoorOnes
namespace Go.Proofs.YtdpdlbonlpdkjaaDoor.Bs
open Go Go.RowKit
set_option linter.unusedVariables false
/-- ones among the first n bits that lie in lo .. hi-1 -/
def cntTo (ws : List Nat) (lo hi n : Nat) : Nat := bc (fun i => bitAt ws i && (decide (lo ≤ i) && decide (i < hi))) n
def cnt (ws : List Nat) (lo hi : Nat) : Nat := cntTo ws lo hi (64 * ws.length)
theorem cntTo_step {ws : List Nat} (lo hi k : Nat) : cntTo ws lo hi (64 * (k + 1)) = cntTo ws lo hi (64 * k) + pc 64 (ws.getD k 0 &&& spanN k lo hi) := by
  unfold cntTo
  rw [show 64 * (k + 1) = 64 * k + 64 by omega, bc_add, pc_bc]
  congr 1
  apply bc_congr
  intro j hj
  rw [Nat.testBit_and, testBit_spanN _ _ _ _ hj]
  unfold bitAt
  have e1 : (64 * k + j) / 64 = k := by omega
  have e2 : (64 * k + j) % 64 = j := by omega
  rw [e1, e2, Nat.mul_comm k 64]
theorem count_far (s f t e0 : Int) (A : Option Addr) (ws : List Nat) (c : Nat) (w : World) (hr : Wd w A ws) (hw : ∀ x ∈ ws, x < 2 ^ 64) (hn : ws.length ≤ 9223372036854775807) (he : chk s ws = e0) (h : (e0 == 0) = false) :
    Calls Tryd.prog 26 #[.agg #[.int .i64 s, .slice A ws.length c], .int .i64 f, .int .i64 t] w fun e w' => e = .returned (.int .i64 0) ∧ Below w.heap.size w w' := by
  have hr' : Wd (w.alloc (.cells #[.int .i64 s, .slice A ws.length c] 24)) A ws := hr.below (bal (brefl _) _)
  have HC := check_any s A ws c _ hr' hw hn
  rw [he] at HC
  have HCC := hide HC
  clear hw hr hr' HC he
  have h2 : (e0 != 0) = true := by rw [bne, h]; rfl
  go_enter Tryd.func26, Tryd.ntmps26
  go_wp2_with (go_at_call 14; refine HCC.out.mono ?_; rintro e w1 ⟨rfl, hb1⟩; obtain ⟨hc1, hf1⟩ := bcell hb1)
  go_ret
  exact ⟨rfl, btrans (bal (brefl _) _) hb1⟩
theorem count_range (s f t : Int) (A : Option Addr) (ws : List Nat) (c : Nat) (w : World) (hr : Wd w A ws) (hw : ∀ x ∈ ws, x < 2 ^ 64) (hn : ws.length ≤ 9223372036854775807) (he : chk s ws = 0) (h : ¬ (0 ≤ f ∧ f ≤ t ∧ t ≤ s)) :
    Calls Tryd.prog 26 #[.agg #[.int .i64 s, .slice A ws.length c], .int .i64 f, .int .i64 t] w fun e w' => e = .returned (.int .i64 0) ∧ Below w.heap.size w w' := by
  have hr' : Wd (w.alloc (.cells #[.int .i64 s, .slice A ws.length c] 24)) A ws := hr.below (bal (brefl _) _)
  have HC := check_any s A ws c _ hr' hw hn
  rw [he] at HC
  have HCC := hide HC
  have HR : ∀ W, Calls Tryd.prog 38 #[.agg #[.int .i64 s, .slice A ws.length c], .int .i64 f, .int .i64 t] W fun e w' => e = .returned (.bool false) ∧ Below W.heap.size W w' := fun W => by
    have := isRange s f t A ws.length c W
    rw [decide_eq_false h] at this
    exact this
  have HRR := hide HR
  clear hw hr hr' HC he HR h
  go_enter Tryd.func26, Tryd.ntmps26
  go_wp2_with (first | (go_at_call 14; refine HCC.out.mono ?_; rintro e w1 ⟨rfl, hb1⟩; obtain ⟨hc1, hf1⟩ := bcell hb1) | (go_at_call 38; refine (HRR.out _).mono ?_; rintro e w2 ⟨rfl, hb2'⟩; have hb2 := btrans hb1 hb2'; clear hb2'; obtain ⟨hc2, hf2⟩ := bcell hb2))
  go_ret
  exact ⟨rfl, btrans (bal (brefl _) _) hb2⟩
theorem count_good (S lo hi : Nat) (A : Option Addr) (ws : List Nat) (c : Nat) (w : World) (hr : Wd w A ws) (hw : ∀ x ∈ ws, x < 2 ^ 64) (he : chk (S : Int) ws = 0) (h1 : lo ≤ hi) (h2 : hi ≤ S) :
    Calls Tryd.prog 26 #[.agg #[.int .i64 S, .slice A ws.length c], .int .i64 lo, .int .i64 hi] w fun e w' => e = .returned (.int .i64 (cnt ws lo hi : Nat)) ∧ Below w.heap.size w w' := by
  obtain ⟨v1, v2, v3, v4⟩ := valid_len he
  have hS2 : S ≤ 4096 := by omega
  have hb0 : Below w.heap.size w (w.alloc (.cells #[.int .i64 (S : Int), .slice A ws.length c] 24)) := bal (brefl _) _
  have hr' := hr.below hb0
  have HC := check_any S A ws c _ hr' hw (by omega)
  rw [he] at HC
  have HR : ∀ W, Calls Tryd.prog 38 #[.agg #[.int .i64 S, .slice A ws.length c], .int .i64 lo, .int .i64 hi] W fun e w' => e = .returned (.bool true) ∧ Below W.heap.size W w' := fun W => by
    have := isRange S lo hi A ws.length c W
    rw [decide_eq_true (by omega)] at this
    exact this
  have HW : ∀ wr, Below (w.heap.size + 1) (w.alloc (.cells #[.int .i64 (S : Int), .slice A ws.length c] 24)) wr → Wd wr A ws ∧ Below w.heap.size w wr := fun wr hb =>
    ⟨hr'.below (by simpa using hb), btrans hb0 (by simpa using hb)⟩
  have HCC := hide HC
  have HRR := hide HR
  have HWW := hide HW
  have HX := hide hw
  clear hr hr' HC he HW hw hb0 v2 v3 v4 HR
  go_enter Tryd.func26, Tryd.ntmps26
  go_wp2_with (first | (go_at_call 14; refine HCC.out.mono ?_; rintro e w1 ⟨rfl, hb1⟩; obtain ⟨hc1, hf1⟩ := bcell hb1) | (go_at_call 38; refine (HRR.out _).mono ?_; rintro e w2 ⟨rfl, hb2'⟩; have hb2 := btrans hb1 hb2'; clear hb2'; obtain ⟨hc2, hf2⟩ := bcell hb2))
  have HB2 := hide hb2
  clear hb1 hb2 hc1 hc2 hf1 hf2 HCC HRR
  go_loopw [7, 23] (fun n i wr => ∃ k : Nat, k ≤ ws.length ∧ i = .int .i64 k ∧ n = .int .i64 (cntTo ws lo hi (64 * k) : Nat) ∧ Below (w.heap.size + 1) (w.alloc (.cells #[.int .i64 (S : Int), .slice A ws.length c] 24)) wr) (fun _ i _ => ws.length - (intOf i).toNat)
  case atStart => exact ⟨0, Nat.zero_le _, rfl, rfl, by simpa using HB2.out⟩
  case round =>
    obtain ⟨k, hk, rfl, rfl, hb⟩ := hrel
    have HB := hide hb
    clear hb
    by_cases hlt : k < ws.length
    · obtain ⟨hrr, _⟩ := HWW.out wr HB.out
      obtain ⟨b, off, rfl, hbl, hcb⟩ := hrr (by rintro rfl; simp at hlt)
      have e1 := hcb k _ (getD_of hlt)
      have hst := cntTo_step (ws := ws) lo hi k
      have hx := getD_lt HX.out k
      have hn1 : cntTo ws lo hi (64 * k) ≤ 64 * k := bc_le _ _
      obtain ⟨x, hxe⟩ : ∃ x, x = ws.getD k 0 := ⟨_, rfl⟩
      obtain ⟨z, hz⟩ : ∃ z, z = ws.getD k 0 &&& spanN k lo hi := ⟨_, rfl⟩
      have hzl : z < 2 ^ 64 := by rw [hz]; exact Nat.lt_of_le_of_lt Nat.and_le_left hx
      have hbit : bits .and .u64 (x : Int) (spanN k lo hi : Int) = (z : Int) := by
        rw [hxe, hz]
        exact u64_and_nat _ _ (by omega) (by have := spanN_lt k lo hi; omega)
      rw [← hz] at hst
      rw [← hxe] at e1
      have hp2 : pc 64 z ≤ 64 := by rw [pc_bc 64 z]; exact bc_le _ _
      have HO : ∀ W, Calls Tryd.prog 44 #[.int .u64 (z : Int)] W fun e w' => e = .returned (.int .i64 (pc 64 z : Nat)) ∧ W = w' := fun W => ones_any z hzl W
      obtain ⟨y, hy⟩ : ∃ y, y = pc 64 z := ⟨_, rfl⟩
      obtain ⟨n, hnn⟩ : ∃ n, n = cntTo ws lo hi (64 * k) := ⟨_, rfl⟩
      rw [← hy] at hst hp2 HO
      rw [← hnn] at hst hn1 ⊢
      have HST := hide hst
      have HOO := hide HO
      clear hst HO hy hnn hz hxe hx hzl hcb hrr
      go_wp2_with (first | (go_at_call 34; refine (span_any k lo hi _ (by omega) (by omega) (by omega)).mono ?_; rintro e w' ⟨rfl, q, rfl⟩) | (go_at_call 44; refine (HOO.out _).mono ?_; rintro e w' ⟨rfl, rfl⟩))
      go_roundw
      case rel => exact ⟨k + 1, by omega, by go_num, by rw [HST.out]; go_num, below_drewN HB.out _⟩
      case measure => simp [intOf]; omega
    · go_wp2
      go_ret
      exact ⟨ret_int (by unfold cnt; rw [show k = ws.length by omega]), (HWW.out wr HB.out).2⟩
end Go.Proofs.YtdpdlbonlpdkjaaDoor.Bs
