import Derived.Test.YtdpdlbonlpdkjaaDoorFill
import Derived.Test.YtdpdlbonlpdkjaaDoorMath3
import Derived.Test.YtdpdlbonlpdkjaaDoorShelf
namespace Go.Proofs.YtdpdlbonlpdkjaaDoor.Bs
open Go Go.RowKit
set_option linter.unusedVariables false
theorem xor_all (x : Nat) (hx : x < 2 ^ 64) : bits .xor .u64 IntKind.u64.max (x : Int) = ((2 ^ 64 - 1 - x : Nat) : Int) := by
  have e : IntKind.u64.max = ((2 ^ 64 - 1 : Nat) : Int) := by decide
  rw [e, u64_xor_nat _ _ (by omega) (by omega)]
  congr 1
  apply word_ext
  · exact Nat.xor_lt_two_pow (by omega) hx
  · omega
  · intro j hj
    rw [testBit_compl x j hx hj, Nat.testBit_xor, Nat.testBit_two_pow_sub_one]
    simp [hj]
theorem equal_any (s : Int) (A : Option Addr) (ws : List Nat) (c k : Nat) (on : Bool) (w : World) (hr : Wd w A ws) (hw : ∀ x ∈ ws, x < 2 ^ 64) (hn : ws.length ≤ 64) (hk : k < ws.length) :
    Calls Tryd.prog 40 #[.agg #[.int .i64 s, .slice A ws.length c], .int .i64 (k : Int), .bool on] w fun e w' => e = .returned (.int .u64 (eqW on (ws.getD k 0) : Nat)) ∧ Below w.heap.size w w' := by
  obtain ⟨b, off, rfl, hb, hc⟩ := hr (by rintro rfl; simp at hk)
  have hx := getD_lt hw k
  have hcell := hc _ _ (getD_of (ws := ws) (i := k) hk)
  clear hc hw hr
  generalize ws.getD k 0 = x at *
  generalize ws.length = n at *
  cases on
  · go_enter Tryd.func40, Tryd.ntmps40
    go_wp2
    go_ret
    refine ⟨ret_int ?_, bal (brefl _) _⟩
    exact xor_all x hx
  · go_enter Tryd.func40, Tryd.ntmps40
    go_wp2
    go_ret
    exact ⟨ret_int rfl, bal (brefl _) _⟩
/-- The table of the library's own that TrailingZeros64 reads. -/
def Tab (w : World) : Prop := TabAt 0 Lib.deBruijn64tab w
theorem Tab.below {w w' : World} (h : Tab w) (hb : Below w.heap.size w w') : Tab w' := fun j hj => by
  have hlt : 0 < w.heap.size := by
    have h0 := h 0 (by decide)
    rcases Nat.eq_zero_or_pos w.heap.size with e | e
    · exfalso
      have : w.heap[0]? = none := Array.getElem?_eq_none (by omega)
      simp [World.cell?, this] at h0
    · exact e
  rw [hb.cell (p := ⟨0, j, none⟩) hlt]
  exact h j hj
theorem find_no (s f e0 : Int) (A : Option Addr) (ws : List Nat) (c : Nat) (on : Bool) (w : World) (hr : Wd w A ws) (hw : ∀ x ∈ ws, x < 2 ^ 64) (hn : ws.length ≤ 9223372036854775807) (he : chk s ws = e0) (h : (e0 == 0) = false ∨ f < 0) :
    Calls Tryd.prog 23 #[.agg #[.int .i64 s, .slice A ws.length c], .int .i64 f, .bool on] w fun e w' => e = .returned (.int .i64 (-1)) ∧ Below w.heap.size w w' := by
  have hr' : Wd (w.alloc (.cells #[.int .i64 s, .slice A ws.length c] 24)) A ws := hr.below (bal (brefl _) _)
  have HC := check_any s A ws c _ hr' hw hn
  rw [he] at HC
  have HCC := hide HC
  clear hw hr hr' HC he
  rcases h with h | h
  · have h2 : (e0 != 0) = true := by rw [bne, h]; rfl
    go_enter Tryd.func23, Tryd.ntmps23
    go_wp2_with (go_at_call 14; refine HCC.out.mono ?_; rintro e w1 ⟨rfl, hb1⟩; obtain ⟨hc1, hf1⟩ := bcell hb1)
    go_ret
    exact ⟨rfl, btrans (bal (brefl _) _) hb1⟩
  · by_cases h3 : e0 = 0
    · subst h3
      go_enter Tryd.func23, Tryd.ntmps23
      go_wp2_with (go_at_call 14; refine HCC.out.mono ?_; rintro e w1 ⟨rfl, hb1⟩; obtain ⟨hc1, hf1⟩ := bcell hb1)
      go_ret
      exact ⟨rfl, btrans (bal (brefl _) _) hb1⟩
    · have h1 : (e0 == 0) = false := by simpa using h3
      have h2 : (e0 != 0) = true := by rw [bne, h1]; rfl
      clear h3
      go_enter Tryd.func23, Tryd.ntmps23
      go_wp2_with (go_at_call 14; refine HCC.out.mono ?_; rintro e w1 ⟨rfl, hb1⟩; obtain ⟨hc1, hf1⟩ := bcell hb1)
      go_ret
      exact ⟨rfl, btrans (bal (brefl _) _) hb1⟩
def FindEnd (ws : List Nat) (S frm : Nat) (on : Bool) (w : World) (e : Ending) (w' : World) : Prop := ∃ r : Int, e = .returned (.int .i64 r) ∧ FindIs ws S frm on r ∧ Below w.heap.size w w'
theorem first_below {B : Nat} {a b w2 : World} (h : Below B a b) {n : Nat} (h2 : Below (b.drewN n).heap.size (b.drewN n) w2) (hle : B ≤ b.heap.size) : Below B a w2 := (below_drewN h n).trans (h2.mono hle)
set_option maxHeartbeats 2000000 in
theorem find_in (S frm : Nat) (A : Option Addr) (ws : List Nat) (c : Nat) (on : Bool) (w : World) (ht : Tab w) (hr : Wd w A ws) (hw : ∀ x ∈ ws, x < 2 ^ 64) (he : chk (S : Int) ws = 0) (hf : frm ≤ 9223372036854775807) :
    Calls Tryd.prog 23 #[.agg #[.int .i64 S, .slice A ws.length c], .int .i64 frm, .bool on] w (FindEnd ws S frm on w) := by
  obtain ⟨v1, v2, v3, v4⟩ := valid_len he
  have hS1 : S ≤ 64 * ws.length := by omega
  have hS2 : S ≤ 4096 := by omega
  have hb0 : Below w.heap.size w (w.alloc (.cells #[.int .i64 (S : Int), .slice A ws.length c] 24)) := bal (brefl _) _
  have hr' := hr.below hb0
  have ht' := ht.below hb0
  have HC := check_any S A ws c _ hr' hw (by omega)
  rw [he] at HC
  have HW : ∀ wr, Below (w.heap.size + 1) (w.alloc (.cells #[.int .i64 (S : Int), .slice A ws.length c] 24)) wr → Wd wr A ws ∧ Tab wr ∧ Below w.heap.size w wr := fun wr hb =>
    ⟨hr'.below (by simpa using hb), ht'.below (by simpa using hb), btrans hb0 (by simpa using hb)⟩
  have HCC := hide HC
  have HWW := hide HW
  have HX := hide hw
  clear hr hr' ht ht' HC he HW hw hb0 v2 v3 v4
  go_enter Tryd.func23, Tryd.ntmps23
  go_wp2_with (go_at_call 14; refine HCC.out.mono ?_; rintro e w1 ⟨rfl, hb1⟩; obtain ⟨hc1, hf1⟩ := bcell hb1)
  have HB1 := hide hb1
  clear hb1 hc1 hf1 HCC
  go_loopw [7] (fun i wr => ∃ k : Nat, frm / 64 ≤ k ∧ i = .int .i64 k ∧ noneTo ws S frm on k ∧ Below (w.heap.size + 1) (w.alloc (.cells #[.int .i64 (S : Int), .slice A ws.length c] 24)) wr) (fun i _ => 64 - (intOf i).toNat)
  case atStart => exact ⟨frm / 64, Nat.le_refl _, by go_num, noneTo_start _ _ _ _, by simpa using HB1.out⟩
  case round =>
    obtain ⟨k, hk, rfl, hno, hb⟩ := hrel
    have c0 : wr.cell? ⟨w.heap.size, 0, none⟩ = some (.int .i64 S) := by rw [hb.cell (by show w.heap.size < _; omega)]; simp [go_sem]
    have c1 : wr.cell? ⟨w.heap.size, 1, none⟩ = some (.slice A ws.length c) := by rw [hb.cell (by show w.heap.size < _; omega)]; simp [go_sem]
    have hlt0 : w.heap.size < wr.heap.size := by have := hb.size; simp at this; omega
    have HB := hide hb
    have HNO := hide hno
    clear hb hno
    by_cases hlt : k < ws.length
    · obtain ⟨hrr, htt, _⟩ := HWW.out wr HB.out
      have hle : w.heap.size + 1 ≤ wr.heap.size := by have := HB.out.size; simpa using this
      obtain ⟨y, hy⟩ : ∃ y, y = eqW on (ws.getD k 0) := ⟨_, rfl⟩
      obtain ⟨z, hz⟩ : ∃ z, z = foundW ws S frm on k := ⟨_, rfl⟩
      have hzl : z < 2 ^ 64 := by rw [hz]; exact foundW_lt _ _ _ _ _
      have hbit : bits .and .u64 (y : Int) (spanN k frm S : Int) = (z : Int) := by
        rw [hy, hz]
        exact u64_and_nat (eqW on (ws.getD k 0)) (spanN k frm S) (by have := eqW_lt on _ (getD_lt HX.out k); omega) (by have := spanN_lt k frm S; omega)
      have HQ : ∀ W, Wd W A ws → Calls Tryd.prog 40 #[.agg #[.int .i64 S, .slice A ws.length c], .int .i64 (k : Int), .bool on] W fun e w' => e = .returned (.int .u64 (y : Int)) ∧ Below W.heap.size W w' := fun W h => by
        rw [hy]; exact equal_any S A ws c k on W h HX.out v1 hlt
      have HQQ := hide HQ
      have HZ := hide hz
      have HRR := hide hrr
      have HTT := hide htt
      clear hy HQ hz hrr htt
      by_cases hz : z = 0
      · subst hz
        have hzz : foundW ws S frm on k = 0 := HZ.out.symm
        have HZZ := hide hzz
        clear hzz hzl
        go_wp2_with fail
        go_region_with (first | (go_at_call 40; refine (HQQ.out _ (HRR.out.below (by first | exact brefl _ | exact (below_drewN (brefl _) _)))).mono ?_; rintro e w2 ⟨rfl, hb2⟩; have d0 : w2.cell? ⟨w.heap.size, 0, none⟩ = some (.int .i64 S) := (hb2.cell (p := ⟨w.heap.size, 0, none⟩) hlt0).trans c0) | (go_at_call 34; refine (span_any k frm S _ (by omega) (by omega) (by omega)).mono ?_; rintro e w' ⟨rfl, q, rfl⟩))
        all_goals
          have hbw : Below (w.heap.size + 1) (w.alloc (.cells #[.int .i64 (S : Int), .slice A ws.length c] 24)) w2 := first_below HB.out hb2 hle
          have HBW := hide hbw
          clear hb2 hbw
          go_wp2
          go_roundw
          case rel => exact ⟨k + 1, by omega, by go_num, noneTo_step HX.out HNO.out HZZ.out, by first | exact HBW.out | exact below_drewN HBW.out _⟩
          case measure => simp [intOf]; omega
      · have n1 : ((z : Int) == 0) = false := by rw [beq_eq_false_iff_ne]; omega
        have n2 : ((z : Int) != 0) = true := by rw [bne, n1]; rfl
        have hctz := (ctz_spec hz hzl).1
        obtain ⟨t, ht⟩ : ∃ t, t = Lib.ctz 64 z := ⟨_, rfl⟩
        have HT : ∀ W, Tab W → Calls Tryd.prog 41 #[.int .u64 (z : Int)] W fun e w' => e = .returned (.int .i64 (t : Int)) ∧ W = w' := fun W h => by
          rw [ht]; exact (Tryd.bits_TrailingZeros64 z (by omega) W (fun _ => h)).mono fun e w' ⟨a, b⟩ => ⟨a, b.symm⟩
        rw [← ht] at hctz
        have hfi : FindIs ws S frm on ((k * 64 + t : Nat) : Int) := by
          rw [ht, HZ.out]
          exact find_at HX.out HNO.out (by rw [← HZ.out]; exact hz)
        have HTZ := hide HT
        have HFI := hide hfi
        clear hz hzl HT ht hfi
        go_wp2_with fail
        go_region_with (first | (go_at_call 40; refine (HQQ.out _ (HRR.out.below (by first | exact brefl _ | exact (below_drewN (brefl _) _)))).mono ?_; rintro e w2 ⟨rfl, hb2⟩; have d0 : w2.cell? ⟨w.heap.size, 0, none⟩ = some (.int .i64 S) := (hb2.cell (p := ⟨w.heap.size, 0, none⟩) hlt0).trans c0) | (go_at_call 34; refine (span_any k frm S _ (by omega) (by omega) (by omega)).mono ?_; rintro e w' ⟨rfl, q, rfl⟩))
        all_goals
          have hbw : Below (w.heap.size + 1) (w.alloc (.cells #[.int .i64 (S : Int), .slice A ws.length c] 24)) w2 := first_below HB.out hb2 hle
          have HBW := hide hbw
          clear hb2 hbw
          go_wp2_with (go_at_call 41; refine (HTZ.out _ (by first | exact (HWW.out w2 HBW.out).2.1 | exact (HWW.out _ (below_drewN HBW.out _)).2.1)).mono ?_; rintro e w3 ⟨rfl, rfl⟩)
          go_ret
          exact ⟨_, ret_int (by omega), HFI.out, by first | exact (HWW.out w2 HBW.out).2.2 | exact (HWW.out _ (below_drewN HBW.out _)).2.2⟩
    · go_wp2
      go_ret
      exact ⟨_, rfl, find_end HNO.out (by omega) hS1, (HWW.out wr HB.out).2.2⟩
end Go.Proofs.YtdpdlbonlpdkjaaDoor.Bs
