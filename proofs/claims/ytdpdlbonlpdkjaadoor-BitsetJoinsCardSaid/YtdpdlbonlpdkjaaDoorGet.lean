import Derived.Test.YtdpdlbonlpdkjaaDoorMem
namespace Go.Proofs.YtdpdlbonlpdkjaaDoor.Bs
open Go Go.RowKit
set_option linter.unusedVariables false
theorem bcell {W w1 : World} (hb : Below W.heap.size W w1) : (∀ b o, b < W.heap.size → w1.cell? ⟨b, o, none⟩ = W.cell? ⟨b, o, none⟩) ∧ (∀ b o, b < W.heap.size → w1.frozen? ⟨b, o, none⟩ = W.frozen? ⟨b, o, none⟩) :=
  ⟨fun b o h => hb.cell (p := ⟨b, o, none⟩) h, fun b o h => hb.frozen (p := ⟨b, o, none⟩) h⟩
theorem get_far (s i : Int) (A : Option Addr) (ws : List Nat) (c : Nat) (w : World) (hr : Wd w A ws) (hw : ∀ x ∈ ws, x < 2 ^ 64) (hn : ws.length ≤ 9223372036854775807) (h : (chk s ws == 0) = false) :
    Calls Tryd.prog 19 #[.agg #[.int .i64 s, .slice A ws.length c], .int .i64 i] w fun e w' => e = .returned (.bool false) ∧ Below w.heap.size w w' := by
  have hr' : Wd (w.alloc (.cells #[.int .i64 s, .slice A ws.length c] 24)) A ws := hr.below (bal (brefl _) _)
  have HW := hide hw
  clear hw
  have h2 : (chk s ws != 0) = true := by simpa using h
  go_enter Tryd.func19, Tryd.ntmps19
  go_wp2_with (go_at_call 14; refine (check_any s A ws c _ hr' HW hn).mono ?_; rintro e w1 ⟨rfl, hb1⟩; obtain ⟨hc1, hf1⟩ := bcell hb1)
  go_ret
  exact ⟨rfl, btrans (bal (brefl _) _) hb1⟩
theorem get_out (s i : Int) (A : Option Addr) (ws : List Nat) (c : Nat) (w : World) (hr : Wd w A ws) (hw : ∀ x ∈ ws, x < 2 ^ 64) (hn : ws.length ≤ 9223372036854775807) (h : i < 0 ∨ s ≤ i) :
    Calls Tryd.prog 19 #[.agg #[.int .i64 s, .slice A ws.length c], .int .i64 i] w fun e w' => e = .returned (.bool false) ∧ Below w.heap.size w w' := by
  have hr' : Wd (w.alloc (.cells #[.int .i64 s, .slice A ws.length c] 24)) A ws := hr.below (bal (brefl _) _)
  have HW := hide hw
  clear hw
  rcases h with h | h
  all_goals
    go_enter Tryd.func19, Tryd.ntmps19
    go_wp2_with (go_at_call 14; refine (check_any s A ws c _ hr' HW hn).mono ?_; rintro e w1 ⟨rfl, hb1⟩; obtain ⟨hc1, hf1⟩ := bcell hb1)
    all_goals go_ret
    all_goals exact ⟨rfl, btrans (bal (brefl _) _) hb1⟩
theorem get_in (S i : Nat) (A : Option Addr) (ws : List Nat) (c : Nat) (w : World) (hr : Wd w A ws) (hw : ∀ x ∈ ws, x < 2 ^ 64) (hn : ws.length ≤ 64) (hv : chk (S : Int) ws = 0) (hi : i < S) (hS : S ≤ 64 * ws.length) :
    Calls Tryd.prog 19 #[.agg #[.int .i64 S, .slice A ws.length c], .int .i64 i] w fun e w' => e = .returned (.bool (bitAt ws i)) ∧ Below w.heap.size w w' := by
  have hr' : Wd (w.alloc (.cells #[.int .i64 S, .slice A ws.length c] 24)) A ws := hr.below (bal (brefl _) _)
  obtain ⟨b, off, rfl, hb, hc⟩ := hr (by intro e; simp [e] at hS; omega)
  have hx := getD_lt hw (i / 64)
  have hcell := hc _ _ (getD_of (ws := ws) (i := i / 64) (by omega))
  have hlt : i / 64 < ws.length := by omega
  unfold bitAt
  have HC : Calls Tryd.prog 14 #[.agg #[.int .i64 S, .slice (some ⟨b, off, none⟩) ws.length c]] (w.alloc (.cells #[.int .i64 S, .slice (some ⟨b, off, none⟩) ws.length c] 24)) _ := check_any S _ ws c _ hr' hw (by omega)
  rw [hv] at HC
  have HCC := hide HC
  clear hc hw HC hv hr hr' hS
  generalize ws.getD (i / 64) 0 = x at *
  generalize ws.length = n at *
  go_enter Tryd.func19, Tryd.ntmps19
  go_wp2_with (go_at_call 14; refine HCC.out.mono ?_; rintro e w1 ⟨rfl, hb1⟩; obtain ⟨hc1, hf1⟩ := bcell hb1)
  go_ret
  exact ⟨ret_bool (testBit_form x (i % 64) hx), btrans (bal (brefl _) _) hb1⟩
/-- what Get answers -/
def getB (s : Int) (ws : List Nat) (i : Int) : Bool := decide (chk s ws = 0 ∧ 0 ≤ i ∧ i < s) && bitAt ws i.toNat
theorem valid_len {s : Int} {ws : List Nat} (h : chk s ws = 0) : ws.length ≤ 64 ∧ s ≤ 64 * ws.length ∧ 0 ≤ s ∧ s ≤ 4096 := by
  obtain ⟨h0, h1, h2, _⟩ := chk_ok.1 h
  unfold nw at h2
  omega
theorem get_any (s i : Int) (A : Option Addr) (ws : List Nat) (c : Nat) (w : World) (hr : Wd w A ws) (hw : ∀ x ∈ ws, x < 2 ^ 64) (hn : ws.length ≤ 9223372036854775807) :
    Calls Tryd.prog 19 #[.agg #[.int .i64 s, .slice A ws.length c], .int .i64 i] w fun e w' => e = .returned (.bool (getB s ws i)) ∧ Below w.heap.size w w' := by
  by_cases h1 : chk s ws = 0
  · obtain ⟨v1, v2, v3, v4⟩ := valid_len h1
    by_cases h2 : 0 ≤ i ∧ i < s
    · obtain ⟨S, rfl⟩ : ∃ S : Nat, s = (S : Int) := ⟨s.toNat, by omega⟩
      obtain ⟨I, rfl⟩ : ∃ I : Nat, i = (I : Int) := ⟨i.toNat, by omega⟩
      have : getB (S : Int) ws (I : Int) = bitAt ws I := by
        unfold getB
        have : (chk (S : Int) ws = 0 ∧ (0 : Int) ≤ I ∧ (I : Int) < S) := ⟨h1, h2⟩
        rw [decide_eq_true this]
        simp
      rw [this]
      exact get_in S I A ws c w hr hw v1 h1 (by omega) (by omega)
    · have : getB s ws i = false := by
        unfold getB
        have : ¬ (chk s ws = 0 ∧ 0 ≤ i ∧ i < s) := fun h => h2 h.2
        rw [decide_eq_false this]; rfl
      rw [this]
      exact get_out s i A ws c w hr hw hn (by omega)
  · have : getB s ws i = false := by
      unfold getB
      have : ¬ (chk s ws = 0 ∧ 0 ≤ i ∧ i < s) := fun h => h1 h.1
      rw [decide_eq_false this]; rfl
    rw [this]
    exact get_far s i A ws c w hr hw hn (by simpa using h1)
theorem rcheck_range (s : Int) (A : Option Addr) (n c : Nat) (w : World) (h : s < 0 ∨ 4096 < s) :
    Calls Tryd.prog 15 #[.agg #[.int .i64 s, .slice A n c]] w fun e w' => e = .returned (.int .i64 2) ∧ Below w.heap.size w w' := by
  rcases h with h | h
  · go_enter Tryd.func15, Tryd.ntmps15
    go_wp2
    go_ret
    exact ⟨rfl, bal (brefl _) _⟩
  · go_enter Tryd.func15, Tryd.ntmps15
    go_wp2
    go_ret
    exact ⟨rfl, bal (brefl _) _⟩
theorem rcheck_len (s : Int) (A : Option Addr) (n c : Nat) (w : World) (h0 : 0 ≤ s) (h1 : s ≤ 4096) (h : (n : Int) ≠ (s + 63) / 64) :
    Calls Tryd.prog 15 #[.agg #[.int .i64 s, .slice A n c]] w fun e w' => e = .returned (.int .i64 3) ∧ Below w.heap.size w w' := by
  have h3 : ((n : Int) != (s + 63) / 64) = true := by simpa using h
  have h4 : ((n : Int) == (s + 63) / 64) = false := by simpa using h
  clear h
  go_enter Tryd.func15, Tryd.ntmps15
  go_wp2
  go_ret
  exact ⟨rfl, bal (brefl _) _⟩
def hcI (S : Nat) (ws : List Nat) : Int := if hiClear S ws = true then 0 else 3
/-- the bits from S on, up to k, are 0 -/
def clearTo (S k : Nat) (ws : List Nat) : Prop := ∀ i, S ≤ i → i < k → bitAt ws i = false
theorem rcheck_some (S : Nat) (A : Option Addr) (ws : List Nat) (c : Nat) (w : World) (hr : Wd w A ws) (hw : ∀ x ∈ ws, x < 2 ^ 64) (hS : S ≤ 4096) (hl : ws.length = (S + 63) / 64) :
    Calls Tryd.prog 15 #[.agg #[.int .i64 S, .slice A ws.length c]] w fun e w' => e = .returned (.int .i64 (hcI S ws)) ∧ Below w.heap.size w w' := by
  have hn : ws.length ≤ 64 := by omega
  have hSl : S ≤ 64 * ws.length := by omega
  have hW : ∀ wr, Below (w.heap.size + 1) (w.alloc (.cells #[.int .i64 (S : Int), .slice A ws.length c] 24)) wr → Wd wr A ws := fun wr hb => (hr.below (bal (brefl _) (.cells #[.int .i64 (S : Int), .slice A ws.length c] 24))).below (by simpa using hb)
  have HH := hide hW
  have HW := hide hw
  have h3 : ((ws.length : Int) != ((S : Int) + 63) / 64) = false := by simp; omega
  have h4 : ((ws.length : Int) == ((S : Int) + 63) / 64) = true := by simp; omega
  have HL := hide hl
  clear hl hW hw
  go_enter Tryd.func15, Tryd.ntmps15
  go_wp2
  go_loopw [3] (fun i wr => ∃ k : Nat, S ≤ k ∧ k ≤ 64 * ws.length ∧ i = .int .i64 k ∧ clearTo S k ws ∧ Below (w.heap.size + 1) (w.alloc (.cells #[.int .i64 (S : Int), .slice A ws.length c] 24)) wr) (fun i _ => 64 * ws.length - (intOf i).toNat)
  case atStart => exact ⟨S, Nat.le_refl _, hSl, rfl, fun i h1 h2 => by omega, Below.refl _ _⟩
  case round =>
    obtain ⟨k, hk1, hk2, rfl, hcl, hb⟩ := hrel
    have c0 : wr.cell? ⟨w.heap.size, 0, none⟩ = some (.int .i64 S) := by rw [hb.cell (by simp)]; simp [go_sem]
    have c1 : wr.cell? ⟨w.heap.size, 1, none⟩ = some (.slice A ws.length c) := by rw [hb.cell (by simp)]; simp [go_sem]
    have hrr := HH.out wr hb
    have HCL := hide hcl
    clear hcl
    by_cases hlt : k < 64 * ws.length
    · have HB := bit_any (S : Int) A ws c k wr hrr HW.out hn hlt
      cases hbk : bitAt ws k
      · rw [hbk] at HB
        have HB2 := hide HB
        have HBK := hide hbk
        clear HB hbk
        go_wp2_with (go_at_call 35; refine HB2.out.mono ?_; rintro e w1 ⟨rfl, hb1⟩; obtain ⟨hc1, hf1⟩ := bcell hb1)
        go_roundw
        case rel => exact ⟨k + 1, by omega, by omega, by go_num, fun i h1 h2 => (Nat.lt_or_ge i k).elim (fun h => HCL.out i h1 h) (fun h => by rw [show i = k by omega]; exact HBK.out), hb.trans (hb1.mono (by simpa using hb.size))⟩
        case measure => simp [intOf]; omega
      · rw [hbk] at HB
        have HB2 := hide HB
        have HBK := hide hbk
        clear HB hbk
        go_wp2_with (go_at_call 35; refine HB2.out.mono ?_; rintro e w1 ⟨rfl, hb1⟩; obtain ⟨hc1, hf1⟩ := bcell hb1)
        go_ret
        refine ⟨ret_int ?_, ?_⟩
        · refine (if_neg fun h => ?_).symm
          have := hiClear_iff.1 h k hk1
          rw [HBK.out] at this
          cases this
        · exact btrans (bal (brefl _) _) ((show Below _ _ wr by simpa using hb).trans (hb1.mono (by simpa using hb.size)))
    · go_wp2
      go_ret
      refine ⟨ret_int ?_, ?_⟩
      · refine (if_pos (hiClear_iff.2 fun i hi => ?_)).symm
        by_cases h : i < k
        · exact HCL.out i hi h
        · exact bitAt_far ws i (by omega)
      · exact btrans (bal (brefl _) (.cells #[.int .i64 (S : Int), .slice A ws.length c] 24)) (by simpa using hb)
/-- THE REFERENCE's CHECK. -/
theorem rcheck_any (s : Int) (A : Option Addr) (ws : List Nat) (c : Nat) (w : World) (hr : Wd w A ws) (hw : ∀ x ∈ ws, x < 2 ^ 64) :
    Calls Tryd.prog 15 #[.agg #[.int .i64 s, .slice A ws.length c]] w fun e w' => e = .returned (.int .i64 (chk s ws)) ∧ Below w.heap.size w w' := by
  by_cases h1 : s < 0 ∨ 4096 < s
  · have : chk s ws = 2 := by unfold chk; rw [if_pos h1]
    rw [this]; exact rcheck_range s A _ c w h1
  · by_cases h2 : ws.length = nw s.toNat
    · obtain ⟨S, rfl⟩ : ∃ S : Nat, s = (S : Int) := ⟨s.toNat, by omega⟩
      simp only [Int.toNat_natCast] at h2
      have hk : chk (S : Int) ws = hcI S ws := by
        unfold chk hcI
        rw [if_neg h1, if_neg (by simp; exact h2)]
        simp
      rw [hk]
      exact rcheck_some S A ws c w hr hw (by omega) h2
    · have : chk s ws = 3 := by unfold chk; rw [if_neg h1, if_pos h2]
      rw [this]
      exact rcheck_len s A _ c w (by omega) (by omega) (by unfold nw at h2; omega)
end Go.Proofs.YtdpdlbonlpdkjaaDoor.Bs
