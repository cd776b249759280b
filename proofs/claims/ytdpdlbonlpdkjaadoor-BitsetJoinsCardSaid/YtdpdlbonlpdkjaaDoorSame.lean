import Derived.Test.YtdpdlbonlpdkjaaDoorGet
namespace Go.Proofs.YtdpdlbonlpdkjaaDoor.Bs
open Go Go.RowKit
set_option linter.unusedVariables false
theorem rget_far (s i : Int) (A : Option Addr) (ws : List Nat) (c : Nat) (w : World) (hr : Wd w A ws) (hw : ∀ x ∈ ws, x < 2 ^ 64) (h : (chk s ws == 0) = false) :
    Calls Tryd.prog 20 #[.agg #[.int .i64 s, .slice A ws.length c], .int .i64 i] w fun e w' => e = .returned (.bool false) ∧ Below w.heap.size w w' := by
  have hr' : Wd (w.alloc (.cells #[.int .i64 s, .slice A ws.length c] 24)) A ws := hr.below (bal (brefl _) _)
  have HW := hide hw
  clear hw
  go_enter Tryd.func20, Tryd.ntmps20
  go_wp2_with (go_at_call 15; refine (rcheck_any s A ws c _ hr' HW).mono ?_; rintro e w1 ⟨rfl, hb1⟩; obtain ⟨hc1, hf1⟩ := bcell hb1)
  go_ret
  exact ⟨rfl, btrans (bal (brefl _) _) hb1⟩
theorem rget_out (s i : Int) (A : Option Addr) (ws : List Nat) (c : Nat) (w : World) (hr : Wd w A ws) (hw : ∀ x ∈ ws, x < 2 ^ 64) (h : (chk s ws == 0) = true) (h : i < 0 ∨ s ≤ i) :
    Calls Tryd.prog 20 #[.agg #[.int .i64 s, .slice A ws.length c], .int .i64 i] w fun e w' => e = .returned (.bool false) ∧ Below w.heap.size w w' := by
  have hr' : Wd (w.alloc (.cells #[.int .i64 s, .slice A ws.length c] 24)) A ws := hr.below (bal (brefl _) _)
  have HW := hide hw
  clear hw
  rcases h with h | h
  all_goals
    go_enter Tryd.func20, Tryd.ntmps20
    go_wp2_with (go_at_call 15; refine (rcheck_any s A ws c _ hr' HW).mono ?_; rintro e w1 ⟨rfl, hb1⟩; obtain ⟨hc1, hf1⟩ := bcell hb1)
    all_goals go_ret
    all_goals exact ⟨rfl, btrans (bal (brefl _) _) hb1⟩
theorem rget_in (S i : Nat) (A : Option Addr) (ws : List Nat) (c : Nat) (w : World) (hr : Wd w A ws) (hw : ∀ x ∈ ws, x < 2 ^ 64) (hn : ws.length ≤ 64) (hv : chk (S : Int) ws = 0) (hi : i < S) (hS : S ≤ 64 * ws.length) :
    Calls Tryd.prog 20 #[.agg #[.int .i64 S, .slice A ws.length c], .int .i64 i] w fun e w' => e = .returned (.bool (bitAt ws i)) ∧ Below w.heap.size w w' := by
  have hr' : Wd (w.alloc (.cells #[.int .i64 S, .slice A ws.length c] 24)) A ws := hr.below (bal (brefl _) _)
  have HC : Calls Tryd.prog 15 #[.agg #[.int .i64 S, .slice A ws.length c]] (w.alloc (.cells #[.int .i64 S, .slice A ws.length c] 24)) _ := rcheck_any S _ ws c _ hr' hw
  rw [hv] at HC
  have HCC := hide HC
  have HB : ∀ wr, Below (w.heap.size + 1) (w.alloc (.cells #[.int .i64 (S : Int), .slice A ws.length c] 24)) wr → Calls Tryd.prog 35 #[.agg #[.int .i64 S, .slice A ws.length c], .int .i64 i] wr fun e w' => e = .returned (.bool (bitAt ws i)) ∧ Below wr.heap.size wr w' :=
    fun wr hb => bit_any S A ws c i wr (hr'.below (by simpa using hb)) hw hn (by omega)
  have HBB := hide HB
  clear hw HC hv hr hr' hS HB
  generalize bitAt ws i = v at *
  generalize ws.length = n at *
  go_enter Tryd.func20, Tryd.ntmps20
  go_wp2_with (first | (go_at_call 15; refine HCC.out.mono ?_; rintro e w1 ⟨rfl, hb1⟩; obtain ⟨hc1, hf1⟩ := bcell hb1) | (go_at_call 35; refine (HBB.out w1 (by simpa using hb1)).mono ?_; rintro e w2 ⟨rfl, hb2⟩; obtain ⟨hc2, hf2⟩ := bcell hb2))
  go_ret
  exact ⟨rfl, btrans (btrans (bal (brefl _) _) hb1) hb2⟩
theorem rget_any (s i : Int) (A : Option Addr) (ws : List Nat) (c : Nat) (w : World) (hr : Wd w A ws) (hw : ∀ x ∈ ws, x < 2 ^ 64) :
    Calls Tryd.prog 20 #[.agg #[.int .i64 s, .slice A ws.length c], .int .i64 i] w fun e w' => e = .returned (.bool (getB s ws i)) ∧ Below w.heap.size w w' := by
  by_cases h1 : chk s ws = 0
  · obtain ⟨v1, v2, v3, v4⟩ := valid_len h1
    by_cases h2 : 0 ≤ i ∧ i < s
    · obtain ⟨S, rfl⟩ : ∃ S : Nat, s = (S : Int) := ⟨s.toNat, by omega⟩
      obtain ⟨I, rfl⟩ : ∃ I : Nat, i = (I : Int) := ⟨i.toNat, by omega⟩
      have : getB (S : Int) ws (I : Int) = bitAt ws I := by
        unfold getB
        have : (chk (S : Int) ws = 0 ∧ (0 : Int) ≤ I ∧ (I : Int) < S) := ⟨h1, h2⟩
        rw [decide_eq_true this]
        simp
      rw [this]
      exact rget_in S I A ws c w hr hw v1 h1 (by omega) (by omega)
    · have : getB s ws i = false := by
        unfold getB
        have : ¬ (chk s ws = 0 ∧ 0 ≤ i ∧ i < s) := fun h => h2 h.2
        rw [decide_eq_false this]; rfl
      rw [this]
      exact rget_out s i A ws c w hr hw (by simpa using h1) (by omega)
  · have : getB s ws i = false := by
      unfold getB
      have : ¬ (chk s ws = 0 ∧ 0 ≤ i ∧ i < s) := fun h => h1 h.1
      rw [decide_eq_false this]; rfl
    rw [this]
    exact rget_far s i A ws c w hr hw (by simpa using h1)
/-- the words up to k are alike -/
def alikeTo (k : Nat) (xs ys : List Nat) : Prop := ∀ i, i < k → xs.getD i 0 = ys.getD i 0
theorem alike_all {xs ys : List Nat} (hl : xs.length = ys.length) : xs = ys ↔ alikeTo xs.length xs ys := by
  constructor
  · rintro rfl i _; rfl
  · intro h
    apply List.ext_getElem hl
    intro i h1 h2
    have := h i h1
    simpa [List.getD_eq_getElem?_getD, h1, h2] using this
def sameB (xs ys : List Nat) : Bool := decide (xs = ys)
theorem same_loop (s : Int) (A B : Option Addr) (xs ys : List Nat) (c d : Nat) (w : World) (ha : Wd w A xs) (hb : Wd w B ys) (hl : xs.length = ys.length) (hn : xs.length ≤ 9223372036854775807) :
    Calls Tryd.prog 16 #[.agg #[.int .i64 s, .slice A xs.length c], .agg #[.int .i64 s, .slice B xs.length d]] w fun e w' => e = .returned (.bool (sameB xs ys)) ∧ Below w.heap.size w w' := by
  have hW : ∀ wr, Below (w.heap.size + 1 + 1) ((w.alloc (.cells #[.int .i64 s, .slice A xs.length c] 24)).alloc (.cells #[.int .i64 s, .slice B xs.length d] 24)) wr → Below w.heap.size w wr := fun wr h =>
    btrans (bal (bal (brefl _) (.cells #[.int .i64 s, .slice A xs.length c] 24)) (.cells #[.int .i64 s, .slice B xs.length d] 24)) (by simpa using h)
  have HL := hide hl
  have HA := hide ha
  have HB := hide hb
  have HH := hide hW
  clear hl ha hb hW
  go_enter Tryd.func16, Tryd.ntmps16
  go_wp2
  go_loopw [5] (fun i wr => ∃ k : Nat, k ≤ xs.length ∧ i = .int .i64 k ∧ alikeTo k xs ys ∧ Below (w.heap.size + 1 + 1) ((w.alloc (.cells #[.int .i64 s, .slice A xs.length c] 24)).alloc (.cells #[.int .i64 s, .slice B xs.length d] 24)) wr) (fun i _ => xs.length - (intOf i).toNat)
  case atStart => exact ⟨0, Nat.zero_le _, rfl, fun i h => by omega, Below.refl _ _⟩
  case round =>
    obtain ⟨k, hk, rfl, hcl, hb⟩ := hrel
    have c0 : wr.cell? ⟨w.heap.size, 1, none⟩ = some (.slice A xs.length c) := by rw [hb.cell (by show w.heap.size < _; omega)]; simp [go_sem]
    have c1 : wr.cell? ⟨w.heap.size + 1, 1, none⟩ = some (.slice B xs.length d) := by rw [hb.cell (by simp)]; simp [go_sem]
    have HCL := hide hcl
    have HBB := hide hb
    clear hcl
    by_cases hlt : k < xs.length
    · obtain ⟨b, off, rfl, hbl, hcb⟩ := (HA.out.below (HH.out wr hb)) (by intro e; simp [e] at hlt)
      obtain ⟨b', off', rfl, hbl', hcb'⟩ := (HB.out.below (HH.out wr hb)) (by intro e; have := HL.out; simp [e] at this; simp [this] at hlt)
      have e1 := hcb k _ (getD_of hlt)
      have e2 := hcb' k _ (getD_of (by rw [← HL.out]; exact hlt))
      clear hcb hcb' hb
      by_cases hbk : xs.getD k 0 = ys.getD k 0
      · have HBK := hide hbk
        rw [hbk] at e1
        clear hbk
        generalize ys.getD k 0 = y at e1 e2
        go_wp2
        go_quiet (fail)
        go_wp2
        go_roundw
        case rel => exact ⟨k + 1, by omega, by go_num, fun i h1 => (Nat.lt_or_ge i k).elim (fun h => HCL.out i h) (fun h => by rw [show i = k by omega]; exact HBK.out), below_drewN HBB.out _⟩
        case measure => simp [intOf]; omega
      · have HBK := hide hbk
        have hne : ((xs.getD k 0 : Int) == (ys.getD k 0 : Int)) = false := by rw [beq_eq_false_iff_ne]; exact_mod_cast hbk
        have hne' : ((xs.getD k 0 : Int) != (ys.getD k 0 : Int)) = true := by rw [bne, hne]; rfl
        clear hbk
        generalize xs.getD k 0 = x at e1 e2 hne hne'
        generalize ys.getD k 0 = y at e1 e2 hne hne'
        go_wp2
        go_quiet (fail)
        go_wp2
        go_ret
        refine ⟨ret_bool ?_, below_drewN (HH.out wr HBB.out) _⟩
        unfold sameB
        rw [decide_eq_false]
        intro e
        exact HBK.out (by rw [e])
    · go_wp2
      go_ret
      refine ⟨ret_bool ?_, HH.out wr HBB.out⟩
      unfold sameB
      rw [decide_eq_true]
      exact (alike_all HL.out).2 (by rw [show xs.length = k by omega]; exact HCL.out)
theorem same_any (s t : Int) (A B : Option Addr) (xs ys : List Nat) (c d : Nat) (w : World) (ha : Wd w A xs) (hb : Wd w B ys) (hn : xs.length ≤ 9223372036854775807) :
    Calls Tryd.prog 16 #[.agg #[.int .i64 s, .slice A xs.length c], .agg #[.int .i64 t, .slice B ys.length d]] w fun e w' => e = .returned (.bool (decide (s = t) && sameB xs ys)) ∧ Below w.heap.size w w' := by
  by_cases h : s = t
  · subst h
    by_cases hl : xs.length = ys.length
    · rw [← hl]
      simpa using same_loop s A B xs ys c d w ha hb hl hn
    · have : sameB xs ys = false := by
        unfold sameB
        rw [decide_eq_false]
        intro e
        exact hl (by rw [e])
      rw [this]
      simpa using same_len s A B _ _ c d w hl
  · rw [decide_eq_false h]
    exact same_size s t A B _ _ c d w (by simpa using h)
end Go.Proofs.YtdpdlbonlpdkjaaDoor.Bs
