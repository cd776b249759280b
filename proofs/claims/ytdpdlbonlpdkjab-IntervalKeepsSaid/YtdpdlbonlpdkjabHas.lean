import Derived.Test.YtdpdlbonlpdkjabRead2
namespace Go.Proofs.Ytdpdlbonlpdkjab.Iv
open Go Go.RowKit
set_option linter.unusedVariables false
/-- A box of one cell of the call's own. -/
def Box1 (w : World) (g : Nat) (T : TypeId) (v : Value) : Prop := w.heap[g]? = some (.cells #[v] T (0, 0))
theorem Box1.c0 {w : World} {g : Nat} {T : TypeId} {v : Value} (h : Box1 w g T v) : w.cell? ⟨g, 0, none⟩ = some v := by unfold Box1 at h; simp [World.cell?, h]
theorem Box1.lt {w : World} {g : Nat} {T : TypeId} {v : Value} (h : Box1 w g T v) : g < w.heap.size := by
  rcases Nat.lt_or_ge g w.heap.size with h1 | h1
  · exact h1
  · unfold Box1 at h; rw [Array.getElem?_eq_none h1] at h; cases h
theorem Box1.below {w w' : World} {g : Nat} {T : TypeId} {v : Value} (h : Box1 w g T v) (hb : Below w.heap.size w w') : Box1 w' g T v := (hb.block g h.lt).trans h
theorem Box1.new (w : World) (T : TypeId) (v : Value) : Box1 (w.alloc (.cells #[v] T)) w.heap.size T v := by
  unfold Box1
  show (w.heap.push _)[w.heap.size]? = _
  simp
theorem clos_any (A : Option Addr) (L : IL) (c k : Nat) (n : Int) (g1 g2 : Nat) (w : World) (hr : Iv w A L) (b1 : Box1 w g1 22 (.slice A L.length c)) (b2 : Box1 w g2 3 (.int .i64 n)) (hk : k < L.length) (hn : L.length ≤ 3000) :
    Calls Try.prog 38 #[.int .i64 k, .pointer (some ⟨g1, 0, none⟩), .pointer (some ⟨g2, 0, none⟩)] w fun e w' => e = .returned (.bool (decide (n < (pairAt L k).2))) ∧ Below w.heap.size w w' := by
  obtain ⟨b, off, rfl, hbl, hcs⟩ := hr.cells (brefl w) hk
  obtain ⟨c0, c1⟩ := hcs k hk
  have d0 := b1.c0
  have d1 := b2.c0
  have q0 : (0 : Int) ≤ (k : Int) := by omega
  have q1 : (k : Int) < (L.length : Int) := by omega
  generalize (pairAt L k).2 = t at *
  generalize (pairAt L k).1 = f at *
  clear hcs hr b1 b2
  go_enter Try.func38, Try.ntmps38
  go_wp2
  go_quiet (fail)
  go_wp2
  go_ret
  exact ⟨rfl, below_drewN (brefl _) _⟩
def SearchEnd (n : Nat) (P : Nat → Bool) (w : World) (e : Ending) (w' : World) : Prop :=
  ∃ r : Nat, r ≤ n ∧ e = .returned (.int .i64 r) ∧ (r = 0 ∨ P (r - 1) = false) ∧ (r = n ∨ P r = true) ∧ Below w.heap.size w w'
set_option maxHeartbeats 1000000 in
theorem search_any (n : Nat) (P : Nat → Bool) (x y : Value) (w : World) (hn : n ≤ 3000)
    (hf : ∀ (k : Nat) W, k < n → Below w.heap.size w W → Calls Try.prog 38 #[.int .i64 k, x, y] W fun e w' => e = .returned (.bool (P k)) ∧ Below W.heap.size W w') :
    Calls Try.prog 37 #[.int .i64 n, .func (Fn.func 38) #[] #[x, y]] w (SearchEnd n P w) := by
  have HF := hide hf
  clear hf
  go_enter Try.func37, Try.ntmps37
  go_wp2
  go_loopw [5, 6] (fun i j wr => ∃ (a b : Nat), i = .int .i64 a ∧ j = .int .i64 b ∧ a ≤ b ∧ b ≤ n ∧ (a = 0 ∨ P (a - 1) = false) ∧ (b = n ∨ P b = true) ∧ Below w.heap.size w wr) (fun i j _ => (intOf j).toNat - (intOf i).toNat)
  case atStart => exact ⟨0, n, rfl, rfl, by omega, by omega, .inl rfl, .inl rfl, brefl _⟩
  case round =>
    obtain ⟨a, b, rfl, rfl, hab, hbn, ha, hb, hbw⟩ := hrel
    have HA := hide ha
    have HB := hide hb
    have HW := hide hbw
    clear ha hb
    by_cases hlt : a < b
    · obtain ⟨k, hk⟩ : ∃ k, k = (a + b) / 2 := ⟨_, rfl⟩
      have hk2 : ((a : Int) + b) / 2 = (k : Int) := by omega
      have hcl := HF.out k wr (by omega) hbw
      have hka : a ≤ k := by omega
      have hkb : k < b := by omega
      obtain ⟨v, hv⟩ : ∃ v, v = P k := ⟨_, rfl⟩
      rw [← hv, ← hk2] at hcl
      have HC := hide hcl
      have HV := hide (And.intro hv (And.intro hk2 (And.intro hka hkb)))
      clear hcl hbw hk hk2 hv hka hkb
      cases v
      · go_wp2_with fail
        refine HC.out.mono ?_
        rintro e w2 ⟨rfl, hb2⟩
        have HB2 := hide (btrans HW.out hb2)
        clear hb2
        go_wp2
        go_roundw
        case rel => exact ⟨k + 1, b, by rw [HV.out.2.1]; go_num, rfl, by have := HV.out; omega, hbn, .inr (by rw [Nat.add_sub_cancel]; exact HV.out.1.symm), HB.out, HB2.out⟩
        case measure => have := HV.out; simp [intOf]; omega
      · go_wp2_with fail
        refine HC.out.mono ?_
        rintro e w2 ⟨rfl, hb2⟩
        have HB2 := hide (btrans HW.out hb2)
        clear hb2
        go_wp2
        go_roundw
        case rel => exact ⟨a, k, rfl, by rw [HV.out.2.1], by have := HV.out; omega, by have := HV.out; omega, HA.out, .inr HV.out.1.symm, HB2.out⟩
        case measure => have := HV.out; simp [intOf]; omega
    · obtain rfl : a = b := by omega
      go_wp2
      go_ret
      exact ⟨a, hbn, rfl, HA.out, HB.out, HW.out⟩
end Go.Proofs.Ytdpdlbonlpdkjab.Iv
