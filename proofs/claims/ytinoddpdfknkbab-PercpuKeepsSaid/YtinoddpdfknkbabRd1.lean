import Derived.Test.YtinoddpdfknkbabRow
import Derived.Shelf.Abstract
namespace Go.Proofs.Ytinoddpdfknkbab.Pc
open Go Go.RowKit
set_option linter.unusedVariables false
def zc (z : Int) : Bool := decide (1 ≤ z ∧ z ≤ 6)
theorem zc_any (z : Int) (w : World) : Calls Try.prog 27 #[.int .i64 z] w fun e w' => e = .returned (.bool (zc z)) ∧ w = w' := by
  unfold zc
  by_cases h1 : 1 ≤ z
  · by_cases h2 : z ≤ 6
    · rw [decide_eq_true (show 1 ≤ z ∧ z ≤ 6 from ⟨h1, h2⟩)]
      go_enter Try.func27, Try.ntmps27
      go_wp2
      go_ret
      exact ⟨rfl, rfl⟩
    · rw [decide_eq_false (show ¬ (1 ≤ z ∧ z ≤ 6) by omega)]
      go_enter Try.func27, Try.ntmps27
      go_wp2
      go_ret
      exact ⟨rfl, rfl⟩
  · rw [decide_eq_false (show ¬ (1 ≤ z ∧ z ≤ 6) by omega)]
    go_enter Try.func27, Try.ntmps27
    go_wp2
    go_ret
    exact ⟨rfl, rfl⟩
theorem fr_any (z : Int) (w : World) : Calls Try.prog 35 #[.int .i64 z] w fun e w' => e = .returned (.bool (fr z)) ∧ w = w' := by
  unfold fr
  by_cases h1 : 0 ≤ z
  · by_cases h2 : z < 256
    · rw [decide_eq_true (show 0 ≤ z ∧ z < 256 from ⟨h1, h2⟩)]
      go_enter Try.func35, Try.ntmps35
      go_wp2
      go_ret
      exact ⟨rfl, rfl⟩
    · rw [decide_eq_false (show ¬ (0 ≤ z ∧ z < 256) by omega)]
      go_enter Try.func35, Try.ntmps35
      go_wp2
      go_ret
      exact ⟨rfl, rfl⟩
  · rw [decide_eq_false (show ¬ (0 ≤ z ∧ z < 256) by omega)]
    go_enter Try.func35, Try.ntmps35
    go_wp2
    go_ret
    exact ⟨rfl, rfl⟩
theorem out_any (z : Int) (w : World) : Calls Try.prog 30 #[.int .i64 z] w fun e w' => e = .returned (.bool (!(fr z))) ∧ w = w' := by
  unfold fr
  by_cases h1 : z < 0
  · rw [decide_eq_false (show ¬ (0 ≤ z ∧ z < 256) by omega)]
    have e1 : decide (z < 0) = true := decide_eq_true h1
    clear h1
    go_enter Try.func30, Try.ntmps30
    go_wp2
    go_ret
    exact ⟨rfl, rfl⟩
  · have e1 : decide (z < 0) = false := decide_eq_false h1
    by_cases h2 : 256 ≤ z
    · rw [decide_eq_false (show ¬ (0 ≤ z ∧ z < 256) by omega)]
      have e2 : decide (256 ≤ z) = true := decide_eq_true h2
      clear h1 h2
      go_enter Try.func30, Try.ntmps30
      go_wp2
      go_ret
      exact ⟨rfl, rfl⟩
    · rw [decide_eq_true (show 0 ≤ z ∧ z < 256 by omega)]
      have e2 : decide (256 ≤ z) = false := decide_eq_false h2
      clear h1 h2
      go_enter Try.func30, Try.ntmps30
      go_wp2
      go_ret
      exact ⟨rfl, rfl⟩
set_option maxHeartbeats 1000000 in
/-- two lists that read alike are the same -/
theorem slist_any (A1 A2 : Option Addr) (c1 c2 : Nat) (l : Is) (w : World) (h1 : Bi w A1 l) (h2 : Bi w A2 l) (hn : l.length ≤ 9223372036854775807) :
    Calls Try.prog 28 #[.slice A1 l.length c1, .slice A2 l.length c2] w fun e w' => e = .returned (.bool true) ∧ Below w.heap.size w w' := by
  have H1 := hide h1
  have H2 := hide h2
  clear h1 h2
  go_enter Try.func28, Try.ntmps28
  go_wp2
  go_loopw [5, 13] (fun _ i wr => ∃ k : Nat, k ≤ l.length ∧ i = .int .i64 k ∧ Hid (Below w.heap.size w wr)) (fun _ i _ => l.length - (intOf i).toNat)
  case atStart => exact ⟨0, Nat.zero_le _, rfl, hide (brefl _)⟩
  case round =>
    obtain ⟨k, hk, rfl, K⟩ := hrel
    by_cases hlt : k < l.length
    · obtain ⟨b1, o1, rfl, hb1, x1⟩ := H1.out.cells K.out hlt
      obtain ⟨b2, o2, rfl, hb2, x2⟩ := H2.out.cells K.out hlt
      generalize l.getD k 0 = z at *
      go_wp2
      go_quiet (fail)
      go_wp2
      go_roundw
      case rel => exact ⟨k + 1, by omega, by go_num, hide (below_drewN K.out _)⟩
      case measure => simp [intOf]; omega
    · go_wp2
      go_ret
      exact ⟨rfl, K.out⟩
set_option maxHeartbeats 1000000 in
/-- slices.Equal of two lists that read alike -/
theorem seq_any (A1 A2 : Option Addr) (c1 c2 : Nat) (l : Is) (w : World) (h1 : Bi w A1 l) (h2 : Bi w A2 l) (hn : l.length ≤ 9223372036854775807) :
    Calls Try.prog 22 #[.slice A1 l.length c1, .slice A2 l.length c2] w fun e w' => e = .returned (.bool true) ∧ Below w.heap.size w w' := by
  have H1 := hide h1
  have H2 := hide h2
  clear h1 h2
  go_enter Try.func22, Try.ntmps22
  go_wp2
  go_loopw [5, 13] (fun _ i wr => ∃ k : Nat, k ≤ l.length ∧ i = .int .i64 k ∧ Hid (Below w.heap.size w wr)) (fun _ i _ => l.length - (intOf i).toNat)
  case atStart => exact ⟨0, Nat.zero_le _, rfl, hide (brefl _)⟩
  case round =>
    obtain ⟨k, hk, rfl, K⟩ := hrel
    by_cases hlt : k < l.length
    · obtain ⟨b1, o1, rfl, hb1, x1⟩ := H1.out.cells K.out hlt
      obtain ⟨b2, o2, rfl, hb2, x2⟩ := H2.out.cells K.out hlt
      generalize l.getD k 0 = z at *
      go_wp2
      go_quiet (fail)
      go_wp2
      go_roundw
      case rel => exact ⟨k + 1, by omega, by go_num, hide (below_drewN K.out _)⟩
      case measure => simp [intOf]; omega
    · go_wp2
      go_ret
      exact ⟨rfl, K.out⟩
end Go.Proofs.Ytinoddpdfknkbab.Pc
