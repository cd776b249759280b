import Derived.Test.YtnegigcjeoenmaaCs1
namespace Go.Proofs.Ytnegigcjeoenmaa.Dv
open Go Go.RowKit
set_option linter.unusedVariables false
set_option maxHeartbeats 1000000 in
theorem pick_any (A : Option Addr) (L : List Bool) (c k : Nat) (w : World) (hr : RdT w A L) (hl : L.length ≤ 9223372036854775807) (hk : k ≤ 2000) :
    Calls Try.prog 54 #[.slice A L.length c, .int .i64 k] w fun e w' => e = .returned (.bool (L.getD k false)) ∧ w = w' := by
  by_cases h : k < L.length
  · obtain ⟨b, off, rfl, hb, c0⟩ := hr.cells (brefl w) h
    have h1 : (k : Int) < (L.length : Int) := by omega
    have h2 : ¬ (L.length : Int) ≤ (k : Int) := by omega
    have h0 : (0 : Int) ≤ (k : Int) := by omega
    go_enter Try.func54, Try.ntmps54
    go_wp2
    go_ret
    exact ⟨rfl, rfl⟩
  · have e : L.getD k false = false := by rw [List.getD_eq_getElem?_getD, List.getElem?_eq_none (by omega)]; rfl
    have h1 : ¬ (k : Int) < (L.length : Int) := by omega
    have h2 : (L.length : Int) ≤ (k : Int) := by omega
    rw [e]
    go_enter Try.func54, Try.ntmps54
    go_wp2
    go_ret
    exact ⟨rfl, rfl⟩
end Go.Proofs.Ytnegigcjeoenmaa.Dv
