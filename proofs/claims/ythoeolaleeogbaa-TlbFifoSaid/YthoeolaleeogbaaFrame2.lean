import Derived.Test.YthoeolaleeogbaaFrame
import Derived.Test.YthoeolaleeogbaaLFifo
namespace Go.Proofs.Ythoeolaleeogbaa.Tb
open Go.ChangeShapes Go.WideShapes Go.ChangeAt Go.RowKit Go.Joins Go.Deep
set_option linter.unusedVariables false
section
variable {H : Type} {enc : TypeId × Value → H} {W : World} {base b0 : Nat} {v : Value} {d : DataW H} {p : List MemPlace}
theorem cells50 : Try.prog.cellsOf 50 = 1 := by kernel_rfl
/-- NUMBERS OF TWO BYTES THAT CAME IN, opened. -/
theorem open_pgs (hv : Value.okWide Try.prog W .any base 48 v) (h : DataW.Trod enc Try.prog W b0 (fun _ => true) true 48 v d p) :
    ∃ (A : Option Addr) (c : Nat) (Q : List Int), v = .slice A Q.length c ∧ Pgs16 W A Q ∧ in16 Q ∧ Q.length ≤ 9223372036854775807 := by
  obtain ⟨a0, len0, cap0, rfl⟩ := okWide_slice Try.underlying48 hv
  obtain ⟨fuel, hf⟩ := h
  rcases open_ints Try.underlying48 Try.underlying50 cells50 hf with ⟨hcs, _⟩ | ⟨a, len, cap, zs, hcs, _, hl, hm, hz, _, hc, hw⟩
  · simp [Value.cells] at hcs
    obtain ⟨rfl, rfl, rfl⟩ := hcs
    exact ⟨none, 0, [], rfl, fun h => absurd rfl h, (fun o ho => by simp at ho), by simp⟩
  · simp [Value.cells] at hcs
    obtain ⟨rfl, rfl, rfl⟩ := hcs
    simp only [if_true] at hz
    have hlen : (zs.take len0).length = len0 := by rw [List.length_take]; omega
    refine ⟨some a, _, zs.take len0, by rw [hlen], fun hne => ?_, fun x hx => ?_, by rw [hlen]; unfold maxLen at hm; omega⟩
    · have hp : 0 < len0 := by
        rcases Nat.eq_zero_or_pos len0 with e | e
        · exfalso; apply hne; rw [e]; rfl
        · exact e
      have g := hc 0 (by omega)
      obtain ⟨b, off, rfl, hb⟩ := addr_plain g
      refine ⟨b, off, rfl, hb, fun k hk => ?_⟩
      rw [hlen] at hk
      have := hc k (by omega)
      rw [add_at] at this
      rw [this, List.getD_eq_getElem?_getD, List.getD_eq_getElem?_getD, List.getElem?_take_of_lt hk]
    · have := bounds_u16 (hw x (List.mem_of_mem_take hx))
      omega
end
end Go.Proofs.Ythoeolaleeogbaa.Tb
