import Derived.Test.YtncjicggolmofaaL5
import Derived.Test.YtncjicggolmofaaFrame
namespace Go.Proofs.Ytncjicggolmofaa.Sb
open Go.ChangeShapes Go.WideShapes Go.ChangeAt Go.RowKit Go.Joins Go.Deep
set_option linter.unusedVariables false
section
variable {H : Type} {enc : TypeId × Value → H} {W : World} {base b0 : Nat} {v : Value} {d : DataW H} {p : List MemPlace}
theorem bi_in {n : Nat} {cs : List Value} {x : DataW H × List MemPlace} (h : DataW.trod enc Try.prog W b0 (fun _ => true) true n 35 cs = some x) :
    ∃ (u : Value) (l : Is), cs = [u] ∧ IsI W u l ∧ l.length ≤ 9223372036854775807 := by
  rcases open_ints Try.underlying35 Try.underlying3 cells3 h with ⟨hcs, _⟩ | ⟨a, len, cap, zs, hcs, _, hl, hm, hz, _, hc, hw⟩
  · exact ⟨_, [], hcs, ⟨none, 0, rfl, Nat.le_refl _, fun h => absurd rfl h⟩, by simp⟩
  · simp only [if_true] at hz
    have hlen : (zs.take len).length = len := by rw [List.length_take]; omega
    refine ⟨_, zs.take len, hcs, ⟨some a, cap, by rw [hlen], by rw [hlen]; exact hl, fun hne => ?_⟩, by rw [hlen]; unfold maxLen at hm; omega⟩
    have hp : 0 < len := by
      rcases Nat.eq_zero_or_pos len with e | e
      · exfalso; apply hne; rw [e]; rfl
      · exact e
    have g := hc 0 (by omega)
    obtain ⟨b, off, rfl, hb⟩ := addr_plain g
    refine ⟨b, off, rfl, hb, fun k hk => ?_⟩
    rw [hlen] at hk
    have := hc k (by omega)
    rw [add_at] at this
    rw [this, List.getD_eq_getElem?_getD, List.getD_eq_getElem?_getD, List.getElem?_take_of_lt hk]
theorem cells35 : Try.prog.cellsOf 35 = 1 := by kernel_rfl
set_option maxRecDepth 100000 in
theorem open_is (hv : Value.okWide Try.prog W .any base 35 v) (h : DataW.Trod enc Try.prog W b0 (fun _ => true) true 35 v d p) :
    ∃ (A : Option Addr) (c : Nat) (l : Is), v = .slice A l.length c ∧ Bi W A l ∧ l.length ≤ 9223372036854775807 := by
  obtain ⟨a0, len0, cap0, rfl⟩ := okWide_slice Try.underlying35 hv
  obtain ⟨fuel, hf⟩ := h
  obtain ⟨u, l, e, ⟨A, c, e2, _, hb⟩, hl⟩ := bi_in hf
  simp [Value.cells] at e
  subst e
  exact ⟨A, c, l, e2, hb, hl⟩
end
end Go.Proofs.Ytncjicggolmofaa.Sb
