import Derived.Test.YtioffnpnoohbiaaFrame
namespace Go.Proofs.Ytioffnpnoohbiaa.Rm
open Go.ChangeShapes Go.WideShapes Go.ChangeAt Go.RowKit Go.Joins Go.Deep
set_option linter.unusedVariables false
set_option maxRecDepth 100000
section
variable {H : Type} {enc : TypeId × Value → H} {W : World} {base b0 : Nat} {v : Value} {d : DataW H} {p : List MemPlace}
theorem open_ops2 (hv : Value.okWide Try.prog W .any base 23 v) (h : DataW.Trod enc Try.prog W b0 (fun _ => true) true 23 v d p) :
    ∃ (A : Option Addr) (c : Nat) (L : List (Bool × Mp)), v = .slice A L.length c ∧ OpR W A L ∧ L.length ≤ 9223372036854775807 ∧ L.length ≤ c := by
  obtain ⟨a0, len0, cap0, rfl⟩ := okWide_slice Try.underlying23 hv
  obtain ⟨fuel, hf⟩ := h
  rcases open_slice Try.underlying23 hf with ⟨hcs, _⟩ | ⟨a, len, cap, m, n', D, Pl, hcs, _, hl, hm, hmm, _, hi⟩
  · simp [Value.cells] at hcs
    obtain ⟨rfl, rfl, rfl⟩ := hcs
    exact ⟨none, 0, [], rfl, fun h => absurd rfl h, by simp, by simp⟩
  · simp only [if_true] at hmm
    subst hmm
    simp [Value.cells] at hcs
    obtain ⟨rfl, rfl, rfl⟩ := hcs
    have each : ∀ i, i < len0 → ∃ q : Bool × Mp, (∀ j, j < 3 → W.cell? (a.add (i * 3 + j)) = (oC q)[j]?) := by
      intro i hil
      obtain ⟨cs', hc, ht⟩ := hi i (by omega)
      rw [cells28] at hc
      obtain ⟨_, hcl, hcell⟩ := World.cells?_some hc
      obtain ⟨q, rfl⟩ := op_in hcl ht
      refine ⟨q, fun j hj => ?_⟩
      have c0 := hcell j (by omega)
      rwa [Go.Deep.add_add] at c0
    obtain ⟨q, hq⟩ := choose_lt each
    have hlen : ((List.range len0).map q).length = len0 := by simp
    have hat : ∀ k, k < len0 → oAt ((List.range len0).map q) k = q k := fun k hk => by unfold oAt; rw [List.getD_eq_getElem?_getD, List.getElem?_map, List.getElem?_range hk]; rfl
    refine ⟨some a, _, (List.range len0).map q, by rw [hlen], fun hne => ?_, by rw [hlen]; unfold maxLen at hm; omega, by rw [hlen]; exact hl⟩
    have hp : 0 < len0 := by
      rcases Nat.eq_zero_or_pos len0 with e | e
      · exfalso; apply hne; rw [e]; rfl
      · exact e
    have g := (hq 0 hp) 0 (by omega)
    rw [Nat.zero_mul] at g
    obtain ⟨b, off, rfl, hb⟩ := addr_plain (v := (oC (q 0)).getD 0 undef) (by rw [g]; rfl)
    refine ⟨b, off, rfl, hb, fun k hk j hj => ?_⟩
    rw [hlen] at hk
    have g0 := (hq k hk) j hj
    rw [add_at] at g0
    rw [hat k hk, Nat.add_assoc]
    exact g0
end
end Go.Proofs.Ytioffnpnoohbiaa.Rm
