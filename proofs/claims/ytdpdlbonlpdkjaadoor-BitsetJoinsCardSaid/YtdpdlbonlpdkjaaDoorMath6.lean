/-
  Plain mathematics on lists of words: aligned runs. No program text.
-/
import Derived.Test.YtdpdlbonlpdkjaaDoorMath5
namespace Go.Proofs.YtdpdlbonlpdkjaaDoor.Bs
set_option linter.unusedVariables false
def runAt (ws : List Nat) (p count : Nat) (on : Bool) : Prop := ∀ i, p ≤ i → i < p + count → bitAt ws i = on
/-- no aligned run begins before st -/
def noRun (ws : List Nat) (S count align : Nat) (on : Bool) (st : Nat) : Prop := ∀ p, p < st → p % align = 0 → p + count ≤ S → ¬ runAt ws p count on
/-- what FindRun answers -/
def RunIs (ws : List Nat) (S count align : Nat) (on : Bool) (r : Int) : Prop :=
  (r = -1 ∧ ∀ p, p % align = 0 → p + count ≤ S → ¬ runAt ws p count on) ∨
  ∃ p : Nat, r = p ∧ p % align = 0 ∧ p + count ≤ S ∧ runAt ws p count on ∧ noRun ws S count align on p
theorem RunIs.one {ws : List Nat} {S count align : Nat} {on : Bool} {r t : Int} (h : RunIs ws S count align on r) (k : RunIs ws S count align on t) : r = t := by
  rcases h with ⟨h1, h2⟩ | ⟨p, h1, h2, h3, h4, h5⟩ <;> rcases k with ⟨k1, k2⟩ | ⟨q, k1, k2, k3, k4, k5⟩
  · omega
  · exact absurd k4 (h2 q k2 k3)
  · exact absurd h4 (k2 p h2 h3)
  · by_cases c1 : p < q
    · exact absurd h4 (k5 p c1 h2 h3)
    · by_cases c2 : q < p
      · exact absurd k4 (h5 q c2 k2 k3)
      · omega
theorem noRun_next {ws : List Nat} {S count align : Nat} {on : Bool} {st last : Nat} (h : noRun ws S count align on st) (h1 : st ≤ last) (h2 : last < st + count) (hb : bitAt ws last = !on) :
    noRun ws S count align on ((last / align + 1) * align) := fun p hp hpa hpS hrun => by
  by_cases c : p < st
  · exact h p c hpa hpS hrun
  · have hdvd : p = align * (p / align) := by
      have := Nat.div_add_mod p align
      omega
    have hlt : p / align < last / align + 1 := by
      rcases Nat.eq_zero_or_pos align with e | e
      · subst e; simp
      · exact (Nat.div_lt_iff_lt_mul e).2 hp
    have hle : align * (p / align) ≤ align * (last / align) := Nat.mul_le_mul_left _ (by omega)
    have hlast : align * (last / align) ≤ last := Nat.mul_div_le last align
    have := hrun last (by omega) (by omega)
    rw [hb] at this
    cases on <;> simp at this
theorem next_mod (last align : Nat) : ((last / align + 1) * align) % align = 0 := Nat.mul_mod_left _ _
theorem next_gt {last align : Nat} (ha : 1 ≤ align) : last < (last / align + 1) * align := by
  have h1 := Nat.lt_div_mul_add (a := last) (b := align) (by omega)
  rw [Nat.add_mul]; omega
theorem next_le {last align : Nat} (ha : 1 ≤ align) (h : last ≤ 4096) (hm : align ≤ 9223372036854775807) : (last / align + 1) * align ≤ 9223372036854775807 := by
  by_cases c : last < align
  · rw [Nat.div_eq_of_lt c]; omega
  · have h1 : last / align * align ≤ last := Nat.div_mul_le_self _ _
    rw [Nat.add_mul]; omega
/-- the bits from st on, below 64 k and e, are on -/
def onTo (ws : List Nat) (st e : Nat) (on : Bool) (k : Nat) : Prop := ∀ i, st ≤ i → i < e → i < 64 * k → bitAt ws i = on
theorem onTo_of_none {ws : List Nat} {st e k : Nat} {on : Bool} (h : noneTo ws e st (!on) k) : onTo ws st e on k := fun i h1 h2 h3 => by
  have := h i h1 h2 h3
  cases on <;> cases hb : bitAt ws i <;> simp_all
theorem bitLen_spec {x : Nat} (h0 : x ≠ 0) (hx : x < 2 ^ 64) : ∃ u, Lib.bitLen x = u + 1 ∧ u < 64 ∧ x.testBit u = true := by
  have key : ∀ f x, x ≠ 0 → x < 2 ^ f → ∃ u, Lib.bitLenAux f x = u + 1 ∧ u < f ∧ x.testBit u = true := by
    intro f
    induction f with
    | zero => intro x h0 hx; simp at hx; omega
    | succ f ih =>
      intro x h0 hx
      simp only [Lib.bitLenAux]
      rw [if_neg h0]
      by_cases h1 : x / 2 = 0
      · refine ⟨0, ?_, by omega, ?_⟩
        · rw [h1]
          cases f <;> simp [Lib.bitLenAux]
        · have : x = 1 := by omega
          subst this; rfl
      · obtain ⟨u, hu, hlt, hb⟩ := ih (x / 2) h1 (by rw [Nat.pow_succ] at hx; omega)
        refine ⟨u + 1, by rw [hu]; omega, by omega, ?_⟩
        rw [Nat.testBit_succ]; exact hb
  exact key 64 x h0 hx
end Go.Proofs.YtdpdlbonlpdkjaaDoor.Bs
