import Derived.Test.YtncdilkcblakhaaDVl1
import Derived.Test.YtncdilkcblakhaaDCm4
import Derived.Test.YtncdilkcblakhaaDPg1
import Derived.Test.YtncdilkcblakhaaDCt1
import Derived.Test.YtncdilkcblakhaaDRdM
import Derived.Test.YtncdilkcblakhaaDMkM
import Derived.Deep.DeepCutAuto
namespace Go.Proofs.Ytncdilkcblakhaa.Dv
open Go Go.RowKit
set_option linter.unusedVariables false
theorem crK_P {ps : List Bool} {C : List Ca} {L : List By} {P : By → Prop} (hL : ∀ b ∈ L, P b) (hC : ∀ c ∈ C, P c.2) : ∀ k, k ≤ C.length → ∀ b ∈ crK ps C L k, P b
  | 0, _ => hL
  | k + 1, hk => by
    unfold crK
    intro b hb
    by_cases h : ps.getD k false = true
    · rw [if_pos h] at hb
      rcases List.mem_or_eq_of_mem_set hb with h | h
      · exact crK_P hL hC k (by omega) b h
      · rw [h]; exact hC _ (cAt_mem (by omega))
    · rw [if_neg h] at hb
      exact crK_P hL hC k (by omega) b hb
/-- what a loss of power may lose of a valid device -/
theorem los_in {D : Dev} (v : Vd D) : ∀ c ∈ losK D.ca D.qu D.qu.length, (0 ≤ c.1 ∧ c.1 < D.bl.length) ∧ c.2.length = 32 := by
  intro c hc
  unfold losK at hc
  rcases List.mem_append.1 hc with hc | hc
  · exact ⟨v.ck c hc, v.cb c hc⟩
  · obtain ⟨q, hq, rfl⟩ := List.mem_map.1 hc
    obtain ⟨h1, h2⟩ := List.mem_filter.1 hq
    have hr := v.qr q (List.mem_of_mem_take h1)
    have e : q.2.1 = 2 := by simpa using h2
    rw [e] at hr
    exact ⟨req_b hr, req_32 hr⟩
theorem vd_cr {D : Dev} {ps : List Bool} (v : Vd D) : Vd (crD D ps) := by
  have hl : (crK ps (losK D.ca D.qu D.qu.length) D.bl (losK D.ca D.qu D.qu.length).length).length = D.bl.length := crK_len _ _ _ _
  refine ⟨v.n0, v.n1, v.d0, v.d1, ?_, ?_, ?_, fun c hc => (by cases hc), List.Pairwise.nil, fun c hc => (by cases hc), ?_, fun q hq => (by cases hq), fun q hq => (by cases hq), List.Pairwise.nil⟩
  · show 1 ≤ (crK _ _ _ _).length; rw [hl]; exact v.b0
  · show (crK _ _ _ _).length ≤ 256; rw [hl]; exact v.b1
  · exact crK_P (P := fun b => b.length = 32) v.bb (fun c hc => (los_in v c hc).2) _ (Nat.le_refl _)
  · show ((([] : List Rq).length : Nat) : Int) ≤ D.dep
    have := v.d0
    simp only [List.length_nil]; omega
theorem cr_far {ps : List Bool} {C : List Ca} {L : List By} {i : Nat} : ∀ k, (∀ j, j < k → ps.getD j false = true → (cAt C j).1.toNat ≠ i) → bAt (crK ps C L k) i = bAt L i
  | 0, _ => rfl
  | k + 1, h => by
    have ih := cr_far (ps := ps) (C := C) (L := L) (i := i) k (fun j hj => h j (by omega))
    unfold crK
    by_cases hp : ps.getD k false = true
    · rw [if_pos hp, ← ih]
      unfold bAt
      rw [List.getD_eq_getElem?_getD, List.getD_eq_getElem?_getD, List.getElem?_set_ne (h k (by omega) hp)]
    · rw [if_neg hp]; exact ih
theorem cr_near {ps : List Bool} {C : List Ca} {L : List By} {i p : Nat} (hi : i < L.length) (hp : (cAt C p).1.toNat = i) (hps : ps.getD p false = true) : ∀ k, p < k → (∀ j, p < j → j < k → (cAt C j).1.toNat ≠ i) → bAt (crK ps C L k) i = (cAt C p).2
  | 0, h, _ => by omega
  | k + 1, hk, h => by
    unfold crK
    by_cases e : p = k
    · subst e
      rw [if_pos hps, hp]
      unfold bAt
      rw [List.getD_eq_getElem?_getD, List.getElem?_set_self (by rw [crK_len]; exact hi)]; rfl
    · have ih := cr_near (L := L) hi hp hps k (by omega) (fun j h1 h2 => h j h1 (by omega))
      by_cases hp2 : ps.getD k false = true
      · rw [if_pos hp2, ← ih]
        unfold bAt
        rw [List.getD_eq_getElem?_getD, List.getD_eq_getElem?_getD, List.getElem?_set_ne (h k (by omega) (by omega))]
      · rw [if_neg hp2]; exact ih
theorem big_crD {D : Dev} {ps : List Bool} (v : Vd D) : Big (crD D ps) := by
  have S := sm_ok (chk_of (vd_cr (ps := ps) v))
  exact ⟨by have := S.bl; omega, by have := S.ca; omega, by have := S.qu; omega, fun b hb => by have := S.bb b hb; omega, fun b hb => by have := S.cb b hb; omega, fun b hb => by have := S.qb b hb; omega⟩
end Go.Proofs.Ytncdilkcblakhaa.Dv
