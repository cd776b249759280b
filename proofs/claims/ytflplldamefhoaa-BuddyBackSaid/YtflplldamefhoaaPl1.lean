import Derived.Test.YtflplldamefhoaaPl0
namespace Go.Proofs.Ytflplldamefhoaa.Bd
open Go Go.RowKit
set_option linter.unusedVariables false
theorem frE_held {p : Pm} {L : Fl} {f : Int} {k : Nat} (hp : par p) (V : Vd p L) (hk : k < 5) (hb : blk p k f) (ho : ∀ x, dn k x = f → ¬ InS L x) : frE p L f k = 0 := by
  unfold frE
  rw [if_neg (fun x => x (chk_zero.2 ⟨hp, V⟩)), Int.toNat_natCast, if_neg (fun x => x ⟨by omega, hb⟩), if_pos]
  exact clr_iff.2 (fun z h1 h2 => ho z (dn_eq hk hb.1 h1 h2))
theorem alK_spec (L : Fl) (o : Nat) : alK L o = 5 ∨ (alK L o < 5 ∧ o ≤ alK L o ∧ L (alK L o) ≠ []) := by
  unfold alK
  split
  · rename_i h; exact .inr ⟨by omega, h.1, h.2⟩
  · split
    · rename_i h; exact .inr ⟨by omega, h.1, h.2⟩
    · split
      · rename_i h; exact .inr ⟨by omega, h.1, h.2⟩
      · split
        · rename_i h; exact .inr ⟨by omega, h.1, h.2⟩
        · split
          · rename_i h; exact .inr ⟨by omega, h.1, h.2⟩
          · exact .inl rfl
theorem al_two {p : Pm} {L : Fl} {k : Nat} (hp : par p) (V : Vd p L) (hk : k < 5) : alE p L k = 16 ∨ (alE p L k = 0 ∧ blk p k (alF p L k) ∧ ∀ x, dn k x = alF p L k → InS L x) := by
  have e : alE p L k = if alK L k = 5 then 16 else 0 := by
    unfold alE
    rw [if_neg (fun x => x (chk_zero.2 ⟨hp, V⟩)), if_neg (fun x => x (by omega)), Int.toNat_natCast]
  rcases alK_spec L k with h | ⟨h1, h2, h3⟩
  · rw [e, if_pos h]; exact .inl rfl
  · have e0 : alE p L k = 0 := by rw [e, if_neg (by omega)]
    refine .inr ⟨e0, ?_⟩
    have ef : alF p L k = (L (alK L k)).getD 0 0 := by unfold alF; rw [if_pos e0, Int.toNat_natCast]
    rw [ef]
    have hm : (L (alK L k)).getD 0 0 ∈ L (alK L k) := getD_mem (List.length_pos_iff.2 h3)
    generalize (L (alK L k)).getD 0 0 = f at *
    generalize alK L k = j at *
    have hb := V.toLst.blk j h1 f hm
    have hs : dn j f = f := dn_self hb.1
    constructor
    · obtain ⟨b1, b2, b3⟩ := hb
      refine ⟨?_, b2, ?_⟩
      · rcases cases5 h1 with rfl | rfl | rfl | rfl | rfl <;> rcases cases5 hk with rfl | rfl | rfl | rfl | rfl <;> simp only [bw] at * <;> omega
      · rcases cases5 h1 with rfl | rfl | rfl | rfl | rfl <;> rcases cases5 hk with rfl | rfl | rfl | rfl | rfl <;> simp only [bw] at * <;> omega
    · intro x hx
      refine ⟨j, h1, ?_⟩
      show dn j x ∈ L j
      have := dn_dn h2 h1 x
      rw [hx, hs] at this
      rw [← this]
      exact hm
end Go.Proofs.Ytflplldamefhoaa.Bd
