import Derived.Test.YtcndbehgklkiiaaTL2
namespace Go.Proofs.Ytcndbehgklkiiaa.Ac
open Go Go.RowKit
set_option linter.unusedVariables false
set_option linter.unusedSimpArgs false
theorem us_root {L : List A5} (V : Vd L) : ∀ k : Nat, k < L.length → us L k ≤ us L 0 := by
  intro k
  induction k using Nat.strongRecOn with
  | _ k ih =>
    intro hk
    by_cases h0 : k = 0
    · subst h0; exact Int.le_refl _
    · have hp := V.tr.2 k hk (by omega)
      obtain ⟨p, hp2⟩ : ∃ p : Nat, pa L k = p := ⟨(pa L k).toNat, by omega⟩
      have hs := V.sta p (by omega)
      unfold own at hs
      have hg := kc_ge (L := L) (x := p) (f := us L) L.length (fun i hi _ _ => (V.rg i hi).1.1.1) k hk (by omega) hp2
      have := ih p (by omega) (by omega)
      omega
theorem sh_ok {L : List A5} (V : Vd L) {m : Int} (h0 : 0 ≤ m) (h1 : m ≤ 1048576) {k : Nat} (hk : k < L.length) : shE L m k = 0 ∧ 0 ≤ shV L m k ∧ shV L m k ≤ m := by
  have e := shE_0 (m := m) (a := (k : Int)) (chE_0 V) (by omega) (by omega)
  refine ⟨e, ?_⟩
  have hr := us_root V k hk
  have hu := (V.rg k hk).1.1
  unfold inr at hu
  by_cases ht : us L 0 = 0
  · rw [shV_m e ht]; omega
  · rw [shV_q e ht, Int.toNat_natCast]
    refine ⟨Int.ediv_nonneg (Int.mul_nonneg h0 hu.1) (by omega), ?_⟩
    refine Int.le_trans (Int.ediv_le_ediv (by omega) (Int.mul_le_mul_of_nonneg_left hr h0)) ?_
    rw [Int.mul_ediv_cancel _ ht]
    exact Int.le_refl _
theorem sh_root {L : List A5} (V : Vd L) {m : Int} (h0 : 0 ≤ m) (h1 : m ≤ 1048576) : shV L m 0 = m := by
  have hl := V.len.1
  have e := shE_0 (m := m) (a := (0 : Int)) (chE_0 V) (by omega) (by omega)
  by_cases ht : us L 0 = 0
  · rw [shV_m e ht]
  · rw [shV_q e ht]
    exact Int.mul_ediv_cancel _ ht
/-- the children's shares together are at most their parent's -/
theorem sh_sum {L : List A5} (V : Vd L) {m : Int} (h0 : 0 ≤ m) (h1 : m ≤ 1048576) (ht : us L 0 ≠ 0) {x : Nat} (hx : x < L.length) : kc L x (fun i => shV L m i) L.length ≤ shV L m x := by
  have hl := V.len.1
  have tp : 0 < us L 0 := by have := (V.rg 0 (by omega)).1.1.1; omega
  have e := (sh_ok V h0 h1 hx).1
  rw [shV_q e ht, Int.toNat_natCast]
  refine Int.le_ediv_of_mul_le tp ?_
  have hs := V.sta x hx
  unfold own at hs
  have e1 : kc L x (fun i => shV L m i) L.length * us L 0 = kc L x (fun i => us L 0 * shV L m i) L.length := by rw [kc_mul, Int.mul_comm]
  rw [e1]
  refine Int.le_trans (b := kc L x (fun i => m * us L i) L.length) (kc_mono L.length fun i hi _ _ => ?_) ?_
  · have ei := (sh_ok V h0 h1 hi).1
    rw [shV_q ei ht, Int.toNat_natCast, Int.mul_comm]
    exact Int.ediv_mul_le _ ht
  · rw [kc_mul]
    exact Int.mul_le_mul_of_nonneg_left (by omega) h0
/-- the sums behind k accounts -/
def smF (L : List A5) (m : Int) (k x : Nat) : Int := kc L x (fun i => shV L m i) k
theorem sm_bd {L : List A5} (V : Vd L) {m : Int} (h0 : 0 ≤ m) (h1 : m ≤ 1048576) {k : Nat} (hk : k ≤ L.length) (x : Nat) : 0 ≤ smF L m k x ∧ smF L m k x ≤ 16777216 := by
  have h8 := V.len.2
  have key : ∀ n, n ≤ L.length → 0 ≤ kc L x (fun i => shV L m i) n ∧ kc L x (fun i => shV L m i) n ≤ n * 1048576 := by
    intro n hn
    induction n with
    | zero => exact ⟨Int.le_refl _, Int.le_refl _⟩
    | succ n ih =>
      have ih := ih (by omega)
      have hs := sh_ok V h0 h1 (show n < L.length by omega)
      show 0 ≤ kc L x (fun i => shV L m i) n + (if 0 < n ∧ pa L n = (x : Int) then shV L m n else 0) ∧ kc L x (fun i => shV L m i) n + (if 0 < n ∧ pa L n = (x : Int) then shV L m n else 0) ≤ ((n + 1 : Nat) : Int) * 1048576
      split <;> (push_cast; constructor <;> omega)
  have := key k hk
  unfold smF
  omega
theorem sm_k {L : List A5} {m : Int} {k p : Nat} (h0 : 0 < k) (hp : pa L k = p) (x : Nat) : smF L m (k + 1) x = if x = p then smF L m k p + shV L m k else smF L m k x := by
  show smF L m k x + (if 0 < k ∧ pa L k = (x : Int) then shV L m k else 0) = _
  by_cases e : x = p
  · subst e
    rw [if_pos ⟨h0, hp⟩, if_pos rfl]
  · rw [if_neg (fun g => e (by have := g.2; omega)), if_neg e, Int.add_zero]
theorem sm_0 (L : List A5) (m : Int) (x : Nat) : smF L m 1 x = smF L m 0 x := by
  show (0 : Int) + (if 0 < 0 ∧ pa L 0 = (x : Int) then shV L m 0 else 0) = 0
  rw [if_neg (fun g => Nat.lt_irrefl _ g.1)]; rfl
end Go.Proofs.Ytcndbehgklkiiaa.Ac
