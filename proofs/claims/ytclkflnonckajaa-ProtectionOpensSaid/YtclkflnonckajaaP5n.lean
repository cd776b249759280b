import Derived.Test.YtclkflnonckajaaP3d
namespace Go.Proofs.Ytclkflnonckajaa.Ac
open Go Go.RowKit
set_option linter.unusedVariables false
set_option linter.unusedSimpArgs false
section
variable {L : List A5} {v : Is} {s f : Int}
theorem pth_kid (V : Vd L) {c x : Nat} (hc : c < L.length) (hp : pa L c = x) : pth L (c : Int) = (c : Int) :: pth L (x : Int) := by
  rw [pth_cons V.tr V.len.2 hc, hp]
/-- where nobody in the scope of k can give, what is left below an unguarded account is no more than its children's floors -/
theorem rest_le (V : Vd L) (hv : vlv L v) (hov : ∀ x, 0 < x → x < L.length → pr L x ≤ mn L x) {k : Nat} (hk : k < L.length) (hno : ∀ c, c < L.length → opn L v k c = false) :
    ∀ m x : Nat, x < L.length → L.length ≤ x + m → (k : Int) ∈ pth L (x : Int) → gdP L v k false (pth L (x : Int)) = false → us L x - tS L v x ≤ pr L x
  | 0, x, hx, hm, _, _ => absurd hx (by omega)
  | m + 1, x, hx, hm, hkx, hg => by
    have q : chE L = 0 ∧ 0 ≤ (x : Int) ∧ (x : Int) < L.length := ⟨hv.1, by omega, by omega⟩
    have hi : iR L x k = true := by unfold iR; rw [decide_eq_true q, decide_eq_true hkx]; simp
    have hgR : gR L v x k false = false := by rw [gR_ok (low := false) ⟨hv, hi⟩]; exact hg
    have h1 := hno x hx
    unfold opn at h1
    rw [hi, hgR] at h1
    have h2 : decide (own L x > nAt v x) = false := by simpa using h1
    have h3 : ¬ own L x > nAt v x := of_decide_eq_false h2
    have hkle := (pth_mem V.tr V.len.2 (x : Int) (by omega) (by omega) k hkx).2
    have h4 : kc L x (us L) L.length ≤ kc L x (fun c => tS L v c + mn L c) L.length := kc_mono _ fun c hc h0 hp => by
      have hpt := V.tr.2 c hc h0
      have hcx : x < c := by omega
      have e := pth_kid V hc hp
      have hkc : (k : Int) ∈ pth L (c : Int) := by rw [e]; exact List.mem_cons_of_mem _ hkx
      have e2 : gdP L v k false (pth L (c : Int)) = (gu L v false c || gdP L v k false (pth L (x : Int))) := by
        rw [e]
        show (if 0 < (c : Int) ∧ (c : Int) ≠ k then (gu L v false c || gdP L v k false (pth L (x : Int))) else false) = _
        rw [if_pos (by omega)]
      rw [hg, Bool.or_false] at e2
      cases hgu : gu L v false c with
      | true =>
        have h5 : us L c - tS L v c ≤ mn L c := of_decide_eq_true hgu
        show us L c ≤ tS L v c + mn L c
        omega
      | false =>
        have h5 := rest_le V hv hov hk hno m c hc (by omega) hkc (e2.trans hgu)
        have h6 := hov c h0 hc
        show us L c ≤ tS L v c + mn L c
        omega
    rw [kc_add (f := tS L v) (g := mn L)] at h4
    have h7 := tS_rec (v := v) V hx
    unfold own at h3
    unfold pr
    omega
theorem gdP_self (V : Vd L) {k : Nat} (hk : k < L.length) : gdP L v k false (pth L (k : Int)) = false := by
  rw [pth_cons V.tr V.len.2 hk]
  show (if 0 < (k : Int) ∧ (k : Int) ≠ k then _ else false) = false
  rw [if_neg (fun h => h.2 rfl)]
theorem open_is_there (V : Vd L) (hv : vlv L v) (hoc : ocE L f = 0) (hox : ocX L f = -1) {k : Nat} (hk : k < L.length) (hr : ¬ us L k - tS L v k ≤ if k = 0 then f else mn L k) :
    ∃ j : Nat, opR L v k = (j : Nat) ∧ j < L.length ∧ iR L j k = true ∧ nAt v j < own L j ∧ gR L v j k false = false := by
  have hall : ∀ i, i < L.length → ov L f i = false := by
    unfold ocX at hox
    rw [if_pos hoc] at hox
    rcases fst_or (ov L f) L.length 0 with ⟨_, h⟩ | ⟨j, h, _⟩
    · exact fun i hi => h i (by omega) (by omega)
    · rw [h] at hox; omega
  have hov : ∀ x, x < L.length → pr L x ≤ if x = 0 then f else mn L x := fun x hx => by
    have h := hall x hx
    unfold ov at h
    have := of_decide_eq_false h
    omega
  unfold opR
  rw [if_pos hv]
  rcases fst_or (opn L v k) L.length 0 with ⟨_, h⟩ | ⟨j, h, _, hj, ho⟩
  · exfalso
    have h1 := rest_le V hv (fun x h0 hx => by have := hov x hx; rwa [if_neg (by omega)] at this) hk (fun c hc => h c (by omega) (by omega)) L.length k hk (by omega)
      (by rw [pth_cons V.tr V.len.2 hk]; exact List.mem_cons_self ..) (gdP_self V hk)
    have h2 := hov k hk
    omega
  · refine ⟨j, h, by omega, ?_⟩
    unfold opn at ho
    simp only [Bool.and_eq_true, Bool.not_eq_true', decide_eq_true_eq] at ho
    exact ⟨ho.1, ho.2.1, ho.2.2⟩
end
end Go.Proofs.Ytclkflnonckajaa.Ac
