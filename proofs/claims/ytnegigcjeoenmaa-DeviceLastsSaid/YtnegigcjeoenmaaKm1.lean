import Derived.Test.YtnegigcjeoenmaaPl1
import Derived.Test.YtnegigcjeoenmaaRc1
namespace Go.Proofs.Ytnegigcjeoenmaa.Dv
open Go Go.RowKit
set_option linter.unusedVariables false
theorem crK_P {ps : List Bool} {C : List Ca} {L : List By} {P : By → Prop} (hL : ∀ b ∈ L, P b) (hC : ∀ c ∈ C, P c.2) : ∀ k, k ≤ C.length → ∀ b ∈ crK ps C L k, P b
  | 0, _ => hL
  | k + 1, hk => by
    unfold crK
    intro b hb
    by_cases h : ps.getD k false = true
    · rw [if_pos h] at hb
      rcases List.mem_or_eq_of_mem_set hb with h | h
      · exact crK_P hL hC k (by omega) b h
      · rw [h]; exact hC _ (cAt_mem (by omega))
    · rw [if_neg h] at hb
      exact crK_P hL hC k (by omega) b hb
/-- what a loss of power may lose of a valid device -/
theorem los_in {D : Dev} (v : Vd D) : ∀ c ∈ losK D.ca D.qu D.qu.length, (0 ≤ c.1 ∧ c.1 < D.bl.length) ∧ c.2.length = 32 := by
  intro c hc
  unfold losK at hc
  rcases List.mem_append.1 hc with hc | hc
  · exact ⟨v.ck c hc, v.cb c hc⟩
  · obtain ⟨q, hq, rfl⟩ := List.mem_map.1 hc
    obtain ⟨h1, h2⟩ := List.mem_filter.1 hq
    have hr := v.qr q (List.mem_of_mem_take h1)
    have e : q.2.1 = 2 := by simpa using h2
    rw [e] at hr
    exact ⟨req_b hr, req_32 hr⟩
theorem vd_cr {D : Dev} {ps : List Bool} (v : Vd D) : Vd (crD D ps) := by
  have hl : (crK ps (losK D.ca D.qu D.qu.length) D.bl (losK D.ca D.qu D.qu.length).length).length = D.bl.length := crK_len _ _ _ _
  refine ⟨v.n0, v.n1, v.d0, v.d1, ?_, ?_, ?_, fun c hc => (by cases hc), List.Pairwise.nil, fun c hc => (by cases hc), ?_, fun q hq => (by cases hq), fun q hq => (by cases hq), List.Pairwise.nil⟩
  · show 1 ≤ (crK _ _ _ _).length; rw [hl]; exact v.b0
  · show (crK _ _ _ _).length ≤ 256; rw [hl]; exact v.b1
  · exact crK_P (P := fun b => b.length = 32) v.bb (fun c hc => (los_in v c hc).2) _ (Nat.le_refl _)
  · show ((([] : List Rq).length : Nat) : Int) ≤ D.dep
    have := v.d0
    simp only [List.length_nil]; omega
theorem cr_far {ps : List Bool} {C : List Ca} {L : List By} {i : Nat} : ∀ k, (∀ j, j < k → ps.getD j false = true → (cAt C j).1.toNat ≠ i) → bAt (crK ps C L k) i = bAt L i
  | 0, _ => rfl
  | k + 1, h => by
    have ih := cr_far (ps := ps) (C := C) (L := L) (i := i) k (fun j hj => h j (by omega))
    unfold crK
    by_cases hp : ps.getD k false = true
    · rw [if_pos hp, ← ih]
      unfold bAt
      rw [List.getD_eq_getElem?_getD, List.getD_eq_getElem?_getD, List.getElem?_set_ne (h k (by omega) hp)]
    · rw [if_neg hp]; exact ih
theorem cr_near {ps : List Bool} {C : List Ca} {L : List By} {i p : Nat} (hi : i < L.length) (hp : (cAt C p).1.toNat = i) (hps : ps.getD p false = true) : ∀ k, p < k → (∀ j, p < j → j < k → (cAt C j).1.toNat ≠ i) → bAt (crK ps C L k) i = (cAt C p).2
  | 0, h, _ => by omega
  | k + 1, hk, h => by
    unfold crK
    by_cases e : p = k
    · subst e
      rw [if_pos hps, hp]
      unfold bAt
      rw [List.getD_eq_getElem?_getD, List.getElem?_set_self (by rw [crK_len]; exact hi)]; rfl
    · have ih := cr_near (L := L) hi hp hps k (by omega) (fun j h1 h2 => h j h1 (by omega))
      by_cases hp2 : ps.getD k false = true
      · rw [if_pos hp2, ← ih]
        unfold bAt
        rw [List.getD_eq_getElem?_getD, List.getD_eq_getElem?_getD, List.getElem?_set_ne (h k (by omega) (by omega))]
      · rw [if_neg hp2]; exact ih
theorem keys_many {D : Dev} (v : Vd D) : D.ca.length ≤ D.bl.length := by
  have ha := pw_asc.1 v.ca
  have low : ∀ t, t < D.ca.length → (t : Int) ≤ (cAt D.ca t).1 := by
    intro t
    induction t with
    | zero => intro ht; have := (v.ck _ (cAt_mem ht)).1; omega
    | succ t ih =>
      intro ht
      have h1 := ih (by omega)
      have h2 := ha t (t + 1) (by omega) ht
      omega
  rcases Nat.eq_zero_or_pos D.ca.length with e | e
  · omega
  · have h1 := low (D.ca.length - 1) (by omega)
    have h2 := (v.ck _ (cAt_mem (L := D.ca) (k := D.ca.length - 1) (by omega))).2
    omega
/-- is a write to block i in the first k requests? -/
def ow (Q : List Rq) (k : Nat) (i : Int) : Bool := (Q.take k).any fun q => q.2.1 == 2 && q.2.2.1 == i
theorem ow_snoc {Q : List Rq} {k : Nat} (hk : k < Q.length) (i : Int) : ow Q (k + 1) i = (ow Q k i || ((qAt Q k).2.1 == 2 && (qAt Q k).2.2.1 == i)) := by
  unfold ow
  rw [qAt_snoc hk, List.any_append]; simp
theorem ow_no {Q : List Rq} {i : Int} (h : ow Q Q.length i = false) : ∀ q ∈ Q, q.2.1 = 2 → q.2.2.1 ≠ i := by
  intro q hq h2 e
  unfold ow at h
  rw [List.take_length] at h
  have := List.any_eq_false.1 h q hq
  rw [h2, e] at this
  exact this (by simp)
theorem los_at_hi {D : Dev} {j : Nat} (h1 : D.ca.length ≤ j) (h2 : j < (losK D.ca D.qu D.qu.length).length) : ∃ q ∈ D.qu, q.2.1 = 2 ∧ cAt (losK D.ca D.qu D.qu.length) j = (q.2.2.1, q.2.2.2) := by
  have hm := cAt_mem h2
  rw [cAt_get h2]
  have : (losK D.ca D.qu D.qu.length)[j] ∈ ((D.qu.take D.qu.length).filter fun q => q.2.1 == 2).map fun q => (q.2.2.1, q.2.2.2) := by
    unfold losK at h2 ⊢
    rw [List.getElem_append_right h1]
    exact List.getElem_mem _
  obtain ⟨q, hq, e⟩ := List.mem_map.1 this
  obtain ⟨h3, h4⟩ := List.mem_filter.1 hq
  exact ⟨q, List.mem_of_mem_take h3, by simpa using h4, e.symm⟩
theorem inB4 {n i : Nat} (h : i < n) : inB n (i : Int) = true := by unfold inB; exact decide_eq_true ⟨by omega, by omega⟩
/-- a loss of power that keeps everything -/
theorem du_all {D : Dev} {i m : Nat} (v : Vd D) (hi : i < D.bl.length) (hm : (losK D.ca D.qu D.qu.length).length ≤ m) (ho : ow D.qu D.qu.length (i : Int) = false) : duD (crD D (List.replicate m true)) (i : Int) = ctD D (i : Int) := by
  have hl : (crD D (List.replicate m true)).bl.length = D.bl.length := crK_len _ _ _ _
  have hno := ow_no ho
  have ha := pw_asc.1 v.ca
  have hps : ∀ j, j < (losK D.ca D.qu D.qu.length).length → (List.replicate m true).getD j false = true := fun j hj => by
    rw [List.getD_eq_getElem?_getD, List.getElem?_replicate, if_pos (by omega)]; rfl
  have hhi : ∀ j, D.ca.length ≤ j → j < (losK D.ca D.qu D.qu.length).length → (cAt (losK D.ca D.qu D.qu.length) j).1.toNat ≠ i := fun j h1 h2 e => by
    obtain ⟨q, hq, h2', e'⟩ := los_at_hi h1 h2
    have hb := req_b (v.qr q hq)
    rw [e'] at e
    exact hno q hq h2' (by simp only at e; omega)
  have hlo : ∀ j, j < D.ca.length → cAt (losK D.ca D.qu D.qu.length) j = cAt D.ca j := fun j hj => los_at1 hj
  unfold duD ctD
  rw [chk_of (vd_cr v), hl, chk_of v, inB4 hi, if_pos ⟨rfl, rfl⟩, if_pos ⟨rfl, rfl⟩, Int.toNat_natCast]
  show bAt (crK _ _ D.bl _) i = _
  unfold contD
  by_cases hh : hitP D.ca (i : Int) = true
  · rw [if_pos hh]
    have hp := hitP_lt hh
    have hc : (cAt D.ca (caP D.ca i)).1 = i := by unfold hitP at hh; exact (of_decide_eq_true hh).2
    have hll : D.ca.length ≤ (losK D.ca D.qu D.qu.length).length := by unfold losK; rw [List.length_append]; omega
    rw [cr_near (p := caP D.ca i) hi (by rw [hlo _ hp, hc]; simp) (hps _ (by omega)) _ (by omega) (fun j h1 h2 => ?_), hlo _ hp]
    by_cases h3 : j < D.ca.length
    · rw [hlo j h3]
      have := ha _ j h1 h3
      omega
    · exact hhi j (by omega) h2
  · rw [if_neg hh, Int.toNat_natCast]
    refine cr_far _ fun j h2 _ => ?_
    by_cases h3 : j < D.ca.length
    · rw [hlo j h3]
      intro e
      have hb := v.ck _ (cAt_mem h3)
      exact hh (hit_at ha h3 (by omega)).2
    · exact hhi j (by omega) h2
/-- a loss of power that keeps nothing -/
theorem du_none {D : Dev} {i : Nat} (v : Vd D) (hi : i < D.bl.length) : duD (crD D []) (i : Int) = duD D (i : Int) := by
  have hl : (crD D []).bl.length = D.bl.length := crK_len _ _ _ _
  unfold duD
  rw [chk_of (vd_cr v), hl, chk_of v, inB4 hi, if_pos ⟨rfl, rfl⟩, if_pos ⟨rfl, rfl⟩, Int.toNat_natCast]
  exact cr_far _ fun j _ h => absurd h (by simp)
theorem ch_cr {D : Dev} {ps : List Bool} (v : Vd D) : chD (crD D ps) = 0 := by
  unfold chD
  rw [if_pos (chk_of (vd_cr v))]; rfl
theorem los_40 {D : Dev} (h : P4 D 40) : (losK D.ca D.qu D.qu.length).length ≤ 40 := by
  have h1 := losK_len D.ca D.qu D.qu.length
  have h2 := keys_many h.vd
  have h3 := h.bl
  have h4 := h.vd.ql
  have h5 := h.dep
  omega
theorem big_crD {D : Dev} {ps : List Bool} (v : Vd D) : Big (crD D ps) := by
  have S := sm_ok (chk_of (vd_cr (ps := ps) v))
  exact ⟨by have := S.bl; omega, by have := S.ca; omega, by have := S.qu; omega, fun b hb => by have := S.bb b hb; omega, fun b hb => by have := S.cb b hb; omega, fun b hb => by have := S.qb b hb; omega⟩
end Go.Proofs.Ytnegigcjeoenmaa.Dv
