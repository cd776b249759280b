import Derived.Test.YtcndbehgklkiiaaTL2
namespace Go.Proofs.Ytcndbehgklkiiaa.Ac
open Go Go.RowKit
set_option linter.unusedVariables false
set_option linter.unusedSimpArgs false
theorem frs_set : ∀ (L : List F4) (k j : Nat) (u : Value) (f : F4), k < L.length → j < 16 → (frC (fA L k)).set j u = frC f → (frs L).set (k * 16 + j) u = frs (L.set k f)
  | a :: l, 0, j, u, f, _, hj, h => by
    rw [Nat.zero_mul, Nat.zero_add, frs, List.set_append_left _ _ (by show j < 16; exact hj)]
    have e : fA (a :: l) 0 = a := rfl
    rw [e] at h
    rw [h]
    rfl
  | a :: l, k + 1, j, u, f, hk, hj, h => by
    have e : fA (a :: l) (k + 1) = fA l k := rfl
    rw [e] at h
    rw [frs, List.set_append_right _ _ (by show 16 ≤ _; omega), show (k + 1) * 16 + j - (frC a).length = k * 16 + j by show _ - 16 = _; omega, frs_set l k j u f (by simpa using hk) hj h]
    rfl
/-- frame k with another dirty -/
def stD (L : List F4) (k : Nat) (x : Bool) : List F4 := L.set k ⟨(fA L k).k, (fA L k).p, x, (fA L k).s⟩
def stP (L : List F4) (k : Nat) (x : Int) : List F4 := L.set k ⟨(fA L k).k, x, (fA L k).d, (fA L k).s⟩
def stK (L : List F4) (k : Nat) (x : Int) : List F4 := L.set k ⟨x, (fA L k).p, (fA L k).d, (fA L k).s⟩
theorem frs_D {L : List F4} {k : Nat} (h : k < L.length) (x : Bool) : (frs L).set (k * 16 + 10) (.bool x) = frs (stD L k x) := frs_set L k 10 _ _ h (by omega) rfl
theorem frs_P {L : List F4} {k : Nat} (h : k < L.length) (x : Int) : (frs L).set (k * 16 + 1) (.int .i64 x) = frs (stP L k x) := frs_set L k 1 _ _ h (by omega) rfl
theorem frs_K {L : List F4} {k : Nat} (h : k < L.length) (x : Int) : (frs L).set (k * 16) (.int .i64 x) = frs (stK L k x) := frs_set L k 0 _ _ h (by omega) rfl
theorem fA_set {L : List F4} {k i : Nat} {f : F4} (h : k < L.length) : fA (L.set k f) i = if i = k then f else fA L i := by
  unfold fA
  rw [List.getD_eq_getElem?_getD, List.getD_eq_getElem?_getD, List.getElem?_set]
  by_cases e : i = k
  · subst e; rw [if_pos rfl, if_pos rfl, if_pos h]; rfl
  · rw [if_neg (fun g => e g.symm), if_neg e]
/-- how many can be cleaned -/
def cR (L : List F4) : Nat := L.countP rdy
theorem cR_snoc (L : List F4) (f : F4) : cR (L ++ [f]) = cR L + (if rdy f then 1 else 0) := by
  unfold cR
  rw [List.countP_append]
  simp [List.countP_cons]
theorem cR_le (L : List F4) : cR L ≤ L.length := List.countP_le_length
theorem cR_pos {L : List F4} (h : 0 < cR L) : ∃ i, i < L.length ∧ rdy (fA L i) = true := by
  unfold cR at h
  obtain ⟨f, hf, hr⟩ := List.countP_pos_iff.1 h
  obtain ⟨i, hi, e⟩ := List.mem_iff_getElem.1 hf
  exact ⟨i, hi, by rw [fA_get hi, e]; exact hr⟩
theorem cR_zero {L : List F4} (h : cR L = 0) : ∀ i, i < L.length → rdy (fA L i) = false := fun i hi => by
  have := List.countP_eq_zero.1 h (fA L i) (by rw [fA_get hi]; exact List.getElem_mem hi)
  simpa using this
theorem countP_set {p : F4 → Bool} : ∀ (L : List F4) (k : Nat) (f : F4), k < L.length → p (fA L k) = true → p f = false → (L.set k f).countP p + 1 = L.countP p
  | a :: l, 0, f, _, h1, h2 => by
    have e : fA (a :: l) 0 = a := rfl
    rw [e] at h1
    simp [List.countP_cons, h1, h2]
  | a :: l, k + 1, f, hk, h1, h2 => by
    have e : fA (a :: l) (k + 1) = fA l k := rfl
    rw [e] at h1
    have ih := countP_set l k f (by simpa using hk) h1 h2
    simp only [List.set_cons_succ, List.countP_cons]
    omega
theorem rdy_clean (f : F4) : rdy ⟨f.k, f.p, false, f.s⟩ = false := by
  unfold rdy; simp
theorem cR_clean {L : List F4} {k : Nat} (hk : k < L.length) (h : rdy (fA L k) = true) : cR (stD L k false) + 1 = cR L := countP_set L k _ hk h (rdy_clean _)
/-- what the loop of Order keeps: the last one cleaned is no later than all that can be cleaned -/
def Las (L : List F4) (q : Int) : Prop := q = -1 ∨ (0 ≤ q ∧ q < L.length ∧ ∀ i, i < L.length → rdy (fA L i) = true → (fA L q.toNat).s ≤ (fA L i).s)
theorem stD_len (L : List F4) (k : Nat) (x : Bool) : (stD L k x).length = L.length := by unfold stD; simp
theorem stD_s {L : List F4} {k i : Nat} (hk : k < L.length) (x : Bool) : (fA (stD L k x) i).s = (fA L i).s := by
  unfold stD
  rw [fA_set hk]
  split
  · rename_i e; rw [e]
  · rfl
theorem stD_rdy {L : List F4} {k i : Nat} (hk : k < L.length) (h : rdy (fA (stD L k false) i) = true) : rdy (fA L i) = true := by
  unfold stD at h
  rw [fA_set hk] at h
  split at h
  · rw [rdy_clean] at h; cases h
  · exact h
theorem ol_pos {L : List F4} (h : 0 < cR L) : 0 ≤ ol L L.length ∧ rdy (fA L (ol L L.length).toNat) = true := by
  obtain ⟨i, hi, hr⟩ := cR_pos h
  obtain ⟨h1, h2⟩ := ol_spec L L.length
  have := (h2 i hi hr).1
  exact h1.resolve_left (by omega)
theorem ol_none {L : List F4} (h : cR L = 0) : ol L L.length = -1 := by
  obtain ⟨h1, h2⟩ := ol_spec L L.length
  rcases h1 with h1 | ⟨h1, h3⟩
  · exact h1
  · have hb := ol_lt L L.length
    have := cR_zero h (ol L L.length).toNat (by omega)
    rw [h3] at this; cases this
theorem Las.next {L : List F4} (h : 0 < cR L) : Las (stD L (ol L L.length).toNat false) (ol L L.length) := by
  obtain ⟨h1, h2⟩ := ol_pos h
  have hb := ol_lt L L.length
  have hk : (ol L L.length).toNat < L.length := by omega
  refine .inr ⟨h1, by rw [stD_len]; exact hb.2, fun i hi hr => ?_⟩
  rw [stD_s hk, stD_s hk]
  rw [stD_len] at hi
  have := (ol_spec L L.length).2 i hi (stD_rdy hk hr)
  omega
end Go.Proofs.Ytcndbehgklkiiaa.Ac
