import Derived.Test.YtncjicggolmofaaRow
namespace Go.Proofs.Ytncjicggolmofaa.Sb
open Go Go.RowKit
set_option linter.unusedVariables false
/-- a cache of slabs -/
structure Sc where
  ob : Int
  sl : List Ca
def fr (S : Sc) (k : Nat) : Int := (cAt S.sl k).1
def us (S : Sc) (k : Nat) : By := (cAt S.sl k).2
/-- how many flags are set -/
def cnt (l : By) : Nat := l.count true
/-- the error of a slab behind another -/
def slE (S : Sc) (k : Nat) : Int := if 0 ≤ fr S k ∧ fr S k < 256 then (if 0 < k ∧ fr S k ≤ fr S (k - 1) then 10 else (if ((us S k).length : Int) = S.ob then (if cnt (us S k) = 0 then 6 else 0) else 3)) else 2
/-- the first error of the first k slabs -/
def slF (S : Sc) : Nat → Int
  | 0 => 0
  | k + 1 => if slF S k = 0 then slE S k else slF S k
def chE (S : Sc) : Int := if 1 ≤ S.ob ∧ S.ob ≤ 32 then slF S S.sl.length else 1
theorem slF_stay {S : Sc} {k : Nat} (h : slF S k ≠ 0) : ∀ n, k ≤ n → slF S n = slF S k := by
  intro n hn
  induction n with
  | zero => obtain rfl : k = 0 := by omega
            rfl
  | succ n ih =>
    by_cases e : k = n + 1
    · rw [e]
    · have g := ih (by omega)
      show (if slF S n = 0 then _ else slF S n) = _
      rw [g, if_neg h]
theorem slF_next {S : Sc} {k : Nat} (h : slF S k = 0) : slF S (k + 1) = slE S k := if_pos h
theorem chE_1 {S : Sc} (h : ¬ (1 ≤ S.ob ∧ S.ob ≤ 32)) : chE S = 1 := if_neg h
theorem chE_at {S : Sc} {k : Nat} {e : Int} (hs : 1 ≤ S.ob ∧ S.ob ≤ 32) (hk : k < S.sl.length) (h : slF S k = 0) (he : slE S k = e) (h0 : e ≠ 0) : chE S = e := by
  have g := (slF_next h).trans he
  show (if 1 ≤ S.ob ∧ S.ob ≤ 32 then slF S S.sl.length else (1 : Int)) = e
  rw [if_pos hs, slF_stay (by rw [g]; exact h0) S.sl.length (by omega), g]
theorem chE_0 {S : Sc} (hs : 1 ≤ S.ob ∧ S.ob ≤ 32) (h : slF S S.sl.length = 0) : chE S = 0 := (if_pos hs).trans h
theorem slE_2 {S : Sc} {k : Nat} (h : ¬ (0 ≤ fr S k ∧ fr S k < 256)) : slE S k = 2 := if_neg h
theorem slE_10 {S : Sc} {k : Nat} (h : 0 ≤ fr S k ∧ fr S k < 256) (h2 : 0 < k ∧ fr S k ≤ fr S (k - 1)) : slE S k = 10 := by unfold slE; rw [if_pos h, if_pos h2]
theorem slE_3 {S : Sc} {k : Nat} (h : 0 ≤ fr S k ∧ fr S k < 256) (h2 : ¬ (0 < k ∧ fr S k ≤ fr S (k - 1))) (h3 : ((us S k).length : Int) ≠ S.ob) : slE S k = 3 := by unfold slE; rw [if_pos h, if_neg h2, if_neg h3]
theorem slE_6 {S : Sc} {k : Nat} (h : 0 ≤ fr S k ∧ fr S k < 256) (h2 : ¬ (0 < k ∧ fr S k ≤ fr S (k - 1))) (h3 : ((us S k).length : Int) = S.ob) (h4 : cnt (us S k) = 0) : slE S k = 6 := by unfold slE; rw [if_pos h, if_neg h2, if_pos h3, if_pos h4]
theorem slE_0 {S : Sc} {k : Nat} (h : 0 ≤ fr S k ∧ fr S k < 256) (h2 : ¬ (0 < k ∧ fr S k ≤ fr S (k - 1))) (h3 : ((us S k).length : Int) = S.ob) (h4 : cnt (us S k) ≠ 0) : slE S k = 0 := by unfold slE; rw [if_pos h, if_neg h2, if_pos h3, if_neg h4]
/-- what a valid cache is -/
structure Vd (S : Sc) : Prop where
  ob : 1 ≤ S.ob ∧ S.ob ≤ 32
  fr : ∀ k, k < S.sl.length → 0 ≤ fr S k ∧ fr S k < 256
  up : ∀ k, k + 1 < S.sl.length → Sb.fr S k < Sb.fr S (k + 1)
  ln : ∀ k, k < S.sl.length → ((us S k).length : Int) = S.ob
  us : ∀ k, k < S.sl.length → 0 < cnt (us S k)
theorem slF_ok {S : Sc} : ∀ {n : Nat}, slF S n = 0 → ∀ k, k < n → slE S k = 0
  | 0, _, k, hk => absurd hk (by omega)
  | n + 1, h, k, hk => by
    have e : (if slF S n = 0 then slE S n else slF S n) = 0 := h
    by_cases h0 : slF S n = 0
    · rw [if_pos h0] at e
      by_cases hkn : k = n
      · rw [hkn]; exact e
      · exact slF_ok h0 k (by omega)
    · rw [if_neg h0] at e; exact absurd e h0
theorem slF_of {S : Sc} : ∀ {n : Nat}, (∀ k, k < n → slE S k = 0) → slF S n = 0
  | 0, _ => rfl
  | n + 1, h => by
    have ih := slF_of (n := n) (fun k hk => h k (by omega))
    exact (slF_next ih).trans (h n (Nat.lt_succ_self n))
theorem slE_ok {S : Sc} {k : Nat} (h : slE S k = 0) : (0 ≤ fr S k ∧ fr S k < 256) ∧ ¬ (0 < k ∧ fr S k ≤ fr S (k - 1)) ∧ ((us S k).length : Int) = S.ob ∧ 0 < cnt (us S k) := by
  by_cases h1 : 0 ≤ fr S k ∧ fr S k < 256
  · by_cases h2 : 0 < k ∧ fr S k ≤ fr S (k - 1)
    · rw [slE_10 h1 h2] at h; omega
    · by_cases h3 : ((us S k).length : Int) = S.ob
      · by_cases h4 : cnt (us S k) = 0
        · rw [slE_6 h1 h2 h3 h4] at h; omega
        · exact ⟨h1, h2, h3, by omega⟩
      · rw [slE_3 h1 h2 h3] at h; omega
  · rw [slE_2 h1] at h; omega
theorem vd_of {S : Sc} (h : chE S = 0) : Vd S := by
  by_cases hs : 1 ≤ S.ob ∧ S.ob ≤ 32
  · have e : slF S S.sl.length = 0 := (if_pos hs).symm.trans h
    have g := fun k hk => slE_ok (slF_ok e k hk)
    exact ⟨hs, fun k hk => (g k hk).1, fun k hk => by
      have := (g (k + 1) hk).2.1
      simp only [Nat.add_sub_cancel] at this
      omega, fun k hk => (g k hk).2.2.1, fun k hk => (g k hk).2.2.2⟩
  · rw [chE_1 hs] at h; omega
theorem chk_of {S : Sc} (h : Vd S) : chE S = 0 := by
  refine chE_0 h.ob (slF_of fun k hk => slE_0 (h.fr k hk) ?_ (h.ln k hk) (by have := h.us k hk; omega))
  rintro ⟨h0, h1⟩
  obtain ⟨j, rfl⟩ : ∃ j, k = j + 1 := ⟨k - 1, by omega⟩
  have := h.up j hk
  simp only [Nat.add_sub_cancel] at h1
  omega
theorem cnt_next {l : By} {k : Nat} (hk : k < l.length) : cnt (l.take (k + 1)) = cnt (l.take k) + if l.getD k false = true then 1 else 0 := by
  unfold cnt
  rw [List.take_succ_eq_append_getElem hk, List.count_append, List.getD_eq_getElem?_getD, List.getElem?_eq_getElem hk]
  cases l[k] <;> simp
theorem cnt_pos {l : By} {k : Nat} (hk : k < l.length) (h : l.getD k false = true) : cnt l ≠ 0 := by
  unfold cnt
  rw [List.getD_eq_getElem?_getD, List.getElem?_eq_getElem hk] at h
  simp only [Option.getD_some] at h
  intro e
  rw [List.count_eq_zero] at e
  exact e (h ▸ List.getElem_mem hk)
theorem cnt_zero {l : By} (h : ∀ k, k < l.length → l.getD k false = false) : cnt l = 0 := by
  unfold cnt
  rw [List.count_eq_zero]
  intro hm
  obtain ⟨k, hk, e⟩ := List.mem_iff_getElem.1 hm
  have := h k hk
  rw [List.getD_eq_getElem?_getD, List.getElem?_eq_getElem hk] at this
  simp only [Option.getD_some] at this
  rw [e] at this
  cases this
end Go.Proofs.Ytncjicggolmofaa.Sb
