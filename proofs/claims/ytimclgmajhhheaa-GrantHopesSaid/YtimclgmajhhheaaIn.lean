import Derived.Test.YtimclgmajhhheaaPa
namespace Go.Proofs.Ytimclgmajhhheaa.Ac
open Go Go.RowKit
set_option linter.unusedVariables false
set_option linter.unusedSimpArgs false
theorem mem_at {l : Is} {z : Int} : z ∈ l ↔ ∃ j, j < l.length ∧ l.getD j 0 = z := by
  constructor
  · intro h
    obtain ⟨j, hj, e⟩ := List.getElem_of_mem h
    exact ⟨j, hj, by rw [List.getD_eq_getElem?_getD, List.getElem?_eq_getElem hj]; exact e⟩
  · rintro ⟨j, hj, e⟩
    rw [List.getD_eq_getElem?_getD, List.getElem?_eq_getElem hj] at e
    exact e ▸ List.getElem_mem hj
/-- the first place of a number in a list -/
def IxP (l : Is) (z : Int) (w : World) (e : Ending) (w' : World) : Prop := ∃ i : Int, e = .returned (.int .i64 i) ∧ ((i = -1 ∧ z ∉ l) ∨ (∃ j, j < l.length ∧ i = (j : Nat) ∧ l.getD j 0 = z ∧ ∀ k, k < j → l.getD k 0 ≠ z)) ∧ w = w'
theorem iR_no {L : List A5} {a s : Int} (h : ¬ (chE L = 0 ∧ 0 ≤ a ∧ a < L.length)) : iR L a s = false := by unfold iR; rw [decide_eq_false h]; rfl
theorem iR_all {L : List A5} {a : Int} (h : chE L = 0 ∧ 0 ≤ a ∧ a < L.length) : iR L a (-1) = true := by unfold iR; rw [decide_eq_true h, decide_eq_true (show (-1 : Int) = -1 from rfl)]; rfl
theorem iR_s {L : List A5} {a s : Int} (h : chE L = 0 ∧ 0 ≤ a ∧ a < L.length) (hs : s ≠ -1) : iR L a s = decide (s ∈ pth L a) := by unfold iR; rw [decide_eq_true h, decide_eq_false hs]; simp
theorem pth_nlen {L : List A5} {a : Int} (h : chE L = 0 ∧ 0 ≤ a ∧ a < L.length) : 1 ≤ (pth L a).length ∧ (pth L a).length ≤ 8 := by
  have V := vd_of h.1
  obtain ⟨k, rfl⟩ := Int.eq_ofNat_of_zero_le h.2.1
  have h2 := pth_len V.tr V.len.2 (k : Int) (by omega) h.2.2
  have e := pth_cons V.tr V.len.2 (a := k) (by omega)
  have := V.len.2
  rw [e] at h2 ⊢
  simp only [List.length_cons] at h2 ⊢
  omega
theorem oR_no {L : List A5} {a : Int} (h : ¬ (chE L = 0 ∧ 0 ≤ a ∧ a < L.length)) : oR L a = -1 := if_neg h
theorem oR_ok {L : List A5} {a : Nat} (h : chE L = 0 ∧ 0 ≤ (a : Int) ∧ (a : Int) < L.length) : oR L a = own L a := by unfold oR; rw [if_pos h, Int.toNat_natCast]
theorem own_in {L : List A5} (V : Vd L) {k : Nat} (hk : k < L.length) : 0 ≤ own L k ∧ own L k ≤ 1048576 := by
  have h := V.sta k hk
  have k0 := kc_nonneg (L := L) (x := (k : Int)) (f := us L) L.length (fun i hi _ _ => (V.rg i hi).1.1.1)
  have u := (V.rg k hk).1.1
  unfold inr at u
  unfold own at h ⊢
  omega
theorem arE_bad {L : List A5} {a n : Int} (h : mE L a ≠ 0) : arE L a n = mE L a := by
  unfold mE at h ⊢
  unfold arE
  by_cases h1 : chE L = 0
  · rw [if_pos h1] at h ⊢
    rw [if_pos h1]
    by_cases h2 : 0 ≤ a ∧ a < L.length
    · rw [if_pos h2] at h; exact absurd rfl h
    · rw [if_neg h2, if_neg h2]
  · rw [if_neg h1, if_neg h1]
theorem arE_in {L : List A5} {a n : Int} (h : mE L a = 0) : arE L a n = if inr n then 0 else 2 := by
  have g := mE_ok h
  unfold arE
  rw [if_pos g.1, if_pos g.2]
set_option maxHeartbeats 2000000 in
theorem cchg_any (A : Option Addr) (cp : Nat) (L : List A5) (a n : Int) (w : World) (hr : As w A L) (hcp : L.length ≤ cp) (hn : L.length ≤ 9223372036854775807) :
    Calls Try.prog 109 #[.slice A L.length cp, .int .i64 a, .int .i64 n] w fun e w' => e = .returned (.int .i64 (arE L a n)) ∧ Below w.heap.size w w' := by
  have C := hide (cacc_any A cp L a w hr hcp hn)
  have NC := hide (fun n w => num_any n w)
  clear hr hcp
  by_cases h : mE L a = 0
  · rw [h] at C
    by_cases hi : inr n
    · have E := hide ((arE_in (n := n) h).trans (if_pos hi))
      have di := decide_eq_true hi
      clear h hi
      go_enter Try.func109, Try.ntmps109
      go_wp2_with fail
      refine C.out.mono ?_
      rintro e w' ⟨rfl, hb⟩
      have K := hide hb
      clear hb C
      go_wp2_with (go_at_call 114; refine (NC.out _ _).mono ?_; rintro e w' ⟨rfl, rfl⟩)
      go_ret
      exact ⟨ret_int E.out.symm, K.out⟩
    · have E := hide ((arE_in (n := n) h).trans (if_neg hi))
      have di := decide_eq_false hi
      clear h hi
      go_enter Try.func109, Try.ntmps109
      go_wp2_with fail
      refine C.out.mono ?_
      rintro e w' ⟨rfl, hb⟩
      have K := hide hb
      clear hb C
      go_wp2_with (go_at_call 114; refine (NC.out _ _).mono ?_; rintro e w' ⟨rfl, rfl⟩)
      go_ret
      exact ⟨ret_int E.out.symm, K.out⟩
  · have E := hide (arE_bad (n := n) h)
    have de : (mE L a != 0) = true := by simpa using h
    clear h
    generalize mE L a = ce at *
    go_enter Try.func109, Try.ntmps109
    go_wp2_with fail
    refine C.out.mono ?_
    rintro e w' ⟨rfl, hb⟩
    have K := hide hb
    clear hb C
    go_wp2
    go_ret
    exact ⟨ret_int E.out.symm, K.out⟩
end Go.Proofs.Ytimclgmajhhheaa.Ac
