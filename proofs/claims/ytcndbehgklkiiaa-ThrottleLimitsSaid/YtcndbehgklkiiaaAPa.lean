import Derived.Test.YtcndbehgklkiiaaACk
import Derived.Test.YtcndbehgklkiiaaARc
namespace Go.Proofs.Ytcndbehgklkiiaa.Ac
open Go Go.RowKit
set_option linter.unusedVariables false
set_option linter.unusedSimpArgs false
set_option maxHeartbeats 1000000 in
theorem tot_any (A : Option Addr) (cp : Nat) (L : List A5) (w : World) (hr : As w A L) (hcp : L.length ≤ cp) (hn : L.length ≤ 9223372036854775807) :
    Calls Try.prog 43 #[.slice A L.length cp] w fun e w' => e = .returned (.int .i64 (tR L)) ∧ Below w.heap.size w w' := by
  have HR := hide (fun w' (h : Below w.heap.size w w') => hr.below h)
  have K := hide (brefl w)
  have HCP := hide hcp
  have HN := hide hn
  by_cases h0 : chE L = 0
  · have V := vd_of h0
    have E := hide (show tR L = us L 0 from if_pos h0)
    have hl0 : (0 : Int) < (L.length : Int) := by have := V.len.1; omega
    have hln : 0 < L.length := V.len.1
    obtain ⟨b, off, hA, hbl, y0, y1, y2, y3, y4⟩ := hr.cells (brefl w) hln
    rw [Nat.zero_mul, Nat.add_zero] at y1
    have Y1 := hide (show ∀ w', Below w.heap.size w w' → w'.cell? ⟨b, off + 1, none⟩ = some (.int .i64 (us L 0)) from fun w' h => (h.cell (p := ⟨b, off + 1, none⟩) hbl).trans y1)
    subst hA
    clear hr hcp hn V y0 y1 y2 y3 y4
    go_enter Try.func43, Try.ntmps43
    go_wp2_with fail
    refine (check_any (some ⟨b, off, none⟩) cp L _ (HR.out _ K.out) HCP.out HN.out).mono ?_
    rintro e w' ⟨rfl, hb⟩
    replace K := hide (btrans K.out hb)
    clear hb
    rw [h0]
    clear h0
    have y1 := Y1.out _ K.out
    go_wp2
    go_ret
    exact ⟨ret_int E.out.symm, K.out⟩
  · have E := hide (show tR L = -1 from if_neg h0)
    have de : (chE L != 0) = true := by simpa using h0
    clear hr hcp hn h0
    go_enter Try.func43, Try.ntmps43
    go_wp2_with fail
    refine (check_any A cp L _ (HR.out _ K.out) HCP.out HN.out).mono ?_
    rintro e w' ⟨rfl, hb⟩
    replace K := hide (btrans K.out hb)
    clear hb
    generalize chE L = ce at *
    go_wp2
    go_ret
    exact ⟨ret_int E.out.symm, K.out⟩
theorem mE_bad {L : List A5} {a : Int} (h : chE L ≠ 0) : mE L a = chE L := if_neg h
theorem mE_6 {L : List A5} {a : Int} (h : chE L = 0) (h2 : ¬ (0 ≤ a ∧ a < L.length)) : mE L a = 6 := by unfold mE; rw [if_pos h, if_neg h2]
theorem mE_0 {L : List A5} {a : Int} (h : chE L = 0) (h2 : 0 ≤ a ∧ a < L.length) : mE L a = 0 := by unfold mE; rw [if_pos h, if_pos h2]
theorem mE_ok {L : List A5} {a : Int} (h : mE L a = 0) : chE L = 0 ∧ 0 ≤ a ∧ a < L.length := by
  by_cases h1 : chE L = 0
  · by_cases h2 : 0 ≤ a ∧ a < L.length
    · exact ⟨h1, h2⟩
    · rw [mE_6 h1 h2] at h; omega
  · rw [mE_bad h1] at h; exact absurd h h1
/-- a valid list that has an account -/
def hsB (L : List A5) (a : Int) : Bool := decide (chE L = 0 ∧ 0 ≤ a ∧ a < L.length)
theorem hsB_no {L : List A5} {a : Int} (h : ¬ (chE L = 0 ∧ 0 ≤ a ∧ a < L.length)) : hsB L a = false := decide_eq_false h
theorem hsB_yes {L : List A5} {a : Int} (h : chE L = 0 ∧ 0 ≤ a ∧ a < L.length) : hsB L a = true := decide_eq_true h
/-- the answer of Path -/
def PR (B : Nat) (w : World) (l : Is) (e : Ending) (w' : World) : Prop := ∃ A c, e = .returned (.slice A l.length c) ∧ OwI B w' (.slice A l.length c) l ∧ Below B w w'
theorem pR_ok {L : List A5} {a : Int} (h : chE L = 0 ∧ 0 ≤ a ∧ a < L.length) : pR L a = pth L a := if_pos h
theorem pR_no {L : List A5} {a : Int} (h : ¬ (chE L = 0 ∧ 0 ≤ a ∧ a < L.length)) : pR L a = [] := if_neg h
end Go.Proofs.Ytcndbehgklkiiaa.Ac
