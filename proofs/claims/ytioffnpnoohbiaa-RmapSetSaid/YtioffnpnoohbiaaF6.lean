import Derived.Test.YtioffnpnoohbiaaF5
namespace Go.Proofs.Ytioffnpnoohbiaa.Rm
open Go Go.RowKit
set_option linter.unusedVariables false
set_option linter.unusedSimpArgs false
theorem own_row0m (w : World) : (w.alloc (.cells #[] 26)).ownsRow w.heap.size 26 2 (.slice (some ⟨w.heap.size, 0, none⟩) 0 0) 0 [] :=
  World.ownsRow_made w #[] 0 (Nat.le_refl _) (Nat.zero_le _) (by simp)
theorem MB.belowB {w w' : World} {g B : Nat} {r : Mp} (h : MB w g r) (hb : Below B w w') (hg : g < B) : MB w' g r := (hb.block g hg).trans h
def ClR (Q : List Mp) (B : Nat) (w : World) (e : Ending) (w' : World) : Prop := ∃ A c, e = .returned (.slice A Q.length c) ∧ OwM B w' (.slice A Q.length c) Q ∧ Below B w w'
set_option maxRecDepth 100000 in
set_option maxHeartbeats 8000000 in
theorem clone_any (A : Option Addr) (cp : Nat) (Q : List Mp) (w : World) (hr : Ms w A Q) (hn : Q.length ≤ 1000000) : Calls Try.prog 25 #[.slice A Q.length cp] w (ClR Q w.heap.size w) := by
  obtain ⟨i0, hi0, hz0, hz1, hz2⟩ := info_parts info26
  have HR := hide (hr.below (bal (brefl _) (.cells #[] 26)))
  have K := hide (brefl w)
  unfold ClR
  have q22 : ∀ (w : World) (a : Option Addr) (n c n' c' : Nat), (binOp .eql 22 (.slice a n c) (.slice none n' c')).run Try.prog w = .ok (.bool a.isNone) w := fun w a n c n' c' => Lib.run_eql_slice_nil w _ _ a n c n' c' Try.underlying22
  match A, hr, HR with
  | none, hr, HR =>
    obtain rfl : Q = [] := by
      rcases Q with _ | ⟨a, l⟩
      · rfl
      · obtain ⟨b, off, e, _⟩ := hr (by simp)
        cases e
    clear hr HR
    go_enter Try.func25, Try.ntmps25
    go_wp2
    go_ret
    exact ⟨none, 0, rfl, owm_nil _ _, K.out⟩
  | some ad, hr, HR =>
    clear hr
    go_enter Try.func25, Try.ntmps25
    go_wp2_with (at_builtin; refine wpList_append_own _ rfl (.tmp 5) (.tmp 6) _ rfl w.heap.size 26 i0 _ 2 16 Try.underlying22 hi0 hz0 hz1 hz2 rfl (by omega) (.slice (some ⟨w.heap.size, 0, none⟩) 0 0) 0 [] rfl (own_row0m w) ad Q.length cp (mcs Q) rfl (mcs_length Q) (fun j u hu => Ms.news HR.out j u hu) (mcs_one _) (by simp only [maxLen]; omega) (by omega) (by simp) ?_; intro v1 w1 hown1 hg1 hat1; obtain ⟨A1, n1, rfl, _⟩ := row_form hown1; have HB := hide (show Below w.heap.size w w1 from (bal (brefl w) _).trans (below_grown (B := 0) (own_row0m w) hg1 (by simp))); have HM := hide hown1; clear hown1 hg1 hat1)
    go_wp2
    go_ret
    rw [Nat.zero_add, List.nil_append] at HM
    exact ⟨A1, n1, rfl, HM.out, HB.out⟩
end Go.Proofs.Ytioffnpnoohbiaa.Rm
