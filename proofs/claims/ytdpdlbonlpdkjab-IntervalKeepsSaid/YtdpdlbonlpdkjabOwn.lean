import Derived.Test.YtdpdlbonlpdkjabIvs
import Derived.OwnWalk
namespace Go.Proofs.Ytdpdlbonlpdkjab.Iv
open Go Go.RowKit
set_option linter.unusedVariables false
theorem own_row0 (w : World) : (w.alloc (.cells #[] 30)).ownsRow w.heap.size 30 2 (.slice (some ⟨w.heap.size, 0, none⟩) 0 0) 0 [] :=
  ⟨rfl, .inr ⟨w.heap.size, 0, #[], rfl, Nat.le_refl _, by show (w.heap.push _)[w.heap.size]? = _; simp, Nat.le_refl _, Nat.zero_le _, rfl, rfl⟩⟩
theorem iv_news {w : World} {a : Addr} {L : IL} (hr : Iv w (some a) L) (j : Nat) (u : Value) (hu : ((edges L).map ic)[j]? = some u) : w.cell? (a.add j) = some u := by
  rw [List.getElem?_map] at hu
  obtain ⟨x, hx, rfl⟩ := Option.map_eq_some_iff.1 hu
  obtain ⟨b, off, e, hb, hc⟩ := hr (by rintro rfl; simp [edges] at hx)
  injection e with e
  subst e
  have hj : j < 2 * L.length := by
    rcases Nat.lt_or_ge j (2 * L.length) with h | h
    · exact h
    · rw [List.getElem?_eq_none (by rw [edges_length]; exact h)] at hx; cases hx
  have hg : (edges L).getD j 0 = x := by rw [List.getD_eq_getElem?_getD, hx]; rfl
  have hcell : w.cell? ⟨b, off + j, none⟩ = some (ic x) := by
    obtain ⟨c0, c1⟩ := hc (j / 2) (by omega)
    rcases Nat.mod_two_eq_zero_or_one j with h | h
    · rw [← hg, show j = 2 * (j / 2) by omega, edges_even, show off + 2 * (j / 2) = off + j / 2 * 2 by omega]; exact c0
    · rw [← hg, show j = 2 * (j / 2) + 1 by omega, edges_odd, show off + (2 * (j / 2) + 1) = off + j / 2 * 2 + 1 by omega]
      have : (2 * (j / 2) + 1) / 2 = j / 2 := by omega
      exact c1
  rw [Addr.add]
  split
  · rename_i h; subst h; simpa using hcell
  · exact hcell
theorem ic_one (l : List Int) : ∀ u ∈ l.map ic, u.oneCell' = true := by
  intro u hu
  obtain ⟨x, _, rfl⟩ := List.mem_map.1 hu
  rfl
theorem own_some (a : Addr) (L : IL) (c : Nat) (w : World) (hr : Iv w (some a) L) (hn : L.length ≤ 12) :
    Calls Try.prog 34 #[.slice (some a) L.length c] w fun e w' => ∃ A' c', e = .returned (.slice A' L.length c') ∧ MineI w.heap.size w' A' L ∧ Below w.heap.size w w' := by
  obtain ⟨i0, hi0, hz0, hz1, hz2⟩ := info_parts info30
  have hr2 : Iv (w.alloc (.cells #[] 30)) (some a) L := hr.below (bal (brefl _) _)
  have HR := hide hr2
  clear hr hr2
  go_enter Try.func34, Try.ntmps34
  go_wp2_with (at_builtin; refine wpList_append_own _ rfl (.tmp 3) (.tmp 4) _ rfl w.heap.size 30 i0 _ 2 16 Try.underlying22 hi0 hz0 hz1 hz2 rfl (by omega) (.slice (some ⟨w.heap.size, 0, none⟩) 0 0) 0 [] rfl (own_row0 w) a L.length c ((edges L).map ic) rfl (by simp [edges_length]; omega) (fun j u hu => iv_news HR.out j u hu) (ic_one _) (by simp only [maxLen]; omega) (by omega) (by simp) ?_; intro v1 w1 hown1 hg1 hat1; obtain ⟨A1, n1, rfl⟩ := row_form hown1; have HB := hide (show Below w.heap.size w w1 from (bal (brefl w) _).trans (row_below (own_row0 w) hg1 (Nat.le_refl _) (by simp))); have HM := hide (MineI.of_row (L := L) (c := n1) (Nat.zero_add _) hown1); clear hown1 hg1 hat1)
  go_wp2
  go_ret
  exact ⟨A1, n1, rfl, HM.out, HB.out⟩
theorem own_nil (c : Nat) (w : World) :
    Calls Try.prog 34 #[.slice none 0 c] w fun e w' => ∃ A' c', e = .returned (.slice A' 0 c') ∧ Below w.heap.size w w' := by
  go_enter Try.func34, Try.ntmps34
  go_wp2
  go_ret
  exact ⟨_, _, rfl, bal (brefl _) _⟩
/-- a copy of a list -/
theorem own_any (A : Option Addr) (L : IL) (c : Nat) (w : World) (hr : Iv w A L) (hn : L.length ≤ 12) :
    Calls Try.prog 34 #[.slice A L.length c] w fun e w' => ∃ A' c', e = .returned (.slice A' L.length c') ∧ MineI w.heap.size w' A' L ∧ Below w.heap.size w w' := by
  rcases A with _ | a
  · have hL : L = [] := by
      rcases L with _ | ⟨x, xs⟩
      · rfl
      · obtain ⟨b, off, e, _⟩ := hr (by simp)
        cases e
    subst hL
    exact (own_nil c w).mono fun e w' ⟨A', c', he, hb⟩ => ⟨A', c', he, fun h => absurd rfl h, hb⟩
  · exact own_some a L c w hr hn
end Go.Proofs.Ytdpdlbonlpdkjab.Iv
