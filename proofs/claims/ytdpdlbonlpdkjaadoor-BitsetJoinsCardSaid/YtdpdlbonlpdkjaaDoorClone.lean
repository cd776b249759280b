import Derived.Test.YtdpdlbonlpdkjaaDoorSame
import Derived.OwnWalk
import Derived.Laws.AppendOwn
namespace Go.Proofs.YtdpdlbonlpdkjaaDoor.Bs
open Go Go.RowKit
set_option linter.unusedVariables false
theorem clone_nil (n c : Nat) (w : World) :
    Calls Tryd.prog 39 #[.slice none n c] w fun e w' => e = .returned (.slice none 0 0) ∧ w = w' := by
  have h0 := fun W => Lib.run_eql_slice_nil (P := Tryd.prog) W 22 42 none n c 0 0 Tryd.underlying22
  simp only [Option.isNone_none] at h0
  go_enter Tryd.func39, Tryd.ntmps39
  go_wp2
  go_ret
  exact ⟨rfl, rfl⟩
theorem own_row0 (w : World) : (w.alloc (.cells #[] 42)).ownsRow w.heap.size 42 1 (.slice (some ⟨w.heap.size, 0, none⟩) 0 0) 0 [] :=
  ⟨rfl, .inr ⟨w.heap.size, 0, #[], rfl, Nat.le_refl _, by show (w.heap.push _)[w.heap.size]? = _; simp, Nat.le_refl _, Nat.zero_le _, rfl, rfl⟩⟩
theorem wd_news {w : World} {a : Addr} {ws : List Nat} (hr : Wd w (some a) ws) (j : Nat) (u : Value) (hu : (ws.map uv)[j]? = some u) : w.cell? (a.add j) = some u := by
  rw [List.getElem?_map] at hu
  obtain ⟨x, hx, rfl⟩ := Option.map_eq_some_iff.1 hu
  obtain ⟨b, off, e, hb, hc⟩ := hr (by rintro rfl; simp at hx)
  injection e with e
  subst e
  have := hc j x hx
  rw [Addr.add]
  split
  · rename_i h; subst h; simpa [uv] using this
  · exact this
theorem uv_one (ws : List Nat) : ∀ u ∈ ws.map uv, u.oneCell' = true := by
  intro u hu
  obtain ⟨x, _, rfl⟩ := List.mem_map.1 hu
  rfl
theorem clone_some (a : Addr) (ws : List Nat) (c : Nat) (w : World) (hr : Wd w (some a) ws) (hn : ws.length ≤ 64) :
    Calls Tryd.prog 39 #[.slice (some a) ws.length c] w fun e w' => ∃ A' c', e = .returned (.slice A' ws.length c') ∧ Mine w.heap.size w' A' ws ∧ Below w.heap.size w w' := by
  have h0 := fun W => Lib.run_eql_slice_nil (P := Tryd.prog) W 22 42 (some a) ws.length c 0 0 Tryd.underlying22
  simp only [Option.isNone_some] at h0
  obtain ⟨i0, hi0, hz0, hz1, hz2⟩ := info_parts info42
  go_enter Tryd.func39, Tryd.ntmps39
  have hr2 : Wd (w.alloc (.cells #[] 42)) (some a) ws := hr.below (bal (brefl _) _)
  have HR := hide hr2
  clear hr hr2
  go_wp2_with (at_builtin; refine wpList_append_own _ rfl (.tmp 5) (.tmp 6) _ rfl w.heap.size 42 i0 _ 1 8 Tryd.underlying22 hi0 hz0 hz1 hz2 rfl (by omega) (.slice (some ⟨w.heap.size, 0, none⟩) 0 0) 0 [] rfl (own_row0 w) a ws.length c (ws.map uv) rfl (by simp) (fun j u hu => wd_news HR.out j u hu) (uv_one ws) (by simp only [maxLen]; omega) (by omega) (by simp) ?_; intro v1 w1 hown1 hg1 hat1)
  have hbw : Below w.heap.size w w1 := (bal (brefl w) (.cells #[] 42)).grown hg1 (by simp) (fun k hk => by simp [Value.ownBlock] at hk; omega)
  have hrow := hown1
  obtain ⟨hl, h | ⟨g, cap, cur, e, hg, hh, h1, h2, h3, h4⟩⟩ := hown1
  · obtain ⟨rfl, h⟩ := h
    have h0 : ws.length = 0 := by omega
    have hws : ws = [] := List.eq_nil_of_length_eq_zero h0
    subst hws
    go_ret
    exact ⟨none, 0, rfl, fun h => absurd rfl h, hbw⟩
  · subst e
    have hm : Mine w.heap.size w1 (some ⟨g, 0, none⟩) ws := Mine.of_row (n := 0 + ws.length) (c := cap) (by simpa using hrow)
    have HM := hide hm
    have HB := hide hbw
    clear hm hbw hrow hl hg hh h1 h2 h3 h4 hat1 hg1
    go_ret
    refine ⟨some ⟨g, 0, none⟩, cap, ?_, HM.out, HB.out⟩
    show Ending.returned (.slice (some ⟨g, 0, none⟩) (0 + ws.length) cap) = _
    rw [Nat.zero_add]
/-- CLONE. -/
theorem clone_any (A : Option Addr) (ws : List Nat) (c : Nat) (w : World) (hr : Wd w A ws) (hn : ws.length ≤ 64) :
    Calls Tryd.prog 39 #[.slice A ws.length c] w fun e w' => ∃ A' c', e = .returned (.slice A' ws.length c') ∧ Mine w.heap.size w' A' ws ∧ Below w.heap.size w w' := by
  rcases A with _ | a
  · have hws : ws = [] := by
      rcases ws with _ | ⟨x, xs⟩
      · rfl
      · obtain ⟨b, off, e, _⟩ := hr (by simp)
        cases e
    subst hws
    exact (clone_nil 0 c w).mono fun e w' ⟨he, hw⟩ => ⟨none, 0, he, fun h => absurd rfl h, by subst hw; exact brefl _⟩
  · exact clone_some a ws c w hr hn
end Go.Proofs.YtdpdlbonlpdkjaaDoor.Bs
