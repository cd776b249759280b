import Derived.Test.YtncjicggolmofaaS3
namespace Go.Proofs.Ytncjicggolmofaa.Sb
open Go Go.RowKit
set_option linter.unusedVariables false
theorem own_cap (A : Option Addr) (n c m d : Nat) : (Value.slice A n c).ownBlock = (Value.slice A m d).ownBlock := by cases A <;> rfl
set_option maxRecDepth 100000 in
set_option maxHeartbeats 1000000 in
/-- Insert at the end -/
theorem insert_end (B : Nat) (A : Option Addr) (n c nb : Nat) (xs : List Value) (z : Int) (u : Value) (w : World) (ho : w.ownsRow B 52 2 (.slice A n c) n xs) (hB : B ≤ w.heap.size) (hn : n ≤ 1000) (hu : ∃ A c m, u = .slice A m c) (hX : Box w nb 52 #[.int .i64 z, u]) :
    Calls Try.prog 45 #[.slice A n c, .int .i64 n, .slice (some ⟨nb, 0, none⟩) 1 1] w fun e w' => ∃ v', e = .returned v' ∧ w'.ownsRow B 52 2 v' (n + 1) (xs ++ [.int .i64 z, u]) ∧ w.grownBy w' (Value.slice A n c).ownBlock := by
  obtain ⟨i0, hi0, hz0, hz1, hz2⟩ := info_parts info52
  have HO := hide ho
  have hcap : n ≤ c := by
    obtain ⟨A', c', e, h⟩ := row_form ho
    injection e with _ _ e
    subst e; exact h
  have hN : ∀ j y, [Value.int .i64 z, u][j]? = some y → w.cell? ((⟨nb, 0, none⟩ : Addr).add j) = some y := by
    intro j y hy
    rw [add_at', Nat.zero_add, hX.cell]
    simpa using hy
  have NW := hide hN
  have O1 := hide (show ∀ y ∈ [Value.int .i64 z, u], y.oneCell' = true by
    obtain ⟨A, c, m, rfl⟩ := hu
    intro y hy; simp at hy; rcases hy with rfl | rfl <;> rfl)
  have hnn : (n : Int) ≤ (n : Int) := by omega
  have h0n : (0 : Int) ≤ (n : Int) := by omega
  clear ho hX hN hu
  go_enter Try.func45, Try.ntmps45
  go_wp2_with (at_builtin; refine wpList_append_own _ rfl (.tmp 23) (.tmp 24) 22 rfl B 52 i0 _ 2 32 Try.underlying22 hi0 hz0 hz1 hz2 rfl (by omega) (.slice A n c) n xs rfl HO.out ⟨nb, 0, none⟩ 1 1 [.int .i64 z, u] rfl rfl NW.out O1.out (by simp only [maxLen]; omega) (by omega) hB ?_; intro v4 w4 hown4 hg4 _; have O4 := hide hown4; have G4 := hide hg4; clear hown4 hg4)
  all_goals
    go_wp2
    go_ret
    exact ⟨_, rfl, O4.out, (own_cap A n c _ _) ▸ G4.out⟩
end Go.Proofs.Ytncjicggolmofaa.Sb
