import Derived.Test.YtioffnpnoohbiaaI3
namespace Go.Proofs.Ytioffnpnoohbiaa.Rm
open Go Go.RowKit
set_option linter.unusedVariables false
set_option linter.unusedSimpArgs false
def InR (B : Nat) (L : List Mp) (w : World) (e : Ending) (w' : World) : Prop := ∃ A c, e = .returned (.slice A L.length c) ∧ OwM B w' (.slice A L.length c) L ∧ Below B w w'
theorem mid_cells (L : List Mp) (m : Mp) (i : Nat) : mcs (L.take i ++ m :: L.drop i) = (mcs L).take (i * 2) ++ [.int .i64 m.s, .int .i64 m.p] ++ (mcs L).drop (i * 2) := by
  rw [mcs_append, mcs_take, ← mcs_drop, List.append_assoc]
  rfl
theorem mid_len (L : List Mp) (m : Mp) (i : Nat) : (L.take i ++ m :: L.drop i).length = L.length + 1 := by
  have := (List.take_append_drop i L)
  conv => rhs; rw [← this]
  simp only [List.length_append, List.length_cons]; omega
theorem insert_own (B : Nat) (A : Option Addr) (c nb i : Nat) (L : List Mp) (m : Mp) (w : World) (ho : OwM B w (.slice A L.length c) L) (hB : B ≤ w.heap.size) (hn : L.length ≤ 1000) (hX : MB w nb m) (hi : i ≤ L.length) (hne : ∀ g o, A = some ⟨g, o, none⟩ → nb ≠ g) :
    Calls Try.prog 24 #[.slice A L.length c, .int .i64 i, .slice (some ⟨nb, 0, none⟩) 1 1] w (InR B (L.take i ++ m :: L.drop i) w) := by
  have ho2 := ho
  unfold InR
  rw [mid_len]
  unfold OwM
  rw [mid_len, mid_cells]
  by_cases he : i = L.length
  · subst he
    refine (insert_end B A L.length c nb (mcs L) m.s (.int .i64 m.p) w ho hB hn rfl hX).mono ?_
    rintro e w' ⟨v, rfl, h1, h2⟩
    obtain ⟨A', c', rfl, _⟩ := row_form h1
    refine ⟨A', c', rfl, ?_, below_grown (B := 0) ho h2 hB⟩
    rw [List.take_of_length_le (by rw [mcs_length]; exact Nat.le_refl _), List.drop_of_length_le (by rw [mcs_length]; exact Nat.le_refl _), List.append_nil]
    exact h1
  · have hlt : i < L.length := by omega
    obtain ⟨hl, h | ⟨g, cap, cur, e, hg, hh, h4, h5, h6, ht⟩⟩ := ho
    · omega
    · injection e with e1 _ e2
      subst e1 e2
      by_cases hr : L.length + 1 ≤ c
      · refine (insert_room g L.length c nb i (mcs L) cur m.s (.int .i64 m.p) w hX hh (hne g 0 rfl) hlt hr h5 hn h6 ht (mcs_length L) (mcs_one L) rfl).mono ?_
        rintro e w' ⟨rfl, cur', k1, k2, k3, k4⟩
        refine ⟨_, _, rfl, ⟨?_, .inr ⟨g, c, cur', rfl, hg, k1, hr, h5, k2, k3⟩⟩, ?_⟩
        · simp only [List.length_append, List.length_take, List.length_drop, mcs_length, List.length_cons, List.length_nil]; omega
        · exact below_grown (B := 0) ho2 k4 hB
      · refine (insert_grow g L.length c nb i (mcs L) cur m.s (.int .i64 m.p) w hX hh hlt h4 (by omega) hn ht (mcs_length L) (mcs_one L) rfl).mono ?_
        rintro e w' ⟨G, rfl, g1, g2, cur', k1, k2, k3, k4⟩
        refine ⟨_, _, rfl, ⟨?_, .inr ⟨w.heap.size, G, cur', rfl, hB, k1, g1, g2, k2, k3⟩⟩, ?_⟩
        · simp only [List.length_append, List.length_take, List.length_drop, mcs_length, List.length_cons, List.length_nil]; omega
        · exact ⟨k4.os, k4.tape, k4.output, k4.size, fun k hk => k4.block k (by omega) (by simp)⟩
end Go.Proofs.Ytioffnpnoohbiaa.Rm
