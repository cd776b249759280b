import Derived.Test.YtncjicggolmofaaQ2
namespace Go.Proofs.Ytncjicggolmofaa.Sb
open Go Go.RowKit
set_option linter.unusedVariables false
set_option linter.unusedSimpArgs false
theorem alloc_any (A : Option Addr) (cp : Nat) (S : Sc) (n : Int) (Af : Option Addr) (cf : Nat) (fs : Is) (w : World) (hr : RdC w A S.sl) (hn : S.sl.length ≤ 400) (hln : ∀ k, k < S.sl.length → (us S k).length ≤ 1000) (hnr : n ≤ 9223372036854775807 ∧ -9223372036854775808 ≤ n) (hf : Bi w Af fs) (hfl : fs.length ≤ 400) : Calls Try.prog 26 #[.agg #[.int .i64 S.ob, .slice A S.sl.length cp], .int .i64 n, .slice Af fs.length cf] w (AlR S n fs w) := by
  by_cases h0 : alE S n fs = 0
  · exact alloc_ok A cp S n Af cf fs w hr hn hln hnr hf hfl h0
  · exact alloc_no A cp S n Af cf fs w hr hn hln hnr hf hfl h0
def T4 : By := [true, true, true, true]
def aS0 : Sc := ⟨4, []⟩
def aS1 : Sc := ⟨4, [(3, [true, true, true, true]), (9, [true, false, false, false])]⟩
def aS2 : Sc := ⟨4, [(3, [true, false, true, true]), (9, [true, false, false, false])]⟩
def aS3 : Sc := ⟨4, [(3, [true, true, true, true]), (9, [true, true, false, false])]⟩
def aS4 : Sc := ⟨4, [(3, [true, true, true, true]), (9, [false, true, false, false])]⟩
def aS5 : Sc := ⟨4, [(3, [true, true, true, true])]⟩
theorem srt2 : srt [9, 3] = [3, 9] := by
  refine List.Perm.eq_of_pairwise (le := fun a b => decide (a ≤ b) = true) (fun a b _ _ h1 h2 => ?_) (List.pairwise_mergeSort (fun a b c h1 h2 => ?_) (fun a b => ?_) _) ?_ ((List.mergeSort_perm _ _).trans (List.Perm.swap _ _ _))
  · have := of_decide_eq_true h1; have := of_decide_eq_true h2; omega
  · have := of_decide_eq_true h1; have := of_decide_eq_true h2; exact decide_eq_true (by omega)
  · by_cases h : a ≤ b
    · simp [h]
    · have : b ≤ a := by omega
      simp [this]
  · decide
theorem srt0 : srt [] = [] := by simp [srt]
theorem e1E : alE aS0 5 [9, 3] = 0 := by decide
theorem e1R : alR aS0 5 [9, 3] = (aS1.sl, [12, 13, 14, 15, 36]) := by unfold alR; rw [srt2]; decide
theorem e4E : alE aS2 2 [] = 0 := by decide
theorem e4R : alR aS2 2 [] = (aS3.sl, [13, 37]) := by unfold alR; rw [srt0]; decide
theorem e3 : fE aS1 13 = 0 ∧ fL aS1 13 = aS2.sl ∧ fF aS1 13 = -1 ∧ fO aS1 13 = 4 := by decide
theorem e5 : fE aS3 36 = 0 ∧ fL aS3 36 = aS4.sl ∧ fF aS3 36 = -1 ∧ fO aS3 36 = 4 := by decide
theorem e6 : fE aS4 37 = 0 ∧ fL aS4 37 = aS5.sl ∧ fF aS4 37 = 9 ∧ fO aS4 37 = 4 := by decide
theorem e2 : aF aS1 = 2 ∧ aU aS1 = 5 ∧ aR aS1 = 3 ∧ ndN aS0 5 = 2 ∧ chE ⟨33, []⟩ = 1 := by decide
theorem us_4 {S : Sc} {n : Nat} (h : ∀ c ∈ S.sl, c.2.length ≤ n) {k : Nat} (hk : k < S.sl.length) : (us S k).length ≤ n := h _ (cAt_mem hk)
theorem aw1 (W : World) (nb : Nat) (h : Box W nb 3 #[.int .i64 9, .int .i64 3]) : Calls Try.prog 26 #[.agg #[.int .i64 4, .slice none 0 0], .int .i64 5, .slice (some ⟨nb, 0, none⟩) 2 2] W fun e w' => ∃ A c A2 c2, e = .returned (.tuple #[.agg #[.int .i64 4, .slice A 2 c], .slice A2 5 c2, .int .i64 0]) ∧ RdC w' A aS1.sl ∧ Bi w' A2 [12, 13, 14, 15, 36] ∧ Below W.heap.size W w' := by
  have H := alloc_any none 0 aS0 5 (some ⟨nb, 0, none⟩) 2 [9, 3] W (fun x => absurd rfl x) (by decide) (fun k hk => absurd hk (Nat.not_lt_zero _)) (by omega) (fun _ => ⟨nb, 0, rfl, h.lt, fun k hk => by
    rw [Nat.zero_add, h.cell]
    match k, hk with
    | 0, _ => rfl
    | 1, _ => rfl⟩) (by decide)
  refine H.mono ?_
  rintro e w' ⟨v, A2, c2, rfl, hD, hO, hb⟩
  have eL : alL aS0 5 [9, 3] = aS1.sl := by unfold alL; rw [if_pos e1E, e1R]
  have eI : alI aS0 5 [9, 3] = [12, 13, 14, 15, 36] := by unfold alI; rw [if_pos e1E, e1R]
  have eB : alB aS0 5 [9, 3] = 4 := by unfold alB; rw [if_pos e1E]; rfl
  rw [eL] at hD
  rw [eI] at hO ⊢
  obtain ⟨A, c, ev, _⟩ := hD.c.form
  subst ev
  exact ⟨A, c, A2, c2, by rw [eB, e1E]; rfl, hD.c.rd, hO.bi, hb⟩
theorem aw4 (W : World) (A : Option Addr) (c : Nat) (h : RdC W A aS2.sl) : Calls Try.prog 26 #[.agg #[.int .i64 4, .slice A 2 c], .int .i64 2, .slice none 0 0] W fun e w' => ∃ A c A2 c2, e = .returned (.tuple #[.agg #[.int .i64 4, .slice A 2 c], .slice A2 2 c2, .int .i64 0]) ∧ RdC w' A aS3.sl ∧ Bi w' A2 [13, 37] ∧ Below W.heap.size W w' := by
  have H := alloc_any A c aS2 2 none 0 [] W h (by decide) (fun k hk => us_4 (by decide) hk) (by omega) (Bi.nil _ _) (by decide)
  refine H.mono ?_
  rintro e w' ⟨v, A2, c2, rfl, hD, hO, hb⟩
  have eL : alL aS2 2 [] = aS3.sl := by unfold alL; rw [if_pos e4E, e4R]
  have eI : alI aS2 2 [] = [13, 37] := by unfold alI; rw [if_pos e4E, e4R]
  have eB : alB aS2 2 [] = 4 := by unfold alB; rw [if_pos e4E]; rfl
  rw [eL] at hD
  rw [eI] at hO ⊢
  obtain ⟨A, c, ev, _⟩ := hD.c.form
  subst ev
  exact ⟨A, c, A2, c2, by rw [eB, e4E]; rfl, hD.c.rd, hO.bi, hb⟩
theorem awF (nT : Nat) (S T : Sc) (hT : T.sl.length = nT) (o f : Int) (W : World) (A : Option Addr) (c : Nat) (h : RdC W A S.sl) (hS : S.ob = 4) (h1 : fE S o = 0 ∧ fL S o = T.sl ∧ fF S o = f ∧ fO S o = 4) (hl : S.sl.length ≤ 1000) (hu : ∀ k, k < S.sl.length → (us S k).length ≤ 1000) (ho : -9223372036854775808 ≤ o ∧ o ≤ 9223372036854775807) : Calls Try.prog 28 #[.agg #[.int .i64 4, .slice A S.sl.length c], .int .i64 o] W fun e w' => ∃ A c, e = .returned (.tuple #[.agg #[.int .i64 4, .slice A nT c], .int .i64 f, .int .i64 0]) ∧ RdC w' A T.sl ∧ Below W.heap.size W w' := by
  have H := free_any A c S o W h hl hu ho.1 ho.2
  rw [hS] at H
  refine H.mono ?_
  rintro e w' ⟨v, rfl, hD, hb⟩
  rw [h1.2.1] at hD
  obtain ⟨A, c, ev, _⟩ := hD.c.form
  subst ev
  exact ⟨A, c, by rw [h1.1, h1.2.2.1, h1.2.2.2, hT], hD.c.rd, hb⟩
end Go.Proofs.Ytncjicggolmofaa.Sb
