/-
  DERIVED. Plain mathematics of the copy-on-write machine. No program text.
-/
namespace Go.Proofs.Ytoogdggiemacjaa.Cw
set_option linter.unusedVariables false
abbrev Pg := Int × Bool
abbrev Fr := Int × Int
abbrev Sp := Bool × List Pg
def pAt (L : List Pg) (k : Nat) : Pg := L.getD k (0, false)
def fAt (L : List Fr) (k : Nat) : Fr := L.getD k (0, 0)
def sAt (L : List Sp) (k : Nat) : Sp := L.getD k (false, [])
theorem pAt_get {L : List Pg} {k : Nat} (h : k < L.length) : pAt L k = L[k] := by unfold pAt; rw [List.getD_eq_getElem?_getD, List.getElem?_eq_getElem h]; rfl
theorem fAt_get {L : List Fr} {k : Nat} (h : k < L.length) : fAt L k = L[k] := by unfold fAt; rw [List.getD_eq_getElem?_getD, List.getElem?_eq_getElem h]; rfl
theorem sAt_get {L : List Sp} {k : Nat} (h : k < L.length) : sAt L k = L[k] := by unfold sAt; rw [List.getD_eq_getElem?_getD, List.getElem?_eq_getElem h]; rfl
theorem pAt_mem {L : List Pg} {k : Nat} (h : k < L.length) : pAt L k ∈ L := by rw [pAt_get h]; exact List.getElem_mem h
theorem fAt_mem {L : List Fr} {k : Nat} (h : k < L.length) : fAt L k ∈ L := by rw [fAt_get h]; exact List.getElem_mem h
theorem sAt_mem {L : List Sp} {k : Nat} (h : k < L.length) : sAt L k ∈ L := by rw [sAt_get h]; exact List.getElem_mem h
theorem pAt_snoc {L : List Pg} {k : Nat} (h : k < L.length) : L.take (k + 1) = L.take k ++ [pAt L k] := by rw [List.take_succ_eq_append_getElem h, pAt_get h]
theorem fAt_snoc {L : List Fr} {k : Nat} (h : k < L.length) : L.take (k + 1) = L.take k ++ [fAt L k] := by rw [List.take_succ_eq_append_getElem h, fAt_get h]
theorem sAt_snoc {L : List Sp} {k : Nat} (h : k < L.length) : L.take (k + 1) = L.take k ++ [sAt L k] := by rw [List.take_succ_eq_append_getElem h, sAt_get h]
structure Cow where
  sz : Int
  sp : List Sp
  fr : List Fr
  cp : Int
-- THE SIZES
def szG (M : Cow) : Prop := (1 ≤ M.sz ∧ M.sz ≤ 512) ∧ (1 ≤ M.sp.length ∧ M.sp.length ≤ 8) ∧ (1 ≤ M.fr.length ∧ M.fr.length ≤ 256) ∧ 0 ≤ M.cp ∧ M.cp ≤ 1048576
instance (M : Cow) : Decidable (szG M) := by unfold szG; infer_instance
-- THE FORM
/-- a page that shows a frame or nothing -/
def pgG (n : Nat) (p : Pg) : Prop := p = (-1, false) ∨ (0 ≤ p.1 ∧ p.1 < n)
instance (n : Nat) (p : Pg) : Decidable (pgG n p) := by unfold pgG; infer_instance
/-- a space with the pages that it must have -/
def lnG (sz : Int) (s : Sp) : Prop := if s.1 then (s.2.length : Int) = sz else s.2.length = 0
instance (sz : Int) (s : Sp) : Decidable (lnG sz s) := by unfold lnG; infer_instance
def spG (sz : Int) (n : Nat) (s : Sp) : Prop := lnG sz s ∧ ∀ p ∈ s.2, pgG n p
instance (sz : Int) (n : Nat) (s : Sp) : Decidable (spG sz n s) := by unfold spG; infer_instance
def fmG (M : Cow) : Prop := ∀ s ∈ M.sp, spG M.sz M.fr.length s
instance (M : Cow) : Decidable (fmG M) := by unfold fmG; infer_instance
-- THE COUNTS
/-- how many of these pages show a frame -/
def cnP (f : Int) (L : List Pg) : Nat := L.countP (fun p => p.1 == f)
def cnS (f : Int) (L : List Sp) : Nat := (L.map fun s => cnP f s.2).sum
def frG (M : Cow) (k : Nat) : Prop := (fAt M.fr k).1 = (cnS k M.sp : Int) ∧ ((fAt M.fr k).1 = 0 → (fAt M.fr k).2 = 0)
instance (M : Cow) (k : Nat) : Decidable (frG M k) := by unfold frG; infer_instance
def stG (M : Cow) : Prop := ∀ k, k < M.fr.length → frG M k
instance (M : Cow) : Decidable (stG M) := by unfold stG; infer_instance
-- WHO MAY WRITE
def wrG (F : List Fr) (p : Pg) : Prop := p.2 = true → (fAt F p.1.toNat).1 = 1
instance (F : List Fr) (p : Pg) : Decidable (wrG F p) := by unfold wrG; infer_instance
def acG (M : Cow) : Prop := ∀ s ∈ M.sp, ∀ p ∈ s.2, wrG M.fr p
instance (M : Cow) : Decidable (acG M) := by unfold acG; infer_instance
/-- the error of Check -/
def chE (M : Cow) : Int := if ¬ szG M then 2 else if ¬ fmG M then 3 else if ¬ stG M then 11 else if ¬ acG M then 12 else 0
theorem chE_zero {M : Cow} (h : chE M = 0) : szG M ∧ fmG M ∧ stG M ∧ acG M := by
  unfold chE at h
  split at h
  · omega
  · split at h
    · omega
    · split at h
      · omega
      · split at h
        · omega
        · rename_i a b c d
          exact ⟨Decidable.not_not.1 a, Decidable.not_not.1 b, Decidable.not_not.1 c, Decidable.not_not.1 d⟩
theorem chE_of {M : Cow} (h : szG M ∧ fmG M ∧ stG M ∧ acG M) : chE M = 0 := by
  unfold chE
  rw [if_neg (fun g => g h.1), if_neg (fun g => g h.2.1), if_neg (fun g => g h.2.2.1), if_neg (fun g => g h.2.2.2)]
-- COUNTS GROW
theorem cnP_snoc (f : Int) (L : List Pg) (p : Pg) : cnP f (L ++ [p]) = cnP f L + (if p.1 = f then 1 else 0) := by
  unfold cnP
  rw [List.countP_append]
  by_cases h : p.1 = f <;> simp [h]
theorem cnS_snoc (f : Int) (L : List Sp) (s : Sp) : cnS f (L ++ [s]) = cnS f L + cnP f s.2 := by
  unfold cnS
  rw [List.map_append, List.sum_append]; simp
theorem cnP_le (f : Int) (L : List Pg) : cnP f L ≤ L.length := List.countP_le_length
end Go.Proofs.Ytoogdggiemacjaa.Cw
