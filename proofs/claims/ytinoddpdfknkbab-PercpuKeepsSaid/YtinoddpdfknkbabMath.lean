import Derived.WalkKit
/-
  DERIVED. What the calls of percpu answer, on lists of lists of integers.
-/
namespace Go.Proofs.Ytinoddpdfknkbab.Pc
set_option linter.unusedVariables false
abbrev Is := List Int
abbrev Ls := List Is
def lAt (C : Ls) (k : Nat) : Is := C.getD k []
theorem lAt_get {C : Ls} {k : Nat} (h : k < C.length) : lAt C k = C[k] := by unfold lAt; rw [List.getD_eq_getElem?_getD, List.getElem?_eq_getElem h]; rfl
theorem lAt_mem {C : Ls} {k : Nat} (h : k < C.length) : lAt C k ∈ C := by rw [lAt_get h]; exact List.getElem_mem h
theorem lAt_snoc {C : Ls} {k : Nat} (h : k < C.length) : C.take (k + 1) = C.take k ++ [lAt C k] := by rw [List.take_succ_eq_append_getElem h, lAt_get h]
theorem lAt_set {C : Ls} {k j : Nat} {l : Is} (h : k < C.length) : lAt (C.set k l) j = if j = k then l else lAt C j := by
  unfold lAt
  rw [List.getD_eq_getElem?_getD, List.getElem?_set]
  by_cases e : k = j
  · subst e; simp [h]
  · rw [if_neg e, if_neg (fun x => e x.symm), List.getD_eq_getElem?_getD]
theorem getD_snoc {l : Is} {k : Nat} (h : k < l.length) : l.take (k + 1) = l.take k ++ [l.getD k 0] := by
  rw [List.take_succ_eq_append_getElem h, List.getD_eq_getElem?_getD, List.getElem?_eq_getElem h]; rfl
theorem getD_mem {l : Is} {k : Nat} (h : k < l.length) : l.getD k 0 ∈ l := by
  rw [List.getD_eq_getElem?_getD, List.getElem?_eq_getElem h]; exact List.getElem_mem h
def fr (f : Int) : Bool := decide (0 ≤ f ∧ f < 256)
def frE (C : Ls) : Int := if C.flatten.all fr then (if C.flatten.Nodup then 0 else 7) else 2
def chk (C : Ls) (z : Int) : Int := if z < 1 ∨ 6 < z then 1 else if (C.length : Int) ≠ z then 3 else frE C
def czE (C : Ls) (z : Int) : Int := if chk C C.length ≠ 0 then chk C C.length else if z < 0 ∨ (C.length : Int) ≤ z then 2 else 0
def tkE (C : Ls) (z : Int) : Int := if czE C z ≠ 0 then czE C z else if lAt C z.toNat = [] then 6 else 0
def tkC (C : Ls) (z : Int) : Ls := if tkE C z = 0 then C.set z.toNat ((lAt C z.toNat).take ((lAt C z.toNat).length - 1)) else []
def tkF (C : Ls) (z : Int) : Int := if tkE C z = 0 then (lAt C z.toNat).getD ((lAt C z.toNat).length - 1) 0 else 0
def ptE (C : Ls) (z f b h : Int) : Int := if czE C z ≠ 0 then czE C z else if fr f = false then 2 else if b < 1 ∨ h < b then 1 else if f ∈ C.flatten then 7 else 0
def ptC (C : Ls) (z f b h : Int) : Ls := if ptE C z f b h = 0 then (if h < ((lAt C z.toNat).length : Int) + 1 then C.set z.toNat ((lAt C z.toNat ++ [f]).drop b.toNat) else C.set z.toNat (lAt C z.toNat ++ [f])) else []
def ptB (C : Ls) (z f b h : Int) : Is := if ptE C z f b h = 0 ∧ h < ((lAt C z.toNat).length : Int) + 1 then (lAt C z.toNat ++ [f]).take b.toNat else []
def nwE (S : Is) : Is → Int
  | [] => 0
  | f :: r => if fr f = false then 2 else if f ∈ S then 7 else nwE (S ++ [f]) r
def rfE (C : Ls) (z : Int) (fs : Is) : Int := if czE C z ≠ 0 then czE C z else nwE C.flatten fs
def rfC (C : Ls) (z : Int) (fs : Is) : Ls := if rfE C z fs = 0 then C.set z.toNat (lAt C z.toNat ++ fs.reverse) else []
def drC (C : Ls) (z : Int) : Ls := if czE C z = 0 then C.set z.toNat [] else []
def drL (C : Ls) (z : Int) : Is := if czE C z = 0 then lAt C z.toNat else []
def cnt (C : Ls) (z : Int) : Int := if czE C z = 0 then (lAt C z.toNat).length else 0
def nwC (z : Int) : Ls := if z < 1 ∨ 6 < z then [] else List.replicate z.toNat []
def nwE0 (z : Int) : Int := if z < 1 ∨ 6 < z then 1 else 0
-- what a valid cache is
theorem frE_zero {C : Ls} : frE C = 0 ↔ (∀ f ∈ C.flatten, 0 ≤ f ∧ f < 256) ∧ C.flatten.Nodup := by
  unfold frE
  by_cases h : C.flatten.all fr = true
  · rw [if_pos h]
    have h' : ∀ f ∈ C.flatten, 0 ≤ f ∧ f < 256 := fun f hf => by simpa [fr] using List.all_eq_true.1 h f hf
    by_cases h2 : C.flatten.Nodup
    · rw [if_pos h2]; exact ⟨fun _ => ⟨h', h2⟩, fun _ => rfl⟩
    · rw [if_neg h2]; exact ⟨fun e => absurd e (by decide), fun e => absurd e.2 h2⟩
  · rw [if_neg h]
    exact ⟨fun e => absurd e (by decide), fun e => absurd (List.all_eq_true.2 fun f hf => by simpa [fr] using e.1 f hf) h⟩
theorem chk_in {C : Ls} (h : ¬ ((C.length : Int) < 1 ∨ 6 < (C.length : Int))) : chk C C.length = frE C := by
  unfold chk
  rw [if_neg h, if_neg (fun e => e rfl)]
theorem chk_out {C : Ls} {z : Int} (h : z < 1 ∨ 6 < z) : chk C z = 1 := by
  unfold chk
  rw [if_pos h]
theorem czE_zero {C : Ls} {z : Int} : czE C z = 0 ↔ (1 ≤ C.length ∧ C.length ≤ 6) ∧ frE C = 0 ∧ 0 ≤ z ∧ z < (C.length : Int) := by
  unfold czE
  by_cases h : (C.length : Int) < 1 ∨ 6 < (C.length : Int)
  · rw [chk_out h, if_pos (by decide)]
    exact ⟨fun e => absurd e (by decide), fun e => by omega⟩
  · rw [chk_in h]
    by_cases h2 : frE C = 0
    · rw [if_neg (fun e => e h2)]
      by_cases h3 : z < 0 ∨ (C.length : Int) ≤ z
      · rw [if_pos h3]; exact ⟨fun e => absurd e (by decide), fun e => by omega⟩
      · rw [if_neg h3]; exact ⟨fun _ => ⟨by omega, h2, by omega, by omega⟩, fun _ => rfl⟩
    · rw [if_pos h2]; exact ⟨fun e => absurd e h2, fun e => absurd e.2.1 h2⟩
-- the loop of the check, list by list
theorem flat_snoc {C : Ls} {k : Nat} (h : k < C.length) : (C.take (k + 1)).flatten = (C.take k).flatten ++ lAt C k := by
  rw [lAt_snoc h, List.flatten_append]; simp
theorem flat_mem {C : Ls} {k : Nat} (h : k < C.length) {f : Int} (hf : f ∈ lAt C k) : f ∈ C.flatten := List.mem_flatten.2 ⟨_, lAt_mem h, hf⟩
theorem frE_out {C : Ls} {k i : Nat} (h : k < C.length) (hi : i < (lAt C k).length) (hf : fr ((lAt C k).getD i 0) = false) : frE C = 2 := by
  unfold frE
  rw [if_neg]
  intro e
  have := List.all_eq_true.1 e _ (flat_mem h (getD_mem hi))
  rw [hf] at this; cases this
theorem frE_in {C : Ls} (h : ∀ k, k < C.length → ∀ f ∈ lAt C k, fr f = true) : C.flatten.all fr = true :=
  List.all_eq_true.2 fun f hf => by
    obtain ⟨l, hl, hf⟩ := List.mem_flatten.1 hf
    obtain ⟨k, hk, rfl⟩ := List.mem_iff_getElem.1 hl
    exact h k hk f (by rw [lAt_get hk]; exact hf)
end Go.Proofs.Ytinoddpdfknkbab.Pc
