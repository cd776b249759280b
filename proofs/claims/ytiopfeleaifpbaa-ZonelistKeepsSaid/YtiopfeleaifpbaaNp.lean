import Derived.Test.YtiopfeleaifpbaaSl
namespace Go.Proofs.Ytiopfeleaifpbaa.Bd
open Go Go.RowKit Go.Sort Go.Lib
set_option linter.unusedVariables false
def outF {α : Type} [Inhabited α] (lt : α → α → Bool) (a b : Nat) : Nat → Nat → Array α → Array α
  | 0, _, d => d
  | n + 1, i, d => if i < b then outF lt a b n (i + 1) (insInner lt a i d) else d
theorem outF_eq {α : Type} [Inhabited α] (lt : α → α → Bool) (a b : Nat) : ∀ (n i : Nat) (d : Array α), b - i ≤ n → insOuter lt a b i d = outF lt a b n i d
  | 0, i, d, h => by unfold insOuter; rw [if_neg (by omega)]; rfl
  | n + 1, i, d, h => by
    unfold insOuter outF
    split
    · exact outF_eq lt a b n (i + 1) _ (by omega)
    · rfl
theorem srtd_F {m : Nat} (cf : Fin (m + 1) → Fin (m + 1) → Int) (zs : List (Fin (m + 1))) : srtd cf zs = (outF (ltOf cf) 0 zs.length zs.length 1 zs.toArray).toList := by
  unfold srtd Sort.insertionSort
  rw [outF_eq _ _ _ zs.length _ _ (by omega)]
/-- the nodes below k that have a zone, ascending -/
def un (h : Int → Bool) : Nat → Is
  | 0 => []
  | k + 1 => if h k = true then un h k ++ [(k : Int)] else un h k
theorem un_len (h : Int → Bool) : ∀ k, (un h k).length ≤ k
  | 0 => Nat.le_refl _
  | k + 1 => by
    have ih := un_len h k
    unfold un
    split
    · rw [List.length_append]; simp; omega
    · omega
theorem un_1 {h : Int → Bool} {k : Nat} (e : h k = true) : un h (k + 1) = un h k ++ [(k : Int)] := if_pos e
theorem un_0 {h : Int → Bool} {k : Nat} (e : h k = false) : un h (k + 1) = un h k := if_neg (by rw [e]; decide)
def nlB (h : Int → Bool) (n : Int) : Nat → Is
  | 0 => []
  | d + 1 => (nlB h n d ++ if h (n - d) then [n - d] else []) ++ if d ≠ 0 ∧ h (n + d) = true then [n + (d : Int)] else []
theorem nl_B (Z : List Zo) (n : Int) : ∀ d, nl Z n d = nlB (hs Z) n d
  | 0 => rfl
  | d + 1 => by unfold nl nlB; rw [nl_B Z n d]
/-- four answers as a function -/
def hb (b0 b1 b2 b3 : Bool) (z : Int) : Bool := if z = 0 then b0 else if z = 1 then b1 else if z = 2 then b2 else if z = 3 then b3 else false
theorem hs_hb {Z : List Zo} (h : chE Z = 0) : hs Z = hb (hs Z 0) (hs Z 1) (hs Z 2) (hs Z 3) := by
  funext z
  unfold hb
  split
  · rename_i e; rw [e]
  · split
    · rename_i e; rw [e]
    · split
      · rename_i e; rw [e]
      · split
        · rename_i e; rw [e]
        · refine hs_no fun k hk e => ?_
          have := ((chE_ok h).2 k hk).1
          omega
def zsb (b0 b1 b2 b3 : Bool) : List (Fin 4) := (if b0 then [0] else []) ++ (if b1 then [1] else []) ++ (if b2 then [2] else []) ++ (if b3 then [3] else [])
theorem un_hb : ∀ b0 b1 b2 b3, un (hb b0 b1 b2 b3) 4 = (zsb b0 b1 b2 b3).map fv := by decide +kernel
def cF (n : Int) (x y : Fin 4) : Int := cN n (fv x) (fv y)
theorem sorted_hb : ∀ b0 b1 b2 b3 : Bool, ∀ n : Fin 4, (outF (ltOf (cF (fv n))) 0 (zsb b0 b1 b2 b3).length (zsb b0 b1 b2 b3).length 1 (zsb b0 b1 b2 b3).toArray).toList.map fv = nlB (hb b0 b1 b2 b3) (fv n) 4 := by decide +kernel
/-- the sort of the nodes is the list ring by ring -/
theorem nodes_sorted {Z : List Zo} {n : Int} (h : chE Z = 0) (hn : 0 ≤ n ∧ n < 4) : ∃ zs : List (Fin 4), un (hs Z) 4 = zs.map fv ∧ zs.length < 20 ∧ (srtd (cF n) zs).map fv = nl Z n 4 := by
  refine ⟨zsb (hs Z 0) (hs Z 1) (hs Z 2) (hs Z 3), ?_, ?_, ?_⟩
  · have e := un_hb (hs Z 0) (hs Z 1) (hs Z 2) (hs Z 3)
    rw [← hs_hb h] at e
    exact e
  · generalize hs Z 0 = a
    generalize hs Z 1 = b
    generalize hs Z 2 = c
    generalize hs Z 3 = d
    revert a b c d
    decide +kernel
  · have e := sorted_hb (hs Z 0) (hs Z 1) (hs Z 2) (hs Z 3) ⟨n.toNat, by omega⟩
    have en : fv (m := 3) ⟨n.toNat, by omega⟩ = n := by show ((n.toNat : Nat) : Int) = n; omega
    rw [en, ← srtd_F, ← hs_hb h] at e
    rw [e, nl_B]
end Go.Proofs.Ytiopfeleaifpbaa.Bd
