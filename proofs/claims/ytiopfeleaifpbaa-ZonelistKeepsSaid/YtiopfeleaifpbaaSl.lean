import Derived.Test.YtiopfeleaifpbaaCm
namespace Go.Proofs.Ytiopfeleaifpbaa.Bd
open Go Go.RowKit Go.Sort Go.Lib
set_option linter.unusedVariables false
def fv {m : Nat} (x : Fin (m + 1)) : Int := (x.val : Nat)
def encF (m : Nat) : Fin (m + 1) → Value := fun x => .int .i64 (fv x)
theorem one_F (m : Nat) : OneCell (encF m) := fun x => rfl
theorem putCells_F {m : Nat} (off : Nat) (d : Array (Fin (m + 1))) (cs : Array Value) : putCells (encF m) off d cs = putCells (Value.int .i64) off (d.map fv) cs := by
  unfold putCells
  simp only [Array.size_map]
  apply Array.ext
  · simp
  · intro i h1 h2
    simp only [Array.getElem_mapIdx]
    split
    · rename_i h
      have hlt : i - off < d.size := by omega
      show encF m _ = Value.int .i64 _
      unfold encF
      congr 1
      rw [getElem!_pos d _ hlt, getElem!_pos (d.map fv) _ (by simpa using hlt), Array.getElem_map]
    · rfl
theorem putRow_F {m : Nat} (w : World) (blk off : Nat) (d : Array (Fin (m + 1))) : putRow (encF m) w blk off d = putRow (Value.int .i64) w blk off (d.map fv) := by
  unfold putRow
  congr 1
  funext cs
  exact putCells_F off d cs
theorem holds_F {m : Nat} {w : World} {blk off : Nat} {d : Array (Fin (m + 1))} (h : Holds (Value.int .i64) w blk off (d.map fv)) : Holds (encF m) w blk off d := by
  intro j hj
  have g := h j (by simpa using hj)
  refine ⟨g.1.trans ?_, g.2⟩
  unfold encF
  rw [getElem!_pos d _ hj, getElem!_pos (d.map fv) _ (by simpa using hj), Array.getElem_map]
/-- the list that the sort leaves -/
def srtd {m : Nat} (cf : Fin (m + 1) → Fin (m + 1) → Int) (zs : List (Fin (m + 1))) : List (Fin (m + 1)) := (Sort.insertionSort (ltOf cf) zs.toArray 0 zs.length).toList
theorem size_inner {α : Type} [Inhabited α] (lt : α → α → Bool) (a : Nat) : ∀ (j : Nat) (d : Array α), (insInner lt a j d).size = d.size
  | 0, d => rfl
  | j + 1, d => by
    unfold insInner
    split
    · rw [size_inner lt a j]; simp [swp]
    · rfl
theorem size_outer {α : Type} [Inhabited α] (lt : α → α → Bool) (a b : Nat) : ∀ (n i : Nat) (d : Array α), b - i ≤ n → (insOuter lt a b i d).size = d.size
  | 0, i, d, h => by unfold insOuter; rw [if_neg (by omega)]
  | n + 1, i, d, h => by
    unfold insOuter
    split
    · rw [size_outer lt a b n (i + 1) _ (by omega), size_inner]
    · rfl
theorem srtd_len {m : Nat} (cf : Fin (m + 1) → Fin (m + 1) → Int) (zs : List (Fin (m + 1))) : (srtd cf zs).length = zs.length := by
  unfold srtd Sort.insertionSort
  rw [Array.length_toList, size_outer _ _ _ _ _ _ (Nat.le_refl _)]
  simp
/-- what is asked of the comparator: it answers cf in every world in which the caller's own memory is as it was -/
def CmpF (m g : Nat) (cb : Array Value) (cf : Fin (m + 1) → Fin (m + 1) → Int) (B : Nat) (w : World) : Prop :=
  ∀ (W : World), Below B w W → ∀ x y : Fin (m + 1), Calls Try.prog g (#[.int .i64 (fv x), .int .i64 (fv y)] ++ cb) W fun e w' => e = .returned (.int .i64 (cf x y)) ∧ ∃ q, w' = W.drewN q
theorem sort_list {m : Nat} (cf : Fin (m + 1) → Fin (m + 1) → Int) (g : Nat) (cb : Array Value) (A : Option Addr) (cap B : Nat) (zs : List (Fin (m + 1))) (w : World) (O : OwI B w (.slice A (zs.map fv).length cap) (zs.map fv)) (hB : B ≤ w.heap.size)
    (eg : ∀ args w, (callFunc g args).run Try.prog w = .ok (.enter g args) w) (hc : CmpF m g cb cf B w) (h20 : zs.length < 20) :
    Calls Try.prog 27 #[.slice A (zs.map fv).length cap, .func (.func g) #[] cb] w fun e w' => e = .returned (.tuple #[]) ∧ OwI B w' (.slice A (zs.map fv).length cap) ((srtd cf zs).map fv) ∧ Below B w w' := by
  rcases Nat.eq_zero_or_pos zs.length with h0 | h0
  · have e0 : zs = [] := List.eq_nil_of_length_eq_zero h0
    subst e0
    refine (sort_none A cap g cb w).mono ?_
    rintro e w' ⟨rfl, rfl⟩
    exact ⟨rfl, by rw [show srtd cf [] = [] from List.eq_nil_of_length_eq_zero (srtd_len cf [])]; exact O, Below.refl _ _⟩
  · have O2 := O
    obtain ⟨_, ⟨_, hn0⟩ | ⟨gb, capb, cur, ev, hgb, hh, h1, h2, h3, h4⟩⟩ := O2
    · rw [List.length_map] at hn0; omega
    · cases ev
      have el : (zs.map fv).length = zs.toArray.size := by simp
      have am : (zs.toArray.map fv) = (zs.map fv).toArray := by simp
      have hH : Holds (encF m) w gb 0 zs.toArray := holds_F (by rw [am]; exact holds_of_blockI hh (by rw [Nat.mul_one] at h4; exact h4))
      have hgr : ∀ (n : Nat) (os : Array Obj) (d : Array Int), w.grownBy (grow (putRow (Value.int .i64) (Sort.ahead w n) gb 0 d) os) (Value.slice (some ⟨gb, 0, none⟩) (zs.map fv).length cap).ownBlock := fun n os d => grownBy_sortedI d
      have hcmp : CmpReads Try.prog g cb (encF m) cf gb 0 zs.toArray.size w := by
        intro mm os dk hdk x y
        refine hc _ ?_ x y
        unfold sortWorld
        rw [putRow_F]
        exact below_grown O (hgr mm os _) hB
      rw [el]
      refine (sort_any (encF m) (one_F m) cf g cb gb 0 cap zs.toArray w eg hcmp hH (by simpa using h20)).mono ?_
      rintro e w' ⟨rfl, n, rfl⟩
      rw [← sortWorld_none]
      unfold sortWorld
      rw [putRow_F]
      have et : (Sort.insertionSort (ltOf cf) zs.toArray 0 zs.toArray.size).map fv = ((srtd cf zs).map fv).toArray := by
        unfold srtd
        apply Array.ext'
        simp
      rw [et]
      refine ⟨rfl, ?_, below_grown O (hgr n #[] _) hB⟩
      rw [← el]
      have r := ownsRow_sortedI (w := w) (n := n) (os := #[]) (ss := zs.map fv) (ts := (srtd cf zs).map fv) (by simp [srtd_len]) hgb hh h1 h2 h3
      unfold OwI
      have e5 : ((srtd cf zs).map fv).length = (zs.map fv).length := by simp [srtd_len]
      rw [e5]
      exact r
end Go.Proofs.Ytiopfeleaifpbaa.Bd
