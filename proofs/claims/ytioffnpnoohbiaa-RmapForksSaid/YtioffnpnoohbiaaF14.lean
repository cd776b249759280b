import Derived.Shelf.SlSortCmp.NoneTotal
import Derived.Sort.OwnSortedInts
import Derived.Test.YtioffnpnoohbiaaSrt
import Derived.Test.YtioffnpnoohbiaaF13
namespace Go.Proofs.Ytioffnpnoohbiaa.Rm
open Go Go.RowKit Go.Sort
set_option linter.unusedVariables false
set_option linter.unusedSimpArgs false
theorem flat_mcs (L : List Mp) : flatK mC 2 L.toArray = (mcs L).toArray := by
  apply Array.ext
  · simp [mcs_length]
  · intro i h1 h2
    have hi : i < L.length * 2 := by simpa using h1
    have e : (flatK mC 2 L.toArray)[i]! = (mC L.toArray[i / 2]!)[i % 2]! := get_flatK mC 2 L.toArray i (by simpa using hi)
    have hk : i / 2 < L.length := by omega
    have e2 := mcs_at hk (i % 2) (by omega)
    rw [show i / 2 * 2 + i % 2 = i by omega] at e2
    have e3 : L.toArray[i / 2]! = at' L (i / 2) := by
      rw [at_get hk, getElem!_pos L.toArray (i / 2) (by simpa using hk)]; simp
    rw [getElem!_pos (flatK mC 2 L.toArray) i h1, e3] at e
    rw [e]
    have h3 : i < (mcs L).length := by rw [mcs_length]; exact hi
    rw [List.getElem?_eq_getElem h3] at e2
    have h4 : i % 2 < (mC (at' L (i / 2))).length := by rw [mC_len]; omega
    rw [List.getElem?_eq_getElem h4] at e2
    injection e2 with e2
    rw [getElem!_pos (mC (at' L (i / 2))) (i % 2) h4, ← e2]
    simp
theorem holds_blockM {w : World} {g : Nat} {cur : Array Value} {e : TypeId} {L : List Mp} (hb : w.heap[g]? = some (.cells cur e (0, 0))) (ht : cur.toList.take (L.length * 2) = mcs L) : HoldsK mC 2 w g 0 L.toArray := by
  unfold HoldsK
  rw [flat_mcs]
  intro j hj
  have hj' : j < (mcs L).length := by simpa using hj
  have hj2 : j < L.length * 2 := by rw [mcs_length] at hj'; exact hj'
  refine ⟨?_, by simp [World.frozen?, hb]⟩
  have h1 : (cur.toList.take (L.length * 2))[j]? = (mcs L)[j]? := by rw [ht]
  rw [List.getElem?_take_of_lt hj2] at h1
  simp only [World.cell?, hb, Nat.zero_add]
  simp only [Option.isSome_none, Bool.false_eq_true, if_false]
  rw [← Array.getElem?_toList, h1]
  simp [hj']
theorem heap_sortedM {w : World} {g n : Nat} {os : Array Obj} {cur : Array Value} {e : TypeId} {fr : Nat × Nat} (d : Array Value) (hb : w.heap[g]? = some (.cells cur e fr)) :
    (grow (putRow id (Sort.ahead w n) g 0 d) os).heap[g]? = some (.cells (putCells id 0 d cur) e fr) := by
  have hg : g < w.heap.size := (Array.getElem?_eq_some_iff.1 hb).1
  rw [heap_grow_old _ _ (by simpa using hg)]
  simp [putRow, mapBlock, Sort.ahead, Array.getElem?_modify, hb, onCells]
theorem grownBy_sortedM {w : World} {g n : Nat} {os : Array Obj} (d : Array Value) : w.grownBy (grow (putRow id (Sort.ahead w n) g 0 d) os) (some g) := by
  refine ⟨rfl, rfl, rfl, by simp, fun k hk hne => ?_⟩
  rw [heap_grow_old _ _ (by simpa using hk)]
  have : g ≠ k := fun e => hne (by rw [e])
  simp [putRow, mapBlock, Sort.ahead, Array.getElem?_modify, this]
theorem take_putCellsM (cur : Array Value) (ts : List Value) (h : ts.length ≤ cur.size) : (putCells id 0 ts.toArray cur).toList.take ts.length = ts := by
  apply List.ext_getElem?
  intro j
  by_cases hj : j < ts.length
  · rw [List.getElem?_take_of_lt hj, Array.getElem?_toList]
    simp [putCells, hj, show j < cur.size by omega]
  · rw [List.getElem?_take_eq_none (by omega), List.getElem?_eq_none (by omega)]

theorem lt_cm (a b : Mp) : ltOf cmM a b = decide (ltM a b) := by
  unfold ltOf
  exact decide_eq_decide.2 cmM_neg
theorem swoM : SWO (ltOf cmM) where
  irrefl x := by rw [lt_cm]; exact decide_eq_false (ltM_irr x)
  trans x y z h1 h2 := by rw [lt_cm] at *; exact decide_eq_true (ltM_tr (of_decide_eq_true h1) (of_decide_eq_true h2))
  ntrans x y z h1 h2 := by
    rw [lt_cm] at *
    have g1 := of_decide_eq_false h1
    have g2 := of_decide_eq_false h2
    refine decide_eq_false fun h => ?_
    rcases ltM_tri y z with c | c | c
    · exact g2 c
    · exact g1 (c ▸ h)
    · exact g1 (ltM_tr h c)
theorem totM (x y : Mp) (h1 : ltOf cmM x y = false) (h2 : ltOf cmM y x = false) : x = y := by
  rw [lt_cm] at h1 h2
  rcases ltM_tri x y with c | c | c
  · exact absurd c (of_decide_eq_false h1)
  · exact c
  · exact absurd c (of_decide_eq_false h2)
theorem cmpLays (blk off size : Nat) (w : World) : CmpLays Try.prog 30 #[] mC 2 cmM blk off size w :=
  fun m os dk _ x y => (cmpr_grow x.s x.p y.s y.p _).mono fun _ _ ⟨h, g⟩ => ⟨h, g⟩
/-- the sorted list of the members -/
def so (L : List Mp) : List Mp := L.mergeSort fun x y => !ltOf cmM y x
theorem so_perm (L : List Mp) : (so L).Perm L := List.mergeSort_perm _ _
theorem so_len (L : List Mp) : (so L).length = L.length := (so_perm L).length_eq
theorem so_srt {L : List Mp} (h : L.Nodup) : Srt (so L) := by
  have hs : (so L).Pairwise fun a b => (!ltOf cmM b a) = true := List.pairwise_mergeSort (fun a b c h1 h2 => by
      rw [lt_cm] at *
      simp only [Bool.not_eq_true', decide_eq_false_iff_not] at *
      intro g
      rcases ltM_tri a b with k | k | k
      · exact h2 (ltM_tr g k)
      · exact h2 (k ▸ g)
      · exact h1 k) (fun a b => by
      rw [lt_cm, lt_cm]
      by_cases g : ltM b a
      · have := ltM_as g; simp [this]
      · simp [g]) L
  have hn : (so L).Nodup := (so_perm L).nodup_iff.2 h
  refine (hs.and hn).imp ?_
  rintro a b ⟨h1, h2⟩
  rw [lt_cm] at h1
  simp only [Bool.not_eq_true', decide_eq_false_iff_not] at h1
  rcases ltM_tri a b with k | k | k
  · exact k
  · exact absurd k h2
  · exact absurd k h1
theorem srt_own (B : Nat) (A : Option Addr) (c : Nat) (L : List Mp) (w : World) (ho : OwM B w (.slice A L.length c) L) (hB : B ≤ w.heap.size) (hn : L.length ≤ 1000000) :
    Calls Try.prog 34 #[.slice A L.length c, .func (.func 30) #[] #[]] w fun e w' => e = .returned (.tuple #[]) ∧ OwM B w' (.slice A (so L).length c) (so L) ∧ Below B w w' := by
  obtain ⟨hl, ⟨e, h0⟩ | ⟨g, cap, cur, e, hg, hh, h4, h5, h6, ht⟩⟩ := ho
  · have hL : L = [] := List.eq_nil_of_length_eq_zero h0
    subst hL
    injection e with e1 _ e2
    subst e1 e2
    refine (AnyF.slices_SortFunc_none Try.sortM none 0 (.func (.func 30) #[] #[]) w).mono ?_
    rintro e w' ⟨rfl, rfl⟩
    have e0 : so [] = [] := by simp [so]
    rw [e0]
    exact ⟨rfl, owm_nil _ _, Below.refl _ _⟩
  · injection e with e1 _ e2
    subst e1 e2
    have hS := AnyQ.slices_SortFunc_total Try.sortM 2 Try.isAgg26 Try.sizeOf26 mC (fun _ => rfl) (fun x v hv => mC_one x v hv) cmM swoM 30 #[] g 0 c L.toArray w enters30 (cmpLays g 0 _ w) (holds_blockM hh ht) (blk_lt hh) (by simp; omega) totM
    rw [List.size_toArray] at hS
    refine hS.mono ?_
    rintro e w' ⟨rfl, n, os, rfl⟩
    have hE : sortWorldK mC 2 w g 0 n (L.toArray.toList.mergeSort fun x y => !ltOf cmM y x).toArray os = grow (putRow id (Sort.ahead w n) g 0 (mcs (so L)).toArray) os := by
      rw [List.toList_toArray]
      unfold sortWorldK putRowK
      rw [show (L.mergeSort fun x y => !ltOf cmM y x) = so L from rfl, flat_mcs]
    rw [hE]
    refine ⟨rfl, ⟨?_, .inr ⟨g, c, _, rfl, hg, heap_sortedM _ hh, ?_, h5, by simp [putCells, h6], ?_⟩⟩, grown_below (grownBy_sortedM _) hg hB⟩
    · rw [mcs_length]
    · rw [so_len]; exact h4
    · rw [← mcs_length]; exact take_putCellsM cur _ (by rw [mcs_length, so_len]; omega)
end Go.Proofs.Ytioffnpnoohbiaa.Rm
