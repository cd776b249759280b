import Derived.Test.YtflplldamefhoaaFn1
import Derived.Test.YtflplldamefhoaaShelf
import Derived.Sort.OwnSortedInts
namespace Go.Proofs.Ytflplldamefhoaa.Bd
open Go Go.RowKit Go.Lib
set_option linter.unusedVariables false
-- PLACES IN A SORTED LIST
def pos (l : Is) (f : Int) : Nat := l.countP (· < f)
theorem pos_lt {a f : Int} {l : Is} (h : a < f) : pos (a :: l) f = pos l f + 1 := by unfold pos; rw [List.countP_cons_of_pos (by simpa using h)]
theorem pos_ge {a f : Int} {l : Is} (hs : Srt (a :: l)) (h : f ≤ a) : pos (a :: l) f = 0 := by
  unfold pos
  rw [List.countP_eq_zero]
  intro b hb
  have : a ≤ b := by
    rcases List.mem_cons.1 hb with rfl | hb
    · exact Int.le_refl _
    · have := (List.pairwise_cons.1 hs).1 b hb; omega
  simp; omega
theorem pos_le (l : Is) (f : Int) : pos l f ≤ l.length := List.countP_le_length
theorem del_eq {f : Int} : ∀ {l : Is}, Srt l → f ∈ l → pos l f < l.length ∧ l.take (pos l f) ++ l.drop (pos l f + 1) = l.filter (· ≠ f)
  | [], _, h => by cases h
  | a :: l, hs, h => by
    have hs' := List.pairwise_cons.1 hs
    by_cases e : a < f
    · have hm : f ∈ l := by
        rcases List.mem_cons.1 h with e2 | e2
        · omega
        · exact e2
      obtain ⟨h1, h2⟩ := del_eq hs'.2 hm
      rw [pos_lt e]
      refine ⟨by simpa using h1, ?_⟩
      rw [List.take_succ_cons, List.drop_succ_cons, List.filter_cons_of_pos (by simp; omega), ← h2]; rfl
    · have e2 : a = f := by
        rcases List.mem_cons.1 h with e2 | e2
        · exact e2.symm
        · have := hs'.1 f e2; omega
      rw [pos_ge hs (by omega)]
      refine ⟨by simp, ?_⟩
      rw [List.filter_cons_of_neg (by simp [e2]), List.filter_eq_self.2]
      · simp
      · intro b hb
        have := hs'.1 b hb
        simp; omega
def ins (l : Is) (f : Int) : Is := l.take (pos l f) ++ f :: l.drop (pos l f)
theorem ins_mem {l : Is} {f g : Int} : g ∈ ins l f ↔ g ∈ l ∨ g = f := by
  unfold ins
  rw [List.mem_append, List.mem_cons]
  have e : g ∈ l ↔ g ∈ l.take (pos l f) ∨ g ∈ l.drop (pos l f) := by
    rw [← List.mem_append, List.take_append_drop]
  rw [e]
  constructor
  · rintro (h | h | h)
    · exact .inl (.inl h)
    · exact .inr h
    · exact .inl (.inr h)
  · rintro ((h | h) | h)
    · exact .inl h
    · exact .inr (.inr h)
    · exact .inr (.inl h)
theorem ins_len (l : Is) (f : Int) : (ins l f).length = l.length + 1 := by
  have := pos_le l f
  unfold ins; rw [List.length_append, List.length_cons, List.length_take, List.length_drop]; omega
theorem ins_srt {f : Int} : ∀ {l : Is}, Srt l → f ∉ l → Srt (ins l f)
  | [], _, _ => by unfold ins Srt; simp
  | a :: l, hs, h => by
    have hs' := List.pairwise_cons.1 hs
    by_cases e : a < f
    · have ih := ins_srt hs'.2 (fun hm => h (List.mem_cons_of_mem _ hm))
      unfold ins at ih ⊢
      rw [pos_lt e, List.take_succ_cons, List.drop_succ_cons]
      refine List.pairwise_cons.2 ⟨fun b hb => ?_, ih⟩
      rcases (@ins_mem l f b).1 hb with h1 | h1
      · exact hs'.1 b h1
      · omega
    · have h1 : f ≠ a := fun x => h (by simp [x])
      have e0 := pos_ge hs (show f ≤ a by omega)
      unfold ins
      rw [e0, List.take_zero, List.drop_zero, List.nil_append]
      refine List.pairwise_cons.2 ⟨fun b hb => ?_, hs⟩
      rcases List.mem_cons.1 hb with rfl | hb
      · omega
      · have := hs'.1 b hb; omega
theorem fil_srt {l : Is} (h : Srt l) (f : Int) : Srt (l.filter (· ≠ f)) := List.Pairwise.filter _ h
theorem fil_mem {l : Is} {f g : Int} : g ∈ l.filter (· ≠ f) ↔ g ∈ l ∧ g ≠ f := by simp
theorem fil_no {l : Is} {f : Int} (h : f ∉ l) : l.filter (· ≠ f) = l := List.filter_eq_self.2 fun b hb => by simp; rintro rfl; exact h hb
theorem srt_le {l : Is} (h : Srt l) : l.Pairwise (· ≤ ·) := h.imp fun h => by omega
-- BINARY SEARCH
theorem bs_any {w : World} {v : Value} {l : Is} (f : Int) (h : IsI w v l) (hs : Srt l) (hn : l.length ≤ 1000000) :
    Calls Try.prog 66 #[v, .int .i64 f] w fun e w' => e = .returned (.tuple #[.int .i64 (pos l f : Nat), .bool (decide (f ∈ l))]) ∧ Below w.heap.size w w' := by
  obtain ⟨A, c, rfl, hc, hb⟩ := h
  rcases l with _ | ⟨a, l⟩
  · refine (Try.slices_BinarySearch_int_empty A c f w).mono fun e w' ⟨h1, h2⟩ => ?_
    subst h2
    exact ⟨by rw [h1]; rfl, brefl _⟩
  · obtain ⟨b, off, rfl, hlt, hcell⟩ := hb (by simp)
    refine (Try.slices_BinarySearch_int b off (a :: l).length c (a :: l) f w (Nat.le_refl _) (by omega) hcell (by rw [List.take_length]; exact srt_le hs)).mono fun e w' ⟨h1, q, h2⟩ => ?_
    subst h2
    refine ⟨?_, below_drewN (brefl _) _⟩
    rw [h1, List.take_length]
    have : (a :: l).contains f = decide (f ∈ a :: l) := by rw [Bool.eq_iff_iff]; simp
    rw [this]; rfl
-- DELETE
theorem del_any {B : Nat} {w : World} {v : Value} {l : Is} (h : OwI B w v l) (i : Nat) (hi : i < l.length) (hn : l.length ≤ 1000000) :
    Calls Try.prog 67 #[v, .int .i64 i, .int .i64 ((i : Int) + 1)] w fun e w' => ∃ u, e = .returned u ∧ OwI B w' u (l.take i ++ l.drop (i + 1)) ∧ u.ownBlock = v.ownBlock ∧ w.grownBy w' v.ownBlock := by
  obtain ⟨hl, ⟨_, h0⟩ | ⟨g, cap, cur, rfl, hg, hh, h4, h5, h6, ht⟩⟩ := h
  · omega
  · rw [Nat.mul_one] at ht
    have hH := holds_of_blockI hh ht
    unfold maxLen at h5
    have hc := Try.slices_Delete_int g 0 cap i (i + 1) l w hH h4 (by omega) (by omega) (by omega)
    refine hc.mono fun e w' ⟨h1, q, h2⟩ => ?_
    have hd : (l.take i ++ l.drop (i + 1)).length = l.length - 1 := by rw [List.length_append, List.length_take, List.length_drop]; omega
    obtain ⟨ts, hts⟩ : ∃ ts, ts = l.take i ++ l.drop (i + 1) ++ List.replicate (i + 1 - i) 0 := ⟨_, rfl⟩
    have htl : ts.length = l.length := by rw [hts, List.length_append, hd, List.length_replicate]; omega
    rw [← hts] at h2
    have hg2 := grownBy_sortedI (w := w) (g := g) (n := q) (os := #[]) ts.toArray
    have hh2 := heap_sortedI (w := w) (g := g) (n := q) (os := #[]) ts.toArray hh
    rw [Sort.grow_empty] at hg2 hh2
    rw [← h2] at hg2 hh2
    refine ⟨_, h1, ?_, rfl, hg2⟩
    have e1 : l.length - (i + 1 - i) = (l.take i ++ l.drop (i + 1)).length := by omega
    rw [e1]
    refine ⟨by simp, .inr ⟨g, cap, _, rfl, hg, hh2, by omega, h5, by simp [Sort.putCells, h6], ?_⟩⟩
    have tk := take_putCellsI cur ts (by omega)
    have : (Sort.putCells (Value.int .i64) 0 ts.toArray cur).toList.take (l.take i ++ l.drop (i + 1)).length = ((Sort.putCells (Value.int .i64) 0 ts.toArray cur).toList.take ts.length).take (l.take i ++ l.drop (i + 1)).length := by rw [List.take_take, Nat.min_eq_left (by omega)]
    rw [Nat.mul_one, this, tk, ← List.map_take, hts, List.take_left' rfl]
    rfl
-- CLONE
theorem clo_any {w : World} {v : Value} {l : Is} (h : IsI w v l) (hn : l.length ≤ 1000000) :
    Calls Try.prog 63 #[v] w fun e w' => ∃ u, e = .returned u ∧ OwI w.heap.size w' u l ∧ Below w.heap.size w w' := by
  obtain ⟨A, c, rfl, hc, hb⟩ := h
  rcases A with _ | A
  · have hl : l = [] := by
      rcases l with _ | ⟨a, l⟩
      · rfl
      · obtain ⟨b, off, e, _⟩ := hb (by simp); cases e
    subst hl
    refine (Try.slices_Clone_int_nil 0 c w).mono fun e w' ⟨h1, h2⟩ => ?_
    subst h2
    exact ⟨_, h1, ⟨rfl, .inl ⟨rfl, rfl⟩⟩, brefl _⟩
  · rcases l with _ | ⟨a, l⟩
    · refine (Try.slices_Clone_int_zero A c w).mono fun e w' ⟨u, h1, h2, _, h3⟩ => ⟨u, h1, h2, h3⟩
    · obtain ⟨b, off, e, hlt, hcell⟩ := hb (by simp)
      cases e
      refine (Try.slices_Clone_int b off (a :: l).length c (a :: l) w (Nat.le_refl _) (by omega) hcell).mono fun e w' ⟨u, h1, h2, _, h3⟩ => ⟨u, h1, ?_, h3⟩
      rw [List.take_length] at h2
      exact h2
-- INSERT
theorem setCells_heap (g : Nat) (t : TypeId) : ∀ (vs : List Value) (o : Nat) (cur : Array Value) (w : World), w.heap[g]? = some (.cells cur t (0, 0)) → o + vs.length ≤ cur.size →
    ∃ cur' : Array Value, (w.setCells g o vs).heap[g]? = some (.cells cur' t (0, 0)) ∧ cur'.toList = cur.toList.take o ++ vs ++ cur.toList.drop (o + vs.length)
  | [], o, cur, w, h, _ => ⟨cur, h, by simp⟩
  | v :: r, o, cur, w, h, hl => by
    have h1 := heap_setCell_same w g o cur t v h
    obtain ⟨cur', h2, h3⟩ := setCells_heap g t r (o + 1) (cur.setIfInBounds o v) (w.setCell ⟨g, o, none⟩ v) h1 (by simp at hl ⊢; omega)
    refine ⟨cur', h2, ?_⟩
    simp only [List.length_cons] at hl
    have ho : o < cur.toList.length := by simp; omega
    rw [h3, Array.toList_setIfInBounds, List.drop_set_of_lt (by omega), show o + 1 + r.length = o + (v :: r).length by simp; omega, List.take_set, List.take_succ_eq_append_getElem ho]
    rw [List.set_append_right _ _ (by simp; omega)]
    have : o - (cur.toList.take o).length = 0 := by simp; omega
    rw [this]
    simp
theorem setCells_other (g : Nat) : ∀ (vs : List Value) (o : Nat) (w : World) (k : Nat), k ≠ g → (w.setCells g o vs).heap[k]? = w.heap[k]?
  | [], o, w, k, _ => rfl
  | v :: r, o, w, k, h => by
    show ((w.setCell ⟨g, o, none⟩ v).setCells g (o + 1) r).heap[k]? = _
    rw [setCells_other g r (o + 1) _ k h, heap_setCell_other w ⟨g, o, none⟩ k v h]
theorem setCells_size (g : Nat) : ∀ (vs : List Value) (o : Nat) (w : World), (w.setCells g o vs).heap.size = w.heap.size ∧ (w.setCells g o vs).os = w.os ∧ (w.setCells g o vs).tape = w.tape ∧ (w.setCells g o vs).output = w.output
  | [], o, w => ⟨rfl, rfl, rfl, rfl⟩
  | v :: r, o, w => by
    have ih := setCells_size g r (o + 1) (w.setCell ⟨g, o, none⟩ v)
    have e : (w.setCell ⟨g, o, none⟩ v).heap.size = w.heap.size := by simp [World.setCell]
    exact ⟨ih.1.trans e, ih.2.1, ih.2.2.1, ih.2.2.2⟩
theorem setCells_grown (g : Nat) (vs : List Value) (o : Nat) (w : World) : w.grownBy (w.setCells g o vs) (some g) := by
  obtain ⟨h1, h2, h3, h4⟩ := setCells_size g vs o w
  exact ⟨h2, h3, h4, by omega, fun k hk hne => setCells_other g vs o w k (fun e => hne (by rw [e]))⟩
theorem grown_trans {w1 w2 w3 : World} {r : Option Nat} (h : w1.grownBy w2 r) (h2 : w2.grownBy w3 r) : w1.grownBy w3 r :=
  ⟨h2.os.trans h.os, h2.tape.trans h.tape, h2.output.trans h.output, Nat.le_trans h.size h2.size, fun k hk hne => (h2.block k (Nat.lt_of_lt_of_le hk h.size) hne).trans (h.block k hk hne)⟩
theorem grown_drew (w : World) (r : Option Nat) : w.grownBy w.drew r := ⟨rfl, rfl, rfl, Nat.le_refl _, fun _ _ _ => rfl⟩
theorem grown_alloc (w : World) (o : Obj) (r : Option Nat) : w.grownBy (w.alloc o) r := ⟨rfl, rfl, rfl, by simp, fun k hk _ => by simp only [World.alloc]; rw [Array.getElem?_push_lt hk, Array.getElem?_eq_getElem hk]⟩
/-- cells put into a block that is new: what is older stays -/
theorem grown_new {w w1 : World} (r : Option Nat) (h : w.grownBy w1 r) (g o : Nat) (vs : List Value) (hg : w.heap.size ≤ g) : w.grownBy (w1.setCells g o vs) r := by
  obtain ⟨h1, h2, h3, h4⟩ := setCells_size g vs o w1
  exact ⟨h2.trans h.os, h3.trans h.tape, h4.trans h.output, by have := h.size; omega, fun k hk hne => (setCells_other g vs o w1 k (by omega)).trans (h.block k hk hne)⟩
theorem add_pt (b off k : Nat) : (⟨b, off, none⟩ : Addr).add k = ⟨b, off + k, none⟩ := by simp [Addr.add]
theorem one_ic {l : Is} : ∀ v ∈ l.map ic, v.oneCell' = true := by
  intro v hv
  obtain ⟨z, _, rfl⟩ := List.mem_map.1 hv
  rfl
theorem shape_of {w : World} {g : Nat} {t : TypeId} {cs : Array Value} (h : Box w g t cs) : w.shape? g = some (t, cs.size) := by
  unfold Box at h
  simp [World.shape?, h]
theorem cs1 : (Value.int IntKind.i64 0).cells.size = 1 := rfl
theorem len_put (l : Is) (f : Int) {i : Nat} (hi : i ≤ l.length) : (l.take i ++ f :: l.drop i).length = l.length + 1 := by
  rw [List.length_append, List.length_cons, List.length_take, List.length_drop]; omega
set_option maxHeartbeats 1000000 in
theorem inr_any {B : Nat} {w : World} {v : Value} {l : Is} (h : OwI B w v l) (nb : Nat) (f : Int) (hX : Box w nb 3 #[.int .i64 f]) (hne : v.ownBlock ≠ some nb) (i : Nat) (hi : i ≤ l.length) (hn : l.length ≤ 1000000) (hB : B ≤ w.heap.size) :
    Calls Try.prog 68 #[v, .int .i64 i, .slice (some ⟨nb, 0, none⟩) 1 1] w fun e w' => ∃ u, e = .returned u ∧ OwI B w' u (l.take i ++ f :: l.drop i) ∧ w.grownBy w' v.ownBlock ∧ (u.ownBlock = v.ownBlock ∨ u.ownBlock = some w.heap.size) := by
  have hvs : ∀ j u, [Value.int .i64 f][j]? = some u → w.cell? ⟨nb, 0 + j, none⟩ = some u := fun j u hj => by
    rw [Nat.zero_add, hX.cell]; simpa using hj
  have h1v : ∀ u ∈ [Value.int .i64 f], u.oneCell' = true := fun u hu => by rw [List.mem_singleton.1 hu]; rfl
  have hml : (l.map ic).length = l.length := List.length_map ..
  have ln := len_put l f hi
  have hmap : (l.take i ++ f :: l.drop i).map ic = (l.map ic).take i ++ .int .i64 f :: (l.map ic).drop i := by
    rw [List.map_append, List.map_cons, List.map_take, List.map_drop]; rfl
  by_cases hend : i = l.length
  · subst hend
    have hmap2 : (l.take l.length ++ f :: l.drop l.length).map ic = l.map ic ++ [.int .i64 f] := by rw [hmap, ← hml, List.take_length, List.drop_length]
    obtain ⟨hl, ⟨rfl, h0⟩ | ⟨g, cap, cur, rfl, hg, hh, h4, h5, h6, ht⟩⟩ := h
    · have hl0 : l = [] := List.eq_nil_of_length_eq_zero h0
      subst hl0
      refine (Any2.slices_Insert_int_end_grow Try.laysNm221 none 0 0 nb 0 1 1 [] [.int .i64 f] w (by omega) (by omega) (by omega) (by omega) rfl rfl (fun _ => rfl) (fun a h => by cases h) hvs h1v).mono fun e w' ⟨h1, h2⟩ => ?_
      have gc := grownCap_ge w (0 + 1) 0 3
      have gm := grownCap_le_maxLen w (0 + 1) 0 3 (by unfold maxLen; omega)
      have e9 : Try.laysNm221_ren.t 3 = 3 := rfl
      rw [e9] at h1 h2
      generalize grownCap w (0 + 1) 0 3 = G at *
      refine ⟨_, h1, ?_, ?_, .inr rfl⟩
      · subst h2
        refine ⟨by simp, .inr ⟨w.heap.size, _, _, rfl, hB, heap_alloc_new w.drew _, gc, gm, ?_, ?_⟩⟩
        · simp [Builtin.zeroCells, cs1]; omega
        · simp [ic]
      · subst h2; exact grown_trans (grown_drew w _) (grown_alloc _ _ _)
    · rw [Nat.mul_one] at ht
      have hcs : ∀ j u, (l.map ic)[j]? = some u → w.cell? ⟨g, j, none⟩ = some u := fun j u hj => by
        rw [← ht, List.getElem?_take] at hj
        split at hj
        · rw [cell_of_row w g _ cur 3 (0, 0) hh]; simpa using hj
        · cases hj
      unfold maxLen at h5
      by_cases hroom : l.length + 1 ≤ cap
      · refine (Any2.slices_Insert_int_end_room Try.laysNm221 g 0 l.length cap nb 0 1 1 [.int .i64 f] w (by omega) hroom h5 rfl (fun j hj => ?_) (fun j hj => by simp [World.frozen?, hh]) hvs h1v).mono fun e w' ⟨h1, h2⟩ => ?_
        · rw [cell_of_row w g _ cur 3 (0, 0) hh]; simp; omega
        · obtain ⟨cur', hb', ht'⟩ := setCells_heap g 3 [.int .i64 f] (0 + l.length) cur w hh (by simp; omega)
          refine ⟨_, h1, ?_, by subst h2; exact setCells_grown _ _ _ _, .inl rfl⟩
          subst h2
          rw [← ln]
          have hsz : cur'.toList.length = cap * 1 := by
            rw [ht']; simp only [List.length_append, List.length_take, List.length_drop, List.length_cons, List.length_nil, Array.length_toList]; omega
          refine ⟨by simp, .inr ⟨g, cap, cur', rfl, hg, hb', by omega, h5, by simpa using hsz, ?_⟩⟩
          rw [Nat.mul_one, hmap2, ht', Nat.zero_add, ht, ln]
          exact List.take_left' (by simp)
      · refine (Any2.slices_Insert_int_end_grow Try.laysNm221 (some ⟨g, 0, none⟩) l.length cap nb 0 1 1 (l.map ic) [.int .i64 f] w (by omega) h4 (by omega) (by omega) hml rfl (fun h => by cases h) (fun a h j u hj => by injection h with h; subst h; rw [add_pt, Nat.zero_add]; exact hcs j u hj) hvs h1v).mono fun e w' ⟨h1, h2⟩ => ?_
        have gc := grownCap_ge w (l.length + 1) cap 3
        have gm := grownCap_le_maxLen w (l.length + 1) cap 3 (by unfold maxLen; omega)
        have e9 : Try.laysNm221_ren.t 3 = 3 := rfl
        rw [e9] at h1 h2
        generalize grownCap w (l.length + 1) cap 3 = G at *
        refine ⟨_, h1, ?_, ?_, .inr rfl⟩
        · subst h2
          rw [← ln] at gc ⊢
          refine ⟨by simp, .inr ⟨w.heap.size, _, _, rfl, hB, heap_alloc_new w.drew _, gc, gm, ?_, ?_⟩⟩
          · rw [ln] at gc ⊢
            simp [Builtin.zeroCells, cs1]
            omega
          · rw [hmap2, Nat.mul_one, ln]
            simp only [Array.toList_append]
            exact List.take_left' (by simp)
        · subst h2; exact grown_trans (grown_drew w _) (grown_alloc _ _ _)
  · have hlt : i < l.length := by omega
    obtain ⟨hl, ⟨_, h0⟩ | ⟨g, cap, cur, rfl, hg, hh, h4, h5, h6, ht⟩⟩ := h
    · omega
    rw [Nat.mul_one] at ht
    have hcs : ∀ j u, (l.map ic)[j]? = some u → w.cell? ⟨g, j, none⟩ = some u := fun j u hj => by
      rw [← ht, List.getElem?_take] at hj
      split at hj
      · rw [cell_of_row w g _ cur 3 (0, 0) hh]; simpa using hj
      · cases hj
    have hcs0 : ∀ j u, (l.map ic)[j]? = some u → w.cell? ⟨g, 0 + j, none⟩ = some u := fun j u hj => by rw [Nat.zero_add]; exact hcs j u hj
    unfold maxLen at h5
    have hnb : nb ≠ g := fun e => hne (by rw [e]; rfl)
    have hdl : ((l.map ic).drop i).length = l.length - i := by rw [List.length_drop, hml]
    by_cases hroom : l.length + 1 ≤ cap
    · refine (Any2.slices_Insert_int_shift Try.laysNm221 g 0 l.length cap i nb 0 1 1 (l.map ic) [.int .i64 f] w hlt (by omega) hroom h5 hnb hml rfl hcs0 (fun j hj => ?_) (fun j hj => by simp [World.frozen?, hh]) hvs one_ic h1v 3 3 1 cur.size (shape_of hX) (shape_of hh) (by omega) (hX.frozen 0) (hX.frozen 1)).mono fun e w' ⟨h1, h2⟩ => ?_
      · rw [cell_of_row w g _ cur 3 (0, 0) hh]; simp; omega
      · obtain ⟨c1, hb1, ht1⟩ := setCells_heap g 3 ((l.map ic).drop i) (0 + (i + 1)) cur w.drew hh (by rw [hdl]; omega)
        have hs1 : c1.toList.length = cap * 1 := by
          rw [ht1]; simp only [List.length_append, List.length_take, List.length_drop, Array.length_toList, hml]; omega
        have hz1 : c1.size = cap * 1 := by simpa using hs1
        obtain ⟨c2, hb2, ht2⟩ := setCells_heap g 3 [.int .i64 f] (0 + i) c1 _ hb1 (by rw [List.length_singleton]; omega)
        refine ⟨_, h1, ?_, by subst h2; exact grown_trans (grown_trans (grown_drew w _) (setCells_grown _ _ _ _)) (setCells_grown _ _ _ _), .inl rfl⟩
        subst h2
        rw [← ln]
        have hs2 : c2.toList.length = cap * 1 := by
          rw [ht2]; simp only [List.length_append, List.length_take, List.length_drop, List.length_cons, List.length_nil, hs1]; omega
        refine ⟨by simp, .inr ⟨g, cap, c2, rfl, hg, hb2, by omega, h5, by simpa using hs2, ?_⟩⟩
        rw [Nat.mul_one, hmap, ht2, ln, Nat.zero_add]
        have e1 : c1.toList.take i = (l.map ic).take i := by
          rw [ht1, Nat.zero_add, List.append_assoc, List.take_append_of_le_length (by simp; omega), List.take_take, Nat.min_eq_left (by omega), ← ht, List.take_take, Nat.min_eq_left (by omega)]
        have e2 : (c1.toList.drop (i + 1)).take (l.length - i) = (l.map ic).drop i := by
          rw [ht1, Nat.zero_add, List.append_assoc, List.drop_left' (by simp; omega), List.take_left' hdl]
        rw [e1, List.append_assoc, List.take_append, List.take_of_length_le (by simp; omega)]
        congr 1
        have e3 : l.length + 1 - ((l.map ic).take i).length = (l.length - i) + 1 := by rw [List.length_take, hml]; omega
        rw [e3, List.singleton_append, List.take_succ_cons]
        congr 1
    · refine (Any2.slices_Insert_int_grow Try.laysNm221 g 0 l.length cap i nb 0 1 1 (l.map ic) [.int .i64 f] w hlt (by omega) h4 (by omega) (by omega) hml rfl hcs0 hvs one_ic h1v).mono fun e w' ⟨h1, h2⟩ => ?_
      have gc := grownCap_ge w (l.length + 1) cap 3
      have gm := grownCap_le_maxLen w (l.length + 1) cap 3 (by unfold maxLen; omega)
      have e9 : Try.laysNm221_ren.t 3 = 3 := rfl
      rw [e9] at h1 h2
      generalize grownCap w (l.length + 1) cap 3 = G at *
      obtain ⟨R0, hR0⟩ : ∃ R0, R0 = ((l.map ic).take i).toArray ++ Builtin.zeroCells (Value.int .i64 0).cells (l.length + 1 - i) ++ Builtin.zeroCells (Value.int .i64 0).cells (G - (l.length + 1)) := ⟨_, rfl⟩
      have hR0s : R0.size = G := by
        rw [hR0]; simp [Builtin.zeroCells, cs1]; omega
      rw [← hR0] at h2
      have hb0 : ((w.alloc (.cells R0 3)).drew).heap[w.heap.size]? = some (.cells R0 3 (0, 0)) := heap_alloc_new w _
      obtain ⟨c1, hb1, ht1⟩ := setCells_heap w.heap.size 3 [.int .i64 f] i R0 _ hb0 (by simp; omega)
      have hs1 : c1.toList.length = G := by
        rw [ht1]; simp only [List.length_append, List.length_take, List.length_drop, List.length_cons, List.length_nil, Array.length_toList, hR0s]; omega
      have hz1 : c1.size = G := by simpa using hs1
      obtain ⟨c2, hb2, ht2⟩ := setCells_heap w.heap.size 3 ((l.map ic).drop i) (i + 1) c1 (((w.alloc (.cells R0 3)).drew.setCells w.heap.size i [.int .i64 f]).drew) hb1 (by rw [hdl]; omega)
      refine ⟨_, h1, ?_, ?_, .inr rfl⟩
      · subst h2
        rw [← ln] at gc ⊢
        have hs2 : c2.toList.length = G := by
          rw [ht2]; simp only [List.length_append, List.length_take, List.length_drop, hs1, hml]; omega
        refine ⟨by simp, .inr ⟨w.heap.size, G, c2, rfl, hB, hb2, gc, gm, by simpa using hs2, ?_⟩⟩
        rw [Nat.mul_one, hmap, ht2, ln]
        have e1 : c1.toList.take (i + 1) = (l.map ic).take i ++ [.int .i64 f] := by
          rw [ht1]
          have : R0.toList.take i = (l.map ic).take i := by
            rw [hR0]; simp only [Array.toList_append, List.append_assoc]
            exact List.take_left' (by simp; omega)
          rw [this]
          exact List.take_left' (by simp; omega)
        rw [e1]
        have e4 : (l.map ic).take i ++ [Value.int .i64 f] ++ (l.map ic).drop i = (l.map ic).take i ++ .int .i64 f :: (l.map ic).drop i := by simp
        rw [e4]
        exact List.take_left' (by simp; omega)
      · subst h2
        exact grown_new _ (grown_trans (grown_new _ (grown_trans (grown_alloc w _ _) (grown_drew _ _)) _ _ _ (Nat.le_refl _)) (grown_drew _ _)) _ _ _ (Nat.le_refl _)
end Go.Proofs.Ytflplldamefhoaa.Bd
