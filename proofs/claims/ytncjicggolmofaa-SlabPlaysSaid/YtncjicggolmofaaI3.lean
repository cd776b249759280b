import Derived.Test.YtncjicggolmofaaI2
namespace Go.Proofs.Ytncjicggolmofaa.Sb
open Go Go.RowKit Go.Lib
set_option linter.unusedVariables false
set_option maxHeartbeats 1000000 in
set_option maxRecDepth 100000 in
theorem insert_grow (g n c nb i : Nat) (xs : List Value) (cur : Array Value) (z : Int) (u : Value) (w : World) (hX : Box w nb 52 #[.int .i64 z, u]) (hG : Box w g 52 cur) (hi : i < n) (hnc : n ≤ c) (hroom : c < n + 1) (hn : n ≤ 1000)
    (ht : cur.toList.take (n * 2) = xs) (hxl : xs.length = n * 2) (h1 : ∀ v ∈ xs, v.oneCell' = true) (hu : u.oneCell' = true) :
    Calls Try.prog 45 #[.slice (some ⟨g, 0, none⟩) n c, .int .i64 i, .slice (some ⟨nb, 0, none⟩) 1 1] w fun e w' => ∃ G, e = .returned (.slice (some ⟨w.heap.size, 0, none⟩) (n + 1) G) ∧ n + 1 ≤ G ∧ G ≤ maxLen ∧ ∃ cur', Box w' w.heap.size 52 cur' ∧ cur'.size = G * 2 ∧ cur'.toList.take ((n + 1) * 2) = xs.take (i * 2) ++ [.int .i64 z, u] ++ xs.drop (i * 2) ∧ w.grownBy w' none := by
  obtain ⟨i0, hi0, hz0, hz1, hz2'⟩ := info_parts info52
  have hz2 : ((i : Int) == (n : Int)) = false := by simp; omega
  have hz3 : (c : Int) < (n : Int) + 1 := by omega
  have hsz : (Try.prog.info? 52).map (·.size) = some 2 := by kernel_rfl
  have hgw := hG.lt
  have hnw := hX.lt
  have hik : i + (n + 1 - i) = n + 1 := by omega
  have hkk : (n : Int) + 1 - (i : Int) = ((n + 1 - i : Nat) : Int) := by omega
  have hold : (Builtin.firstCells i0.size i (.slice (some ⟨g, 0, none⟩) i c)).run Try.prog w.drew = .ok (xs.take (i * 2)).toArray w.drew := by
    rw [hz1]
    exact run_firstCells_some w.drew 2 i ⟨g, 0, none⟩ i c (xs.take (i * 2)) (by rw [List.length_take]; omega) (fun j v hj => by
      rw [add_pt, Nat.zero_add]
      rw [List.getElem?_take] at hj
      split at hj
      · exact (hG.cell _).trans (xs_at ht hj)
      · cases hj)
  have hrz : ∀ ty, (Builtin.append_ #[22, 3] ty #[.slice (some ⟨g, 0, none⟩) i c, .int .i64 ((n : Int) + 1 - (i : Int))]).run Try.prog w =
      .ok (.slice (some ⟨w.heap.size, 0, none⟩) (n + 1) (grownCap w (n + 1) c 52)) (w.drew.alloc (.cells ((xs.take (i * 2)).toArray ++ Builtin.zeroCells (Value.agg #[.int .i64 0, .slice none 0 0]).cells (n + 1 - i) ++ Builtin.zeroCells (Value.agg #[.int .i64 0, .slice none 0 0]).cells (grownCap w (n + 1) c 52 - (n + 1))) 52)) := fun ty => by
    have h := Lib.run_append_grow_zeros w 22 3 ty 52 i0 _ .i64 .i64 Try.underlying22 Try.underlying3 hi0 hz0 (some ⟨g, 0, none⟩) i c (xs.take (i * 2)) hold (n + 1 - i) (by omega) (by omega) (by omega) (by omega) (by rw [hz2']; omega) (by rw [hz2', hik]; exact growslice_fits hroom (by omega))
    rw [hik] at h
    rw [hkk]
    exact h
  have hGn : n + 1 ≤ grownCap w (n + 1) c 52 := grownCap_ge w _ _ _
  have hG63 := grownCap_le_maxLen w (n + 1) c 52 (by unfold maxLen; omega)
  obtain ⟨G, hGd⟩ : ∃ G, G = grownCap w (n + 1) c 52 := ⟨_, rfl⟩
  obtain ⟨ROW, hROW⟩ : ∃ ROW : Array Value, ROW = (xs.take (i * 2)).toArray ++ Builtin.zeroCells (Value.agg #[.int .i64 0, .slice none 0 0]).cells (n + 1 - i) ++ Builtin.zeroCells (Value.agg #[.int .i64 0, .slice none 0 0]).cells (G - (n + 1)) := ⟨_, rfl⟩
  rw [← hGd] at hrz hGn hG63
  rw [← hROW] at hrz
  have hRl : ROW.size = G * 2 := by
    rw [hROW]
    simp [Builtin.zeroCells, Value.cells, hxl]
    omega
  have hpre0 : ROW.toList.take (i * 2) = xs.take (i * 2) := by
    rw [hROW, Array.toList_append, Array.toList_append, List.append_assoc, List.take_append_of_le_length (by simp; omega)]
    simp only [List.take_take, Nat.min_self]
  obtain ⟨NB, hNB⟩ : ∃ NB, NB = w.heap.size := ⟨_, rfl⟩
  rw [← hNB] at hrz hgw hnw ⊢
  have hW1 : ∀ W : World, W.heap = (w.drew.alloc (.cells ROW 52)).heap → Box W NB 52 ROW ∧ Box W g 52 cur ∧ Box W nb 52 #[.int .i64 z, u] := fun W hW => by
    unfold Box
    rw [hW, hNB]
    exact ⟨Box.new w.drew 52 ROW, Box.more (w := w.drew) hG _, Box.more (w := w.drew) hX _⟩
  obtain ⟨RA, hRA⟩ : ∃ RA, RA = (ROW.toList.take (i * 2) ++ [.int .i64 z, u] ++ ROW.toList.drop (i * 2 + 2)).toArray := ⟨_, rfl⟩
  have hROWl : ROW.toList.length = G * 2 := by simpa using hRl
  have hRAs : RA.size = G * 2 := by
    rw [hRA]; simp only [List.size_toArray, List.length_append, List.length_take, List.length_drop, List.length_cons, List.length_nil, hROWl]; omega
  have hcpA : ∀ (W : World), W.heap = (w.drew.alloc (.cells ROW 52)).heap → ∀ ty dc, (Builtin.copy_ #[22, 22] ty #[.slice (some ⟨NB, i * 2, none⟩) (n + 1 - i) dc, .slice (some ⟨nb, 0, none⟩) 1 1]).run Try.prog W = .ok (goInt ((1 : Nat) : Int)) (W.setRow NB RA) := fun W hW ty dc => by
    obtain ⟨b1, b2, b3⟩ := hW1 W hW
    have h := run_copy_row2 (P := Try.prog) W 22 22 ty 52 NB (i * 2) (n + 1 - i) dc ⟨nb, 0, none⟩ 1 1 ROW 52 [.int .i64 z, u] Try.underlying22 hsz b1 (by show 2 = Nat.min 1 (n + 1 - i) * 2; simp only [Nat.min_def]; split <;> omega)
      (cells_two b3) (by show i * 2 + 2 ≤ ROW.size; omega) (fun v hv => by
        rcases List.mem_cons.1 hv with rfl | hv
        · rfl
        · rw [List.mem_singleton.1 hv]; exact hu)
    rw [show [Value.int IntKind.i64 z, u].length = 2 from rfl, ← hRA] at h
    rw [h, show Nat.min 1 (n + 1 - i) = 1 by simp only [Nat.min_def]; split <;> omega]
  have hdl : (xs.drop (i * 2)).length = (n - i) * 2 := by rw [List.length_drop, hxl]; omega
  have hW2 : ∀ W W0 : World, W0.heap = (w.drew.alloc (.cells ROW 52)).heap → W.heap = (W0.setRow NB RA).heap → Box W NB 52 RA ∧ Box W g 52 cur ∧ ∀ k, k < NB → W.heap[k]? = w.heap[k]? := fun W W0 hW0 hW => by
    obtain ⟨b1, b2, b3⟩ := hW1 W0 hW0
    unfold Box
    rw [hW]
    refine ⟨setRow_heap W0 NB ROW RA 52 (0, 0) b1, (setRow_other W0 NB g RA (by omega)).trans b2, fun k hk => (setRow_other W0 NB k RA (by omega)).trans ?_⟩
    rw [hW0]
    exact (bal (brefl w.drew) (.cells ROW 52)).block k (by show k < w.heap.size; omega)
  obtain ⟨RB, hRB⟩ : ∃ RB, RB = (RA.toList.take ((i + 1) * 2) ++ xs.drop (i * 2) ++ RA.toList.drop ((i + 1) * 2 + (xs.drop (i * 2)).length)).toArray := ⟨_, rfl⟩
  have hRAl : RA.toList.length = G * 2 := by simpa using hRAs
  have hRBs : RB.size = G * 2 := by
    rw [hRB]; simp only [List.size_toArray, List.length_append, List.length_take, List.length_drop, hRAl, hdl]; omega
  have hcpB : ∀ (W W0 : World), W0.heap = (w.drew.alloc (.cells ROW 52)).heap → W.heap = (W0.setRow NB RA).heap → ∀ ty dc sc, (Builtin.copy_ #[22, 22] ty #[.slice (some ⟨NB, (i + 1) * 2, none⟩) (n - i) dc, .slice (some ⟨g, i * 2, none⟩) (n - i) sc]).run Try.prog W = .ok (goInt ((n - i : Nat) : Int)) (W.setRow NB RB) := fun W W0 hW0 hW ty dc sc => by
    obtain ⟨b1, b2, b3⟩ := hW2 W W0 hW0 hW
    have h := run_copy_row2 (P := Try.prog) W 22 22 ty 52 NB ((i + 1) * 2) (n - i) dc ⟨g, i * 2, none⟩ (n - i) sc RA 52 (xs.drop (i * 2)) Try.underlying22 hsz b1 (by rw [hdl]; congr 1; simp only [Nat.min_def]; split <;> omega)
      (fun j v hj => by
        rw [add_pt]
        have := xs_at ht (j := i * 2 + j) (v := v) (by rwa [List.getElem?_drop] at hj)
        exact (b2.cell _).trans this) (by rw [hdl, hRAs]; omega) (fun v hv => h1 v (List.mem_of_mem_drop hv))
    rw [← hRB] at h
    rw [h, show Nat.min (n - i) (n - i) = n - i by simp only [Nat.min_def]; split <;> omega]
  have hfin : RB.toList.take ((n + 1) * 2) = xs.take (i * 2) ++ [.int .i64 z, u] ++ xs.drop (i * 2) := by
    have hA : RA.toList.take ((i + 1) * 2) = xs.take (i * 2) ++ [.int .i64 z, u] := by
      rw [hRA, hpre0]
      refine take3 _ _ _ _ ?_
      simp only [List.length_append, List.length_take, List.length_cons, List.length_nil, hxl]
      omega
    rw [hRB, hA]
    refine take3 _ _ _ _ ?_
    simp only [List.length_append, List.length_take, List.length_cons, List.length_nil, hdl, hxl]
    omega
  have FIN := hide (fun (W W0 : World) (hW0 : W0.heap = (w.drew.alloc (.cells ROW 52)).heap) (hW : W.heap = (W0.setRow NB RA).heap) (ho : W.os = w.os) (htp : W.tape = w.tape) (hou : W.output = w.output) => (by
    obtain ⟨b1, b2, b3⟩ := hW2 W W0 hW0 hW
    refine ⟨RB, setRow_heap W NB RA RB 52 (0, 0) b1, hRBs, hfin, ho, htp, hou, ?_, fun k hk hn => ?_⟩
    · rw [size_setRow]; have := b1.lt; omega
    · rw [setRow_other W NB k RB (by omega)]; exact b3 k (by omega) : ∃ cur', Box (W.setRow NB RB) NB 52 cur' ∧ cur'.size = G * 2 ∧ cur'.toList.take ((n + 1) * 2) = xs.take (i * 2) ++ [.int .i64 z, u] ++ xs.drop (i * 2) ∧ w.grownBy (W.setRow NB RB) none))
  have CPA := hide hcpA
  have CPB := hide hcpB
  have HRZ := hide hrz
  have HNB := hide hNB
  have hGM := hG63
  unfold maxLen at hG63
  clear hcpA hcpB hrz hW1 hW2 hRA hRB hRAl hRBs hRAs hfin hpre0 hROW hGd hold hROWl hRl hkk hNB hdl hik
  have hw1 : IntKind.i64.wrap ((i : Int) + 1) = (i : Int) + 1 := by rw [IntKind.wrap_i64]; omega
  have hb1 : (0 : Int) ≤ (i : Int) + 1 := by omega
  have htn : ((i : Int) + 1).toNat = i + 1 := by omega
  have hb3 : (i : Int) ≤ (n : Int) := by omega
  have hGi : ¬ (G = i) := by omega
  have hGim : ¬ (G = i + 1) := by omega
  have hci : ¬ (c = i) := by omega
  have hb6 : i + 1 ≤ n + 1 := by omega
  have hb7 : i ≤ n := by omega
  have mixed : Try.prog.follows Departure.mixedOrders = true := by kernel_rfl
  go_enter Try.func45, Try.ntmps45
  go_wp2_with (first
    | (at_builtin; refine Lib.wpList_append_run _ rfl (.tmp 34) (.tmp 39) 22 3 rfl _ _ rfl rfl _ _ (HRZ.out _) ?_)
    | (refine wpList_copy_runI _ rfl (.tmp 43) (.tmp 44) 22 22 rfl (.slice (some ⟨NB, i * 2, none⟩) (n + 1 - i) (G - i)) (.slice (some ⟨nb, 0, none⟩) 1 1) rfl rfl (CPA.out _ rfl 3 (G - i)) ?_))
  go_region_law_o (refine step_copy_runI rfl _ _ 22 22 rfl (.slice (some ⟨NB, (i + 1) * 2, none⟩) (n - i) (G - (i + 1))) (.slice (some ⟨g, i * 2, none⟩) (n - i) (c - i)) (by simp [Act.eval, Act.put]) (by simp [Act.eval, Act.put]) (CPB.out ((w.alloc (.cells ROW 52)).drew.setRow NB RA).drew ((w.alloc (.cells ROW 52)).drew) rfl rfl 3 (G - (i + 1)) (c - i)) ?_)
  go_wp2
  go_ret
  exact ⟨G, rfl, hGn, hGM, FIN.out ((w.alloc (.cells ROW 52)).drew.setRow NB RA).drew ((w.alloc (.cells ROW 52)).drew) rfl rfl rfl rfl rfl⟩
end Go.Proofs.Ytncjicggolmofaa.Sb
