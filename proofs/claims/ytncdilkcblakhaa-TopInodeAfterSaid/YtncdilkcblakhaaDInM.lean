import Derived.Test.YtncdilkcblakhaaDDeM
import Derived.Shelf.Spec.SlicesInsert
import Derived.Lib.AppendZerosOnto
import Derived.Laws.CopyRow
namespace Go.Proofs.Ytncdilkcblakhaa.Dv
open Go Go.RowKit
set_option linter.unusedVariables false
theorem own_cap (A : Option Addr) (n c m d : Nat) : (Value.slice A n c).ownBlock = (Value.slice A m d).ownBlock := by cases A <;> rfl
set_option maxRecDepth 100000 in
set_option maxHeartbeats 1000000 in
/-- Insert at the end -/
theorem insert_end (B : Nat) (A : Option Addr) (n c nb : Nat) (xs : List Value) (z : Int) (u : Value) (w : World) (ho : w.ownsRow B 89 2 (.slice A n c) n xs) (hB : B ≤ w.heap.size) (hn : n ≤ 1000) (hu : ∃ A c m, u = .slice A m c) (hX : Box w nb 89 #[.int .i64 z, u]) :
    Calls Try.prog 69 #[.slice A n c, .int .i64 n, .slice (some ⟨nb, 0, none⟩) 1 1] w fun e w' => ∃ v', e = .returned v' ∧ w'.ownsRow B 89 2 v' (n + 1) (xs ++ [.int .i64 z, u]) ∧ w.grownBy w' (Value.slice A n c).ownBlock := by
  obtain ⟨i0, hi0, hz0, hz1, hz2⟩ := info_parts info89
  have HO := hide ho
  have hcap : n ≤ c := by
    obtain ⟨A', c', e, h⟩ := row_form ho
    injection e with _ _ e
    subst e; exact h
  have hN : ∀ j y, [Value.int .i64 z, u][j]? = some y → w.cell? ((⟨nb, 0, none⟩ : Addr).add j) = some y := by
    intro j y hy
    rw [add_at', Nat.zero_add, hX.cell]
    simpa using hy
  have NW := hide hN
  have O1 := hide (show ∀ y ∈ [Value.int .i64 z, u], y.oneCell' = true by
    obtain ⟨A, c, m, rfl⟩ := hu
    intro y hy; simp at hy; rcases hy with rfl | rfl <;> rfl)
  have hnn : (n : Int) ≤ (n : Int) := by omega
  have h0n : (0 : Int) ≤ (n : Int) := by omega
  clear ho hX hN hu
  go_enter Try.func69, Try.ntmps69
  go_wp2_with (at_builtin; refine wpList_append_own _ rfl (.tmp 23) (.tmp 24) 54 rfl B 89 i0 _ 2 32 Try.underlying54 hi0 hz0 hz1 hz2 rfl (by omega) (.slice A n c) n xs rfl HO.out ⟨nb, 0, none⟩ 1 1 [.int .i64 z, u] rfl rfl NW.out O1.out (by simp only [maxLen]; omega) (by omega) hB ?_; intro v4 w4 hown4 hg4 _; have O4 := hide hown4; have G4 := hide hg4; clear hown4 hg4)
  all_goals
    go_wp2
    go_ret
    exact ⟨_, rfl, O4.out, (own_cap A n c _ _) ▸ G4.out⟩
end Go.Proofs.Ytncdilkcblakhaa.Dv
namespace Go.Proofs.Ytncdilkcblakhaa.Dv
open Go Go.RowKit Go.Lib
set_option linter.unusedVariables false
theorem run_copy_row2 {P : Program} (w : World) (dT sT ty elem : TypeId) (g o dLen dCap : Nat) (a : Addr) (sLen sCap : Nat) (cur : Array Value) (t : TypeId) (cs : List Value)
    (hu : P.underlying dT = some (.slice elem)) (hs : (P.info? elem).map (·.size) = some 2)
    (hg : w.heap[g]? = some (.cells cur t (0, 0))) (hn : cs.length = Nat.min sLen dLen * 2)
    (hsrc : ∀ j v, cs[j]? = some v → w.cell? (a.add j) = some v) (hfit : o + cs.length ≤ cur.size) (h1 : ∀ v ∈ cs, v.oneCell' = true) :
    (Builtin.copy_ #[dT, sT] ty #[.slice (some ⟨g, o, none⟩) dLen dCap, .slice (some a) sLen sCap]).run P w =
      .ok (goInt (Nat.min sLen dLen)) (w.setRow g (cur.toList.take o ++ cs ++ cur.toList.drop (o + cs.length)).toArray) := by
  have hl := run_loadCells_list (P := P) w a cs hsrc
  have hst := run_storeCells_at P g o t cs 0 cur w hg (by simpa using hfit) h1
  cases hq : P.info? elem with
  | none => simp [hq] at hs
  | some i =>
    have hi : i.size = 2 := by simpa [hq] using hs
    simp [Builtin.copy_, run_underlying hu, Builtin.lenOf, Builtin.firstCells, sizeOf, typeInfo, hq, hi, ← hn, hl, hst]
theorem f71 : ∃ fn, Try.prog.funcs[74]? = some fn ∧ (fn.name == "runtime.NumGoroutine") = false ∧ fn.body.isNone = true ∧ Extern.findNext fn = none ∧ Extern.find fn = some (Extern.SlicesOverlaps.overlaps #[54, 54] #[4]) :=
  ⟨_, rfl, by kernel_rfl, by kernel_rfl, by kernel_rfl, by kernel_rfl⟩
theorem sz64 (w : World) : (Go.sizeOf 89).run Try.prog w = .ok 2 w := by kernel_rfl
theorem shape_of {w : World} {g : Nat} {t : TypeId} {cs : Array Value} (h : Box w g t cs) : w.shape? g = some (t, cs.size) := by
  unfold Box at h
  simp [World.shape?, h]
theorem over_no (g nb o m c lb cb : Nat) (w : World) (hne : nb ≠ g) (t s : TypeId) (cs cur : Array Value) (h1 : Box w nb t cs) (h2 : Box w g s cur) (hz : cur.size ≠ 0) :
    (callFunc 74 #[.slice (some ⟨nb, 0, none⟩) m c, .slice (some ⟨g, o, none⟩) lb cb]).run Try.prog w = .ok (.value (.bool false)) w := by
  obtain ⟨fn, hf, hn, hb, hx, he⟩ := f71
  rw [run_callFunc_extern hf hn hb hx he, Lib.run_overlaps_apart w 54 4 89 Try.underlying54 2 sz64 ⟨nb, 0, none⟩ ⟨g, o, none⟩ m c lb cb hne t s _ _ (shape_of h1) (shape_of h2) hz (h1.frozen 0) (h1.frozen _)]
  rfl
theorem add_pt (b off k : Nat) : (⟨b, off, none⟩ : Addr).add k = ⟨b, off + k, none⟩ := add_at' b off k
theorem xs_at {cur : Array Value} {xs : List Value} {m : Nat} (ht : cur.toList.take m = xs) {j : Nat} {v : Value} (h : xs[j]? = some v) : cur[j]? = some v := by
  rw [← ht, List.getElem?_take] at h
  split at h
  · simpa using h
  · cases h
theorem cells_two {w : World} {g : Nat} {t : TypeId} {z : Int} {u : Value} (hX : Box w g t #[.int .i64 z, u]) : ∀ j v, [Value.int .i64 z, u][j]? = some v → w.cell? ((⟨g, 0, none⟩ : Addr).add j) = some v := by
  intro j v hj
  rw [add_pt, Nat.zero_add, hX.cell]
  simpa using hj
theorem take3 (A xs R : List Value) (k : Nat) (h : (A ++ xs).length = k) : (A ++ xs ++ R).take k = A ++ xs := by rw [← h, List.take_left]
set_option maxHeartbeats 1000000 in
set_option maxRecDepth 100000 in
theorem insert_room (g n c nb i : Nat) (xs : List Value) (cur : Array Value) (z : Int) (u : Value) (w : World) (hX : Box w nb 89 #[.int .i64 z, u]) (hG : Box w g 89 cur) (hne : nb ≠ g) (hi : i < n) (hroom : n + 1 ≤ c) (hc : c ≤ maxLen) (hn : n ≤ 1000)
    (hs : cur.size = c * 2) (ht : cur.toList.take (n * 2) = xs) (hxl : xs.length = n * 2) (h1 : ∀ v ∈ xs, v.oneCell' = true) (hu : u.oneCell' = true) :
    Calls Try.prog 69 #[.slice (some ⟨g, 0, none⟩) n c, .int .i64 i, .slice (some ⟨nb, 0, none⟩) 1 1] w fun e w' => e = .returned (.slice (some ⟨g, 0, none⟩) (n + 1) c) ∧ ∃ cur', Box w' g 89 cur' ∧ cur'.size = c * 2 ∧ cur'.toList.take ((n + 1) * 2) = xs.take (i * 2) ++ [.int .i64 z, u] ++ xs.drop (i * 2) ∧ w.grownBy w' (some g) := by
  unfold maxLen at hc
  have hz2 : ((i : Int) == (n : Int)) = false := by simp; omega
  have hov := fun o lb cb => over_no g nb o 1 1 lb cb w hne 89 89 _ _ hX hG (by omega)
  have HV := hide hov
  have hsz : (Try.prog.info? 89).map (·.size) = some 2 := by kernel_rfl
  have hdl : (xs.drop (i * 2)).length = (n - i) * 2 := by rw [List.length_drop, hxl]; omega
  obtain ⟨R1, hR1⟩ : ∃ R1, R1 = (cur.toList.take ((i + 1) * 2) ++ xs.drop (i * 2) ++ cur.toList.drop ((i + 1) * 2 + (xs.drop (i * 2)).length)).toArray := ⟨_, rfl⟩
  have hcl : cur.toList.length = c * 2 := by simpa using hs
  have hR1s : R1.size = c * 2 := by
    rw [hR1]; simp only [List.size_toArray, List.length_append, List.length_take, List.length_drop, hcl, hdl]; omega
  have hcp1 : ∀ ty dc sc, (Builtin.copy_ #[54, 54] ty #[.slice (some ⟨g, (i + 1) * 2, none⟩) (n - i) dc, .slice (some ⟨g, i * 2, none⟩) (n + 1 - i) sc]).run Try.prog w.drew = .ok (goInt ((n - i : Nat) : Int)) (w.drew.setRow g R1) := fun ty dc sc => by
    have h := run_copy_row2 (P := Try.prog) w.drew 54 54 ty 89 g ((i + 1) * 2) (n - i) dc ⟨g, i * 2, none⟩ (n + 1 - i) sc cur 89 (xs.drop (i * 2)) Try.underlying54 hsz hG (by rw [hdl]; congr 1; simp only [Nat.min_def]; split <;> omega)
      (fun j v hj => by
        rw [add_pt]
        have := xs_at ht (j := i * 2 + j) (v := v) (by rwa [List.getElem?_drop] at hj)
        exact (hG.cell _).trans this) (by rw [hdl, hs]; omega) (fun v hv => h1 v (List.mem_of_mem_drop hv))
    rw [← hR1] at h
    rw [h, show Nat.min (n + 1 - i) (n - i) = n - i by simp only [Nat.min_def]; split <;> omega]
  have hG1 : Box (w.drew.setRow g R1) g 89 R1 := setRow_heap w.drew g cur R1 89 (0, 0) hG
  have hX1 : Box (w.drew.setRow g R1) nb 89 #[.int .i64 z, u] := (setRow_other w.drew g nb R1 hne).trans hX
  obtain ⟨R2, hR2⟩ : ∃ R2, R2 = (R1.toList.take (i * 2) ++ [.int .i64 z, u] ++ R1.toList.drop (i * 2 + 2)).toArray := ⟨_, rfl⟩
  have hcp2 : ∀ ty dc, (Builtin.copy_ #[54, 54] ty #[.slice (some ⟨g, i * 2, none⟩) (n + 1 - i) dc, .slice (some ⟨nb, 0, none⟩) 1 1]).run Try.prog (w.drew.setRow g R1) = .ok (goInt ((1 : Nat) : Int)) ((w.drew.setRow g R1).setRow g R2) := fun ty dc => by
    have h := run_copy_row2 (P := Try.prog) (w.drew.setRow g R1) 54 54 ty 89 g (i * 2) (n + 1 - i) dc ⟨nb, 0, none⟩ 1 1 R1 89 [.int .i64 z, u] Try.underlying54 hsz hG1 (by show 2 = Nat.min 1 (n + 1 - i) * 2; simp only [Nat.min_def]; split <;> omega)
      (cells_two hX1) (by show i * 2 + 2 ≤ R1.size; omega) (fun v hv => by
        rcases List.mem_cons.1 hv with rfl | hv
        · rfl
        · rw [List.mem_singleton.1 hv]; exact hu)
    rw [show [Value.int IntKind.i64 z, u].length = 2 from rfl, ← hR2] at h
    rw [h, show Nat.min 1 (n + 1 - i) = 1 by simp only [Nat.min_def]; split <;> omega]
  have hG2 : Box ((w.drew.setRow g R1).setRow g R2) g 89 R2 := setRow_heap _ g R1 R2 89 (0, 0) hG1
  have hR1l : R1.toList.length = c * 2 := by simpa using hR1s
  have hR2s : R2.size = c * 2 := by
    rw [hR2]; simp only [List.size_toArray, List.length_append, List.length_take, List.length_drop, List.length_cons, List.length_nil, hR1l]; omega
  have hpre : R1.toList.take (i * 2) = xs.take (i * 2) := by
    rw [hR1, ← ht]
    simp only [List.append_assoc]
    rw [List.take_append_of_le_length (by rw [List.length_take, hcl]; omega), List.take_take, List.take_take]
    congr 1; omega
  have hmid : R1.toList.drop (i * 2 + 2) = xs.drop (i * 2) ++ cur.toList.drop ((i + 1) * 2 + (xs.drop (i * 2)).length) := by
    rw [hR1]
    simp only [List.append_assoc]
    rw [List.drop_append_of_le_length (by rw [List.length_take, hcl]; omega), List.drop_take, show (i + 1) * 2 - (i * 2 + 2) = 0 by omega, List.take_zero, List.nil_append]
  have hfin : R2.toList.take ((n + 1) * 2) = xs.take (i * 2) ++ [.int .i64 z, u] ++ xs.drop (i * 2) := by
    rw [hR2, hpre, hmid]
    simp only [← List.append_assoc]
    refine take3 _ _ _ _ ?_
    simp only [List.length_append, List.length_take, List.length_cons, List.length_nil, hdl, hxl]
    omega
  have hgr : w.grownBy ((w.drew.setRow g R1).setRow g R2) (some g) := ⟨rfl, rfl, rfl, by simp, fun k hk hn => by
    have hkg : k ≠ g := fun e => hn (by rw [e])
    rw [setRow_other _ g k R2 hkg, setRow_other _ g k R1 hkg]; rfl⟩
  have FIN := hide (⟨R2, hG2, hR2s, hfin, hgr⟩ : ∃ cur', Box ((w.drew.setRow g R1).setRow g R2) g 89 cur' ∧ cur'.size = c * 2 ∧ cur'.toList.take ((n + 1) * 2) = xs.take (i * 2) ++ [.int .i64 z, u] ++ xs.drop (i * 2) ∧ w.grownBy ((w.drew.setRow g R1).setRow g R2) (some g))
  have CP1 := hide hcp1
  have CP2 := hide hcp2
  clear hov hcp1 hcp2 hG2 hR2s hfin hgr hpre hmid hR1l hR1s hcl hR1 hR2 hG1 hX1 hdl hs ht hxl
  go_enter Try.func69, Try.ntmps69
  go_wp2_with (simp only [HV.out])
  have hw1 : IntKind.i64.wrap ((i : Int) + 1) = (i : Int) + 1 := by rw [IntKind.wrap_i64]; omega
  have hb1 : (0 : Int) ≤ (i : Int) + 1 := by omega
  have hb4 : (i : Int) + 1 ≤ (n : Int) + 1 := by omega
  have hb5 : (i : Int) ≤ (n : Int) + 1 := by omega
  have htn : ((i : Int) + 1).toNat = i + 1 := by omega
  have hb6 : i + 1 ≤ n + 1 := by omega
  have hb7 : i ≤ n + 1 := by omega
  have hb8 : ¬ (c = i + 1) := by omega
  have hb9 : ¬ (c = i) := by omega
  have mixed : Try.prog.follows Departure.mixedOrders = true := by kernel_rfl
  go_region_law_o (refine step_copy_runI rfl _ _ 54 54 rfl (.slice (some ⟨g, (i + 1) * 2, none⟩) (n - i) (c - (i + 1))) (.slice (some ⟨g, i * 2, none⟩) (n + 1 - i) (c - i)) (by simp [Act.eval, Act.put]) (by simp [Act.eval, Act.put]) (CP1.out 3 (c - (i + 1)) (c - i)) ?_)
  go_wp2_with (refine wpList_copy_runI _ rfl (.tmp 80) (.tmp 81) 54 54 rfl (.slice (some ⟨g, i * 2, none⟩) (n + 1 - i) (c - i)) (.slice (some ⟨nb, 0, none⟩) 1 1) rfl rfl (CP2.out 3 (c - i)) ?_)
  go_ret
  exact ⟨rfl, FIN.out⟩
end Go.Proofs.Ytncdilkcblakhaa.Dv
namespace Go.Proofs.Ytncdilkcblakhaa.Dv
open Go Go.RowKit Go.Lib
set_option linter.unusedVariables false
set_option maxHeartbeats 1000000 in
set_option maxRecDepth 100000 in
theorem insert_grow (g n c nb i : Nat) (xs : List Value) (cur : Array Value) (z : Int) (u : Value) (w : World) (hX : Box w nb 89 #[.int .i64 z, u]) (hG : Box w g 89 cur) (hi : i < n) (hnc : n ≤ c) (hroom : c < n + 1) (hn : n ≤ 1000)
    (ht : cur.toList.take (n * 2) = xs) (hxl : xs.length = n * 2) (h1 : ∀ v ∈ xs, v.oneCell' = true) (hu : u.oneCell' = true) :
    Calls Try.prog 69 #[.slice (some ⟨g, 0, none⟩) n c, .int .i64 i, .slice (some ⟨nb, 0, none⟩) 1 1] w fun e w' => ∃ G, e = .returned (.slice (some ⟨w.heap.size, 0, none⟩) (n + 1) G) ∧ n + 1 ≤ G ∧ G ≤ maxLen ∧ ∃ cur', Box w' w.heap.size 89 cur' ∧ cur'.size = G * 2 ∧ cur'.toList.take ((n + 1) * 2) = xs.take (i * 2) ++ [.int .i64 z, u] ++ xs.drop (i * 2) ∧ w.grownBy w' none := by
  obtain ⟨i0, hi0, hz0, hz1, hz2'⟩ := info_parts info89
  have hz2 : ((i : Int) == (n : Int)) = false := by simp; omega
  have hz3 : (c : Int) < (n : Int) + 1 := by omega
  have hsz : (Try.prog.info? 89).map (·.size) = some 2 := by kernel_rfl
  have hgw := hG.lt
  have hnw := hX.lt
  have hik : i + (n + 1 - i) = n + 1 := by omega
  have hkk : (n : Int) + 1 - (i : Int) = ((n + 1 - i : Nat) : Int) := by omega
  have hold : (Builtin.firstCells i0.size i (.slice (some ⟨g, 0, none⟩) i c)).run Try.prog w.drew = .ok (xs.take (i * 2)).toArray w.drew := by
    rw [hz1]
    exact run_firstCells_some w.drew 2 i ⟨g, 0, none⟩ i c (xs.take (i * 2)) (by rw [List.length_take]; omega) (fun j v hj => by
      rw [add_pt, Nat.zero_add]
      rw [List.getElem?_take] at hj
      split at hj
      · exact (hG.cell _).trans (xs_at ht hj)
      · cases hj)
  have hrz : ∀ ty, (Builtin.append_ #[54, 3] ty #[.slice (some ⟨g, 0, none⟩) i c, .int .i64 ((n : Int) + 1 - (i : Int))]).run Try.prog w =
      .ok (.slice (some ⟨w.heap.size, 0, none⟩) (n + 1) (grownCap w (n + 1) c 89)) (w.drew.alloc (.cells ((xs.take (i * 2)).toArray ++ Builtin.zeroCells (Value.agg #[.int .i64 0, .slice none 0 0]).cells (n + 1 - i) ++ Builtin.zeroCells (Value.agg #[.int .i64 0, .slice none 0 0]).cells (grownCap w (n + 1) c 89 - (n + 1))) 89)) := fun ty => by
    have h := Lib.run_append_grow_zeros w 54 3 ty 89 i0 _ .i64 .i64 Try.underlying54 Try.underlying3 hi0 hz0 (some ⟨g, 0, none⟩) i c (xs.take (i * 2)) hold (n + 1 - i) (by omega) (by omega) (by omega) (by omega) (by rw [hz2']; omega) (by rw [hz2', hik]; exact growslice_fits hroom (by omega))
    rw [hik] at h
    rw [hkk]
    exact h
  have hGn : n + 1 ≤ grownCap w (n + 1) c 89 := grownCap_ge w _ _ _
  have hG63 := grownCap_le_maxLen w (n + 1) c 89 (by unfold maxLen; omega)
  obtain ⟨G, hGd⟩ : ∃ G, G = grownCap w (n + 1) c 89 := ⟨_, rfl⟩
  obtain ⟨ROW, hROW⟩ : ∃ ROW : Array Value, ROW = (xs.take (i * 2)).toArray ++ Builtin.zeroCells (Value.agg #[.int .i64 0, .slice none 0 0]).cells (n + 1 - i) ++ Builtin.zeroCells (Value.agg #[.int .i64 0, .slice none 0 0]).cells (G - (n + 1)) := ⟨_, rfl⟩
  rw [← hGd] at hrz hGn hG63
  rw [← hROW] at hrz
  have hRl : ROW.size = G * 2 := by
    rw [hROW]
    simp [Builtin.zeroCells, Value.cells, hxl]
    omega
  have hpre0 : ROW.toList.take (i * 2) = xs.take (i * 2) := by
    rw [hROW, Array.toList_append, Array.toList_append, List.append_assoc, List.take_append_of_le_length (by simp; omega)]
    simp only [List.take_take, Nat.min_self]
  obtain ⟨NB, hNB⟩ : ∃ NB, NB = w.heap.size := ⟨_, rfl⟩
  rw [← hNB] at hrz hgw hnw ⊢
  have hW1 : ∀ W : World, W.heap = (w.drew.alloc (.cells ROW 89)).heap → Box W NB 89 ROW ∧ Box W g 89 cur ∧ Box W nb 89 #[.int .i64 z, u] := fun W hW => by
    unfold Box
    rw [hW, hNB]
    exact ⟨Box.new w.drew 89 ROW, Box.more (w := w.drew) hG _, Box.more (w := w.drew) hX _⟩
  obtain ⟨RA, hRA⟩ : ∃ RA, RA = (ROW.toList.take (i * 2) ++ [.int .i64 z, u] ++ ROW.toList.drop (i * 2 + 2)).toArray := ⟨_, rfl⟩
  have hROWl : ROW.toList.length = G * 2 := by simpa using hRl
  have hRAs : RA.size = G * 2 := by
    rw [hRA]; simp only [List.size_toArray, List.length_append, List.length_take, List.length_drop, List.length_cons, List.length_nil, hROWl]; omega
  have hcpA : ∀ (W : World), W.heap = (w.drew.alloc (.cells ROW 89)).heap → ∀ ty dc, (Builtin.copy_ #[54, 54] ty #[.slice (some ⟨NB, i * 2, none⟩) (n + 1 - i) dc, .slice (some ⟨nb, 0, none⟩) 1 1]).run Try.prog W = .ok (goInt ((1 : Nat) : Int)) (W.setRow NB RA) := fun W hW ty dc => by
    obtain ⟨b1, b2, b3⟩ := hW1 W hW
    have h := run_copy_row2 (P := Try.prog) W 54 54 ty 89 NB (i * 2) (n + 1 - i) dc ⟨nb, 0, none⟩ 1 1 ROW 89 [.int .i64 z, u] Try.underlying54 hsz b1 (by show 2 = Nat.min 1 (n + 1 - i) * 2; simp only [Nat.min_def]; split <;> omega)
      (cells_two b3) (by show i * 2 + 2 ≤ ROW.size; omega) (fun v hv => by
        rcases List.mem_cons.1 hv with rfl | hv
        · rfl
        · rw [List.mem_singleton.1 hv]; exact hu)
    rw [show [Value.int IntKind.i64 z, u].length = 2 from rfl, ← hRA] at h
    rw [h, show Nat.min 1 (n + 1 - i) = 1 by simp only [Nat.min_def]; split <;> omega]
  have hdl : (xs.drop (i * 2)).length = (n - i) * 2 := by rw [List.length_drop, hxl]; omega
  have hW2 : ∀ W W0 : World, W0.heap = (w.drew.alloc (.cells ROW 89)).heap → W.heap = (W0.setRow NB RA).heap → Box W NB 89 RA ∧ Box W g 89 cur ∧ ∀ k, k < NB → W.heap[k]? = w.heap[k]? := fun W W0 hW0 hW => by
    obtain ⟨b1, b2, b3⟩ := hW1 W0 hW0
    unfold Box
    rw [hW]
    refine ⟨setRow_heap W0 NB ROW RA 89 (0, 0) b1, (setRow_other W0 NB g RA (by omega)).trans b2, fun k hk => (setRow_other W0 NB k RA (by omega)).trans ?_⟩
    rw [hW0]
    exact (bal (brefl w.drew) (.cells ROW 89)).block k (by show k < w.heap.size; omega)
  obtain ⟨RB, hRB⟩ : ∃ RB, RB = (RA.toList.take ((i + 1) * 2) ++ xs.drop (i * 2) ++ RA.toList.drop ((i + 1) * 2 + (xs.drop (i * 2)).length)).toArray := ⟨_, rfl⟩
  have hRAl : RA.toList.length = G * 2 := by simpa using hRAs
  have hRBs : RB.size = G * 2 := by
    rw [hRB]; simp only [List.size_toArray, List.length_append, List.length_take, List.length_drop, hRAl, hdl]; omega
  have hcpB : ∀ (W W0 : World), W0.heap = (w.drew.alloc (.cells ROW 89)).heap → W.heap = (W0.setRow NB RA).heap → ∀ ty dc sc, (Builtin.copy_ #[54, 54] ty #[.slice (some ⟨NB, (i + 1) * 2, none⟩) (n - i) dc, .slice (some ⟨g, i * 2, none⟩) (n - i) sc]).run Try.prog W = .ok (goInt ((n - i : Nat) : Int)) (W.setRow NB RB) := fun W W0 hW0 hW ty dc sc => by
    obtain ⟨b1, b2, b3⟩ := hW2 W W0 hW0 hW
    have h := run_copy_row2 (P := Try.prog) W 54 54 ty 89 NB ((i + 1) * 2) (n - i) dc ⟨g, i * 2, none⟩ (n - i) sc RA 89 (xs.drop (i * 2)) Try.underlying54 hsz b1 (by rw [hdl]; congr 1; simp only [Nat.min_def]; split <;> omega)
      (fun j v hj => by
        rw [add_pt]
        have := xs_at ht (j := i * 2 + j) (v := v) (by rwa [List.getElem?_drop] at hj)
        exact (b2.cell _).trans this) (by rw [hdl, hRAs]; omega) (fun v hv => h1 v (List.mem_of_mem_drop hv))
    rw [← hRB] at h
    rw [h, show Nat.min (n - i) (n - i) = n - i by simp only [Nat.min_def]; split <;> omega]
  have hfin : RB.toList.take ((n + 1) * 2) = xs.take (i * 2) ++ [.int .i64 z, u] ++ xs.drop (i * 2) := by
    have hA : RA.toList.take ((i + 1) * 2) = xs.take (i * 2) ++ [.int .i64 z, u] := by
      rw [hRA, hpre0]
      refine take3 _ _ _ _ ?_
      simp only [List.length_append, List.length_take, List.length_cons, List.length_nil, hxl]
      omega
    rw [hRB, hA]
    refine take3 _ _ _ _ ?_
    simp only [List.length_append, List.length_take, List.length_cons, List.length_nil, hdl, hxl]
    omega
  have FIN := hide (fun (W W0 : World) (hW0 : W0.heap = (w.drew.alloc (.cells ROW 89)).heap) (hW : W.heap = (W0.setRow NB RA).heap) (ho : W.os = w.os) (htp : W.tape = w.tape) (hou : W.output = w.output) => (by
    obtain ⟨b1, b2, b3⟩ := hW2 W W0 hW0 hW
    refine ⟨RB, setRow_heap W NB RA RB 89 (0, 0) b1, hRBs, hfin, ho, htp, hou, ?_, fun k hk hn => ?_⟩
    · rw [size_setRow]; have := b1.lt; omega
    · rw [setRow_other W NB k RB (by omega)]; exact b3 k (by omega) : ∃ cur', Box (W.setRow NB RB) NB 89 cur' ∧ cur'.size = G * 2 ∧ cur'.toList.take ((n + 1) * 2) = xs.take (i * 2) ++ [.int .i64 z, u] ++ xs.drop (i * 2) ∧ w.grownBy (W.setRow NB RB) none))
  have CPA := hide hcpA
  have CPB := hide hcpB
  have HRZ := hide hrz
  have HNB := hide hNB
  have hGM := hG63
  unfold maxLen at hG63
  clear hcpA hcpB hrz hW1 hW2 hRA hRB hRAl hRBs hRAs hfin hpre0 hROW hGd hold hROWl hRl hkk hNB hdl hik
  have hw1 : IntKind.i64.wrap ((i : Int) + 1) = (i : Int) + 1 := by rw [IntKind.wrap_i64]; omega
  have hb1 : (0 : Int) ≤ (i : Int) + 1 := by omega
  have htn : ((i : Int) + 1).toNat = i + 1 := by omega
  have hb3 : (i : Int) ≤ (n : Int) := by omega
  have hGi : ¬ (G = i) := by omega
  have hGim : ¬ (G = i + 1) := by omega
  have hci : ¬ (c = i) := by omega
  have hb6 : i + 1 ≤ n + 1 := by omega
  have hb7 : i ≤ n := by omega
  have mixed : Try.prog.follows Departure.mixedOrders = true := by kernel_rfl
  go_enter Try.func69, Try.ntmps69
  go_wp2_with (first
    | (at_builtin; refine Lib.wpList_append_run _ rfl (.tmp 34) (.tmp 39) 54 3 rfl _ _ rfl rfl _ _ (HRZ.out _) ?_)
    | (refine wpList_copy_runI _ rfl (.tmp 43) (.tmp 44) 54 54 rfl (.slice (some ⟨NB, i * 2, none⟩) (n + 1 - i) (G - i)) (.slice (some ⟨nb, 0, none⟩) 1 1) rfl rfl (CPA.out _ rfl 3 (G - i)) ?_))
  go_region_law_o (refine step_copy_runI rfl _ _ 54 54 rfl (.slice (some ⟨NB, (i + 1) * 2, none⟩) (n - i) (G - (i + 1))) (.slice (some ⟨g, i * 2, none⟩) (n - i) (c - i)) (by simp [Act.eval, Act.put]) (by simp [Act.eval, Act.put]) (CPB.out ((w.alloc (.cells ROW 89)).drew.setRow NB RA).drew ((w.alloc (.cells ROW 89)).drew) rfl rfl 3 (G - (i + 1)) (c - i)) ?_)
  go_wp2
  go_ret
  exact ⟨G, rfl, hGn, hGM, FIN.out ((w.alloc (.cells ROW 89)).drew.setRow NB RA).drew ((w.alloc (.cells ROW 89)).drew) rfl rfl rfl rfl rfl⟩
end Go.Proofs.Ytncdilkcblakhaa.Dv
