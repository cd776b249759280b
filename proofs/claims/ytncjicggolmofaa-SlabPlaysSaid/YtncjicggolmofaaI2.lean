import Derived.Test.YtncjicggolmofaaI1
import Derived.Shelf.Spec.SlicesInsert
import Derived.Lib.AppendZerosOnto
import Derived.Laws.CopyRow
namespace Go.Proofs.Ytncjicggolmofaa.Sb
open Go Go.RowKit Go.Lib
set_option linter.unusedVariables false
theorem run_copy_row2 {P : Program} (w : World) (dT sT ty elem : TypeId) (g o dLen dCap : Nat) (a : Addr) (sLen sCap : Nat) (cur : Array Value) (t : TypeId) (cs : List Value)
    (hu : P.underlying dT = some (.slice elem)) (hs : (P.info? elem).map (·.size) = some 2)
    (hg : w.heap[g]? = some (.cells cur t (0, 0))) (hn : cs.length = Nat.min sLen dLen * 2)
    (hsrc : ∀ j v, cs[j]? = some v → w.cell? (a.add j) = some v) (hfit : o + cs.length ≤ cur.size) (h1 : ∀ v ∈ cs, v.oneCell' = true) :
    (Builtin.copy_ #[dT, sT] ty #[.slice (some ⟨g, o, none⟩) dLen dCap, .slice (some a) sLen sCap]).run P w =
      .ok (goInt (Nat.min sLen dLen)) (w.setRow g (cur.toList.take o ++ cs ++ cur.toList.drop (o + cs.length)).toArray) := by
  have hl := run_loadCells_list (P := P) w a cs hsrc
  have hst := run_storeCells_at P g o t cs 0 cur w hg (by simpa using hfit) h1
  cases hq : P.info? elem with
  | none => simp [hq] at hs
  | some i =>
    have hi : i.size = 2 := by simpa [hq] using hs
    simp [Builtin.copy_, run_underlying hu, Builtin.lenOf, Builtin.firstCells, sizeOf, typeInfo, hq, hi, ← hn, hl, hst]
theorem f58 : ∃ fn, Try.prog.funcs[58]? = some fn ∧ (fn.name == "runtime.NumGoroutine") = false ∧ fn.body.isNone = true ∧ Extern.findNext fn = none ∧ Extern.find fn = some (Extern.SlicesOverlaps.overlaps #[22, 22] #[4]) :=
  ⟨_, rfl, by kernel_rfl, by kernel_rfl, by kernel_rfl, by kernel_rfl⟩
theorem sz52 (w : World) : (Go.sizeOf 52).run Try.prog w = .ok 2 w := by kernel_rfl
theorem shape_of {w : World} {g : Nat} {t : TypeId} {cs : Array Value} (h : Box w g t cs) : w.shape? g = some (t, cs.size) := by
  unfold Box at h
  simp [World.shape?, h]
theorem over_no (g nb o m c lb cb : Nat) (w : World) (hne : nb ≠ g) (t s : TypeId) (cs cur : Array Value) (h1 : Box w nb t cs) (h2 : Box w g s cur) (hz : cur.size ≠ 0) :
    (callFunc 58 #[.slice (some ⟨nb, 0, none⟩) m c, .slice (some ⟨g, o, none⟩) lb cb]).run Try.prog w = .ok (.value (.bool false)) w := by
  obtain ⟨fn, hf, hn, hb, hx, he⟩ := f58
  rw [run_callFunc_extern hf hn hb hx he, Lib.run_overlaps_apart w 22 4 52 Try.underlying22 2 sz52 ⟨nb, 0, none⟩ ⟨g, o, none⟩ m c lb cb hne t s _ _ (shape_of h1) (shape_of h2) hz (h1.frozen 0) (h1.frozen _)]
  rfl
theorem add_pt (b off k : Nat) : (⟨b, off, none⟩ : Addr).add k = ⟨b, off + k, none⟩ := add_at' b off k
theorem xs_at {cur : Array Value} {xs : List Value} {m : Nat} (ht : cur.toList.take m = xs) {j : Nat} {v : Value} (h : xs[j]? = some v) : cur[j]? = some v := by
  rw [← ht, List.getElem?_take] at h
  split at h
  · simpa using h
  · cases h
theorem cells_two {w : World} {g : Nat} {t : TypeId} {z : Int} {u : Value} (hX : Box w g t #[.int .i64 z, u]) : ∀ j v, [Value.int .i64 z, u][j]? = some v → w.cell? ((⟨g, 0, none⟩ : Addr).add j) = some v := by
  intro j v hj
  rw [add_pt, Nat.zero_add, hX.cell]
  simpa using hj
theorem take3 (A xs R : List Value) (k : Nat) (h : (A ++ xs).length = k) : (A ++ xs ++ R).take k = A ++ xs := by rw [← h, List.take_left]
set_option maxHeartbeats 1000000 in
set_option maxRecDepth 100000 in
theorem insert_room (g n c nb i : Nat) (xs : List Value) (cur : Array Value) (z : Int) (u : Value) (w : World) (hX : Box w nb 52 #[.int .i64 z, u]) (hG : Box w g 52 cur) (hne : nb ≠ g) (hi : i < n) (hroom : n + 1 ≤ c) (hc : c ≤ maxLen) (hn : n ≤ 1000)
    (hs : cur.size = c * 2) (ht : cur.toList.take (n * 2) = xs) (hxl : xs.length = n * 2) (h1 : ∀ v ∈ xs, v.oneCell' = true) (hu : u.oneCell' = true) :
    Calls Try.prog 45 #[.slice (some ⟨g, 0, none⟩) n c, .int .i64 i, .slice (some ⟨nb, 0, none⟩) 1 1] w fun e w' => e = .returned (.slice (some ⟨g, 0, none⟩) (n + 1) c) ∧ ∃ cur', Box w' g 52 cur' ∧ cur'.size = c * 2 ∧ cur'.toList.take ((n + 1) * 2) = xs.take (i * 2) ++ [.int .i64 z, u] ++ xs.drop (i * 2) ∧ w.grownBy w' (some g) := by
  unfold maxLen at hc
  have hz2 : ((i : Int) == (n : Int)) = false := by simp; omega
  have hov := fun o lb cb => over_no g nb o 1 1 lb cb w hne 52 52 _ _ hX hG (by omega)
  have HV := hide hov
  have hsz : (Try.prog.info? 52).map (·.size) = some 2 := by kernel_rfl
  have hdl : (xs.drop (i * 2)).length = (n - i) * 2 := by rw [List.length_drop, hxl]; omega
  obtain ⟨R1, hR1⟩ : ∃ R1, R1 = (cur.toList.take ((i + 1) * 2) ++ xs.drop (i * 2) ++ cur.toList.drop ((i + 1) * 2 + (xs.drop (i * 2)).length)).toArray := ⟨_, rfl⟩
  have hcl : cur.toList.length = c * 2 := by simpa using hs
  have hR1s : R1.size = c * 2 := by
    rw [hR1]; simp only [List.size_toArray, List.length_append, List.length_take, List.length_drop, hcl, hdl]; omega
  have hcp1 : ∀ ty dc sc, (Builtin.copy_ #[22, 22] ty #[.slice (some ⟨g, (i + 1) * 2, none⟩) (n - i) dc, .slice (some ⟨g, i * 2, none⟩) (n + 1 - i) sc]).run Try.prog w.drew = .ok (goInt ((n - i : Nat) : Int)) (w.drew.setRow g R1) := fun ty dc sc => by
    have h := run_copy_row2 (P := Try.prog) w.drew 22 22 ty 52 g ((i + 1) * 2) (n - i) dc ⟨g, i * 2, none⟩ (n + 1 - i) sc cur 52 (xs.drop (i * 2)) Try.underlying22 hsz hG (by rw [hdl]; congr 1; simp only [Nat.min_def]; split <;> omega)
      (fun j v hj => by
        rw [add_pt]
        have := xs_at ht (j := i * 2 + j) (v := v) (by rwa [List.getElem?_drop] at hj)
        exact (hG.cell _).trans this) (by rw [hdl, hs]; omega) (fun v hv => h1 v (List.mem_of_mem_drop hv))
    rw [← hR1] at h
    rw [h, show Nat.min (n + 1 - i) (n - i) = n - i by simp only [Nat.min_def]; split <;> omega]
  have hG1 : Box (w.drew.setRow g R1) g 52 R1 := setRow_heap w.drew g cur R1 52 (0, 0) hG
  have hX1 : Box (w.drew.setRow g R1) nb 52 #[.int .i64 z, u] := (setRow_other w.drew g nb R1 hne).trans hX
  obtain ⟨R2, hR2⟩ : ∃ R2, R2 = (R1.toList.take (i * 2) ++ [.int .i64 z, u] ++ R1.toList.drop (i * 2 + 2)).toArray := ⟨_, rfl⟩
  have hcp2 : ∀ ty dc, (Builtin.copy_ #[22, 22] ty #[.slice (some ⟨g, i * 2, none⟩) (n + 1 - i) dc, .slice (some ⟨nb, 0, none⟩) 1 1]).run Try.prog (w.drew.setRow g R1) = .ok (goInt ((1 : Nat) : Int)) ((w.drew.setRow g R1).setRow g R2) := fun ty dc => by
    have h := run_copy_row2 (P := Try.prog) (w.drew.setRow g R1) 22 22 ty 52 g (i * 2) (n + 1 - i) dc ⟨nb, 0, none⟩ 1 1 R1 52 [.int .i64 z, u] Try.underlying22 hsz hG1 (by show 2 = Nat.min 1 (n + 1 - i) * 2; simp only [Nat.min_def]; split <;> omega)
      (cells_two hX1) (by show i * 2 + 2 ≤ R1.size; omega) (fun v hv => by
        rcases List.mem_cons.1 hv with rfl | hv
        · rfl
        · rw [List.mem_singleton.1 hv]; exact hu)
    rw [show [Value.int IntKind.i64 z, u].length = 2 from rfl, ← hR2] at h
    rw [h, show Nat.min 1 (n + 1 - i) = 1 by simp only [Nat.min_def]; split <;> omega]
  have hG2 : Box ((w.drew.setRow g R1).setRow g R2) g 52 R2 := setRow_heap _ g R1 R2 52 (0, 0) hG1
  have hR1l : R1.toList.length = c * 2 := by simpa using hR1s
  have hR2s : R2.size = c * 2 := by
    rw [hR2]; simp only [List.size_toArray, List.length_append, List.length_take, List.length_drop, List.length_cons, List.length_nil, hR1l]; omega
  have hpre : R1.toList.take (i * 2) = xs.take (i * 2) := by
    rw [hR1, ← ht]
    simp only [List.append_assoc]
    rw [List.take_append_of_le_length (by rw [List.length_take, hcl]; omega), List.take_take, List.take_take]
    congr 1; omega
  have hmid : R1.toList.drop (i * 2 + 2) = xs.drop (i * 2) ++ cur.toList.drop ((i + 1) * 2 + (xs.drop (i * 2)).length) := by
    rw [hR1]
    simp only [List.append_assoc]
    rw [List.drop_append_of_le_length (by rw [List.length_take, hcl]; omega), List.drop_take, show (i + 1) * 2 - (i * 2 + 2) = 0 by omega, List.take_zero, List.nil_append]
  have hfin : R2.toList.take ((n + 1) * 2) = xs.take (i * 2) ++ [.int .i64 z, u] ++ xs.drop (i * 2) := by
    rw [hR2, hpre, hmid]
    simp only [← List.append_assoc]
    refine take3 _ _ _ _ ?_
    simp only [List.length_append, List.length_take, List.length_cons, List.length_nil, hdl, hxl]
    omega
  have hgr : w.grownBy ((w.drew.setRow g R1).setRow g R2) (some g) := ⟨rfl, rfl, rfl, by simp, fun k hk hn => by
    have hkg : k ≠ g := fun e => hn (by rw [e])
    rw [setRow_other _ g k R2 hkg, setRow_other _ g k R1 hkg]; rfl⟩
  have FIN := hide (⟨R2, hG2, hR2s, hfin, hgr⟩ : ∃ cur', Box ((w.drew.setRow g R1).setRow g R2) g 52 cur' ∧ cur'.size = c * 2 ∧ cur'.toList.take ((n + 1) * 2) = xs.take (i * 2) ++ [.int .i64 z, u] ++ xs.drop (i * 2) ∧ w.grownBy ((w.drew.setRow g R1).setRow g R2) (some g))
  have CP1 := hide hcp1
  have CP2 := hide hcp2
  clear hov hcp1 hcp2 hG2 hR2s hfin hgr hpre hmid hR1l hR1s hcl hR1 hR2 hG1 hX1 hdl hs ht hxl
  go_enter Try.func45, Try.ntmps45
  go_wp2_with (simp only [HV.out])
  have hw1 : IntKind.i64.wrap ((i : Int) + 1) = (i : Int) + 1 := by rw [IntKind.wrap_i64]; omega
  have hb1 : (0 : Int) ≤ (i : Int) + 1 := by omega
  have hb4 : (i : Int) + 1 ≤ (n : Int) + 1 := by omega
  have hb5 : (i : Int) ≤ (n : Int) + 1 := by omega
  have htn : ((i : Int) + 1).toNat = i + 1 := by omega
  have hb6 : i + 1 ≤ n + 1 := by omega
  have hb7 : i ≤ n + 1 := by omega
  have hb8 : ¬ (c = i + 1) := by omega
  have hb9 : ¬ (c = i) := by omega
  have mixed : Try.prog.follows Departure.mixedOrders = true := by kernel_rfl
  go_region_law_o (refine step_copy_runI rfl _ _ 22 22 rfl (.slice (some ⟨g, (i + 1) * 2, none⟩) (n - i) (c - (i + 1))) (.slice (some ⟨g, i * 2, none⟩) (n + 1 - i) (c - i)) (by simp [Act.eval, Act.put]) (by simp [Act.eval, Act.put]) (CP1.out 3 (c - (i + 1)) (c - i)) ?_)
  go_wp2_with (refine wpList_copy_runI _ rfl (.tmp 80) (.tmp 81) 22 22 rfl (.slice (some ⟨g, i * 2, none⟩) (n + 1 - i) (c - i)) (.slice (some ⟨nb, 0, none⟩) 1 1) rfl rfl (CP2.out 3 (c - i)) ?_)
  go_ret
  exact ⟨rfl, FIN.out⟩
end Go.Proofs.Ytncjicggolmofaa.Sb
