import Derived.Test.YtncjicggolmofaaS1
import Derived.Deep.RegionLaw
import Derived.RegionTactic
import Derived.BigRegion
namespace Go.Proofs.Ytncjicggolmofaa.Sb
open Go Go.RowKit
set_option linter.unusedVariables false
set_option linter.unusedSimpArgs false
theorem cC_take : ∀ (M : List PC) (i : Nat), cC (M.take i) = (cC M).take (i * 2)
  | [], i => by simp [cC]
  | x :: l, 0 => by simp [cC]
  | x :: l, i + 1 => by
    rw [show (i + 1) * 2 = i * 2 + 2 by omega]
    simp only [List.take_succ_cons, cC, cC_take l i]
theorem cC_drop : ∀ (M : List PC) (i : Nat), cC (M.drop i) = (cC M).drop (i * 2)
  | [], i => by simp [cC]
  | x :: l, 0 => by simp [cC]
  | x :: l, i + 1 => by
    rw [show (i + 1) * 2 = i * 2 + 2 by omega]
    simp only [List.drop_succ_cons, cC, cC_drop l i]
theorem setCells_heap (g : Nat) (t : TypeId) : ∀ (vs : List Value) (o : Nat) (cur : Array Value) (w : World), w.heap[g]? = some (.cells cur t (0, 0)) → o + vs.length ≤ cur.size →
    ∃ cur' : Array Value, (w.setCells g o vs).heap[g]? = some (.cells cur' t (0, 0)) ∧ cur'.toList = cur.toList.take o ++ vs ++ cur.toList.drop (o + vs.length)
  | [], o, cur, w, h, _ => ⟨cur, h, by simp⟩
  | v :: r, o, cur, w, h, hl => by
    have h1 := heap_setCell_same w g o cur t v h
    obtain ⟨cur', h2, h3⟩ := setCells_heap g t r (o + 1) (cur.setIfInBounds o v) (w.setCell ⟨g, o, none⟩ v) h1 (by simp at hl ⊢; omega)
    refine ⟨cur', h2, ?_⟩
    simp only [List.length_cons] at hl
    have ho : o < cur.toList.length := by simp; omega
    rw [h3, Array.toList_setIfInBounds, List.drop_set_of_lt (by omega), show o + 1 + r.length = o + (v :: r).length by simp; omega, List.take_set, List.take_succ_eq_append_getElem ho]
    rw [List.set_append_right _ _ (by simp; omega)]
    have : o - (cur.toList.take o).length = 0 := by simp; omega
    rw [this]
    simp
theorem setCells_other (g : Nat) : ∀ (vs : List Value) (o : Nat) (w : World) (k : Nat), k ≠ g → (w.setCells g o vs).heap[k]? = w.heap[k]?
  | [], o, w, k, _ => rfl
  | v :: r, o, w, k, h => by
    show ((w.setCell ⟨g, o, none⟩ v).setCells g (o + 1) r).heap[k]? = _
    rw [setCells_other g r (o + 1) _ k h, heap_setCell_other w ⟨g, o, none⟩ k v h]
theorem setCells_size (g : Nat) : ∀ (vs : List Value) (o : Nat) (w : World), (w.setCells g o vs).heap.size = w.heap.size ∧ (w.setCells g o vs).os = w.os ∧ (w.setCells g o vs).tape = w.tape ∧ (w.setCells g o vs).output = w.output
  | [], o, w => ⟨rfl, rfl, rfl, rfl⟩
  | v :: r, o, w => by
    have ih := setCells_size g r (o + 1) (w.setCell ⟨g, o, none⟩ v)
    have e : (w.setCell ⟨g, o, none⟩ v).heap.size = w.heap.size := by simp [World.setCell]
    exact ⟨ih.1.trans e, ih.2.1, ih.2.2.1, ih.2.2.2⟩
theorem setCells_grown (g : Nat) (vs : List Value) (o : Nat) (w : World) : w.grownBy (w.setCells g o vs) (some g) := by
  obtain ⟨h1, h2, h3, h4⟩ := setCells_size g vs o w
  exact ⟨h2, h3, h4, by omega, fun k hk hne => setCells_other g vs o w k (fun e => hne (by rw [e]))⟩
theorem grown_trans {w1 w2 w3 : World} {r : Option Nat} (h : w1.grownBy w2 r) (h2 : w2.grownBy w3 r) : w1.grownBy w3 r :=
  ⟨h2.os.trans h.os, h2.tape.trans h.tape, h2.output.trans h.output, Nat.le_trans h.size h2.size, fun k hk hne => (h2.block k (Nat.lt_of_lt_of_le hk h.size) hne).trans (h.block k hk hne)⟩
-- A ROW OF REQUESTS THAT IS BEING REWRITTEN
def RwC (w : World) (g c : Nat) (R : List PC) : Prop := ∃ cur : Array Value, w.heap[g]? = some (.cells cur 52 (0, 0)) ∧ cur.size = c * 2 ∧ cur.toList.take (R.length * 2) = cC R
theorem RwC.frozen {w : World} {g c : Nat} {M : List PC} (h : RwC w g c M) (i : Nat) : w.frozen? ⟨g, i, none⟩ = false := by
  obtain ⟨cur, h1, h2⟩ := h
  simp [World.frozen?, h1]
theorem RwC.cell {w : World} {g c k : Nat} {M : List PC} (h : RwC w g c M) {u : Value} (hu : (cC M)[k]? = some u) : w.cell? ⟨g, k, none⟩ = some u := by
  obtain ⟨cur, hh, h2, ht⟩ := h
  have hj : k < M.length * 2 := by
    rcases Nat.lt_or_ge k (M.length * 2) with h | h
    · exact h
    · rw [List.getElem?_eq_none (by rw [cC_length]; exact h)] at hu; cases hu
  rw [← ht, List.getElem?_take_of_lt hj] at hu
  have e2 : cur[k]? = some u := by simpa using hu
  rw [cell_of_row w g _ cur 52 (0, 0) hh]; exact e2
theorem RwC.isSome {w : World} {g c k : Nat} {M : List PC} (h : RwC w g c M) (hk : k < M.length * 2) (hc : M.length ≤ c) : (w.cell? ⟨g, k, none⟩).isSome = true := by
  obtain ⟨cur, h1, h2, h3⟩ := h
  rw [cell_of_row w g _ cur 52 (0, 0) h1]
  have : k < cur.size := by omega
  simp [this]
theorem RwC.own {B g c : Nat} {M : List PC} {w : World} (h : RwC w g c M) (hB : B ≤ g) (hc : M.length ≤ c) (hm : c ≤ maxLen) : w.ownsRow B 52 2 (.slice (some ⟨g, 0, none⟩) M.length c) M.length (cC M) := by
  obtain ⟨cur, h1, h2, h3⟩ := h
  exact ⟨cC_length M, .inr ⟨g, c, cur, rfl, hB, h1, hc, hm, h2, h3⟩⟩
/-- 'clear' of what lies behind the first i requests -/
theorem run_clearC (w : World) (g c i : Nat) (M : List PC) (h : RwC w g c M) (hi : i < M.length) (hc : M.length ≤ c) :
    ∃ w', (∀ ty d, (Builtin.clear_ #[22] ty #[.slice (some ⟨g, i * 2, none⟩) (M.length - i) d]).run Try.prog w = .ok (.tuple #[]) w') ∧ RwC w' g c (M.take i) ∧ w.grownBy w' (some g) := by
  obtain ⟨cur, h1, h2, h3⟩ := h
  obtain ⟨i0, hi0, hz0, hz1, hz2⟩ := info_parts info52
  have hz : ∀ w, (zeroValue 52).run Try.prog w = .ok (.agg #[.int .i64 0, .slice none 0 0]) w := by intro w; kernel_rfl
  have hcell : (Builtin.zeroCells (Value.agg #[.int .i64 0, .slice none 0 0]).cells (M.length - i)).toList.length = (M.length - i) * 2 := by
    simp [Builtin.zeroCells, Value.cells]
  have hone : ∀ v ∈ (Builtin.zeroCells (Value.agg #[.int .i64 0, .slice none 0 0]).cells (M.length - i)).toList, v.oneCell' = true := by
    intro v hv
    simp [Builtin.zeroCells, Value.cells] at hv
    obtain ⟨a, _, rfl⟩ := hv
    rcases (by omega : a % 2 = 0 ∨ a % 2 = 1) with e | e <;> rw [e] <;> rfl
  generalize hzc : (Builtin.zeroCells (Value.agg #[.int .i64 0, .slice none 0 0]).cells (M.length - i)).toList = zs at *
  have hst := run_storeCells_at (P := Try.prog) g (i * 2) 52 zs 0 cur w h1 (by rw [hcell, h2]; omega) hone
  obtain ⟨ncur, hnc⟩ : ∃ ncur : Array Value, ncur = (List.take (i * 2 + 0) cur.toList ++ zs ++ List.drop (i * 2 + 0 + zs.length) cur.toList).toArray := ⟨_, rfl⟩
  rw [← hnc] at hst
  refine ⟨w.setRow g ncur, fun ty d => ?_, ⟨ncur, setRow_heap w g cur ncur 52 _ h1, ?_, ?_⟩, ?_⟩
  · obtain ⟨m, hm⟩ : ∃ m, M.length - i = m + 1 := ⟨M.length - i - 1, by omega⟩
    rw [hm] at hzc ⊢
    simp [Builtin.clear_, run_underlying Try.underlying22, hz, hzc, hst]
  · rw [hnc]
    simp
    omega
  · rw [hnc, cC_take, ← h3, List.length_take, Nat.min_eq_left (by omega), List.take_take, Nat.min_eq_left (by omega)]
    rw [List.toList_toArray, List.append_assoc, List.take_append_of_le_length (by rw [List.length_take]; simp; omega), List.take_take, Nat.add_zero, Nat.min_self]
  · exact ⟨rfl, rfl, rfl, by simp, fun k hk hne => setRow_other w g k ncur (fun e => hne (by rw [e]))⟩
/-- the row behind 'append(s[:i], s[i+1:]...)' -/
theorem RwC.shift {w : World} {g c n i : Nat} {L : List PC} (h : RwC w g c L) (hL : L.length = n + 1) (hi : i ≤ n) (hc : L.length ≤ c) : ∃ x, RwC (w.setCells g (i * 2) (cC (L.drop (i + 1)))) g c (L.take i ++ L.drop (i + 1) ++ [x]) := by
  obtain ⟨cur, h1, h2, h3⟩ := h
  have hl : (cC (L.drop (i + 1))).length = (n - i) * 2 := by rw [cC_length, List.length_drop, hL]; congr 1; omega
  obtain ⟨cur', k1, k2⟩ := setCells_heap g 52 (cC (L.drop (i + 1))) (i * 2) cur w h1 (by rw [hl, h2]; omega)
  rw [hl] at k2
  have hcl : cur.toList.length = c * 2 := by simpa using h2
  refine ⟨L[n]'(by omega), cur', k1, ?_, ?_⟩
  · have := congrArg List.length k2
    rw [List.length_append, List.length_append, hl, List.length_drop, List.length_take, hcl] at this
    simp at this
    omega
  · have e1 : (L.take i ++ L.drop (i + 1) ++ [L[n]'(by omega)]).length * 2 = i * 2 + (n - i) * 2 + 2 := by simp; omega
    have e2 : L.drop n = [L[n]'(by omega)] := by
      rw [List.drop_eq_getElem_cons (show n < L.length by omega), List.drop_eq_nil_of_le (by omega)]
    have e3 : (cur.toList.drop (n * 2)).take 2 = cC [L[n]'(by omega)] := by
      rw [← e2, cC_drop, ← h3, hL, List.drop_take]
      congr 1; omega
    have e4 : cur.toList.take (i * 2) = cC (L.take i) := by
      rw [cC_take, ← h3, List.take_take, Nat.min_eq_left (by omega)]
    rw [e1, k2, e4, cC_append, cC_append]
    have l1 : (cC (L.take i)).length = i * 2 := by rw [cC_length, List.length_take, Nat.min_eq_left (by omega)]
    have l2 : (cC (L.take i) ++ cC (L.drop (i + 1))).length = i * 2 + (n - i) * 2 := by rw [List.length_append, l1, hl]
    rw [List.take_append, l2, List.take_of_length_le (by rw [l2]; omega), show i * 2 + (n - i) * 2 + 2 - (i * 2 + (n - i) * 2) = 2 by omega, show i * 2 + (n - i) * 2 = n * 2 by omega, e3]
set_option maxRecDepth 100000 in
set_option maxHeartbeats 1000000 in
theorem del_rows (b c n i : Nat) (L : List PC) (w : World) (hL : L.length = n + 1) (hi : i ≤ n) (hc : L.length ≤ c) (hm : c ≤ maxLen) (hr : RwC w b c L) (hP : ∀ r ∈ L, ∃ l : By, ∃ A c, r.2.2 = .slice A l.length c) :
    Calls Try.prog 48 #[.slice (some ⟨b, 0, none⟩) (n + 1) c, .int .i64 i, .int .i64 ((i : Int) + 1)] w fun e w' => e = .returned (.slice (some ⟨b, 0, none⟩) n c) ∧ RwC w' b c (L.take i ++ L.drop (i + 1)) ∧ w.grownBy w' (some b) := by
  obtain ⟨i0, hi0, hz0, hz1, hz2⟩ := info_parts info52
  have hr1 : RwC w.drew b c L := hr
  obtain ⟨news, hnews⟩ : ∃ news, news = cC (L.drop (i + 1)) := ⟨_, rfl⟩
  obtain ⟨W1, hW1⟩ : ∃ W1, W1 = w.drew.setCells b (i * 2) news := ⟨_, rfl⟩
  obtain ⟨x, hsh⟩ : ∃ x, RwC W1 b c (L.take i ++ L.drop (i + 1) ++ [x]) := by rw [hW1, hnews]; exact hr1.shift hL hi hc
  have hlen1 : (L.take i ++ L.drop (i + 1)).length = n := by simp; omega
  have hlen2 : (L.take i ++ L.drop (i + 1) ++ [x]).length = n + 1 := by rw [List.length_append, hlen1]; rfl
  obtain ⟨w6, hrun, hr6, hbb⟩ := run_clearC W1 b c n _ hsh (by omega) (by omega)
  have hb1 : w.grownBy W1 (some b) := by rw [hW1]; have q := setCells_grown b news (i * 2) w.drew; exact ⟨q.os, q.tape, q.output, q.size, q.block⟩
  have K6 := hide (grown_trans hb1 hbb)
  rw [List.take_append_of_le_length (by omega), List.take_of_length_le (by omega)] at hr6
  have O6 := hide hr6
  rw [hlen2, show n + 1 - n = 1 by omega] at hrun
  have hcl := hrun
  have s1 : Hid (news.length = (n - i) * 2) := by rw [hnews, cC_length, List.length_drop, hL]; congr 1; omega
  have s2 : Hid (∀ u ∈ news, u.oneCell' = true) := by rw [hnews]; exact cC_one fun r hr => hP r (List.mem_of_mem_drop hr)
  have s3 : Hid (∀ t, t < news.length → (w.drew.cell? ⟨b, 0 + i * 2 + t, none⟩).isSome = true ∧ w.drew.frozen? ⟨b, 0 + i * 2 + t, none⟩ = false) := by
    intro t ht
    rw [s1.out] at ht
    exact ⟨hr1.isSome (by omega) hc, hr1.frozen _⟩
  have hc1 : (1 : Int) ≤ (n : Int) + 1 := by omega
  have hnc : n + 1 ≤ c := by omega
  have hic : i + 1 ≤ c := by omega
  have hin : i < n + 1 := by omega
  unfold maxLen at hm
  have HW := hide (show W1 = w.drew.setCells b (0 + i * 2) news by rw [Nat.zero_add]; exact hW1)
  have hsrc : Hid (∀ t u, news[t]? = some u → w.drew.cell? ⟨b, (i + 1) * 2 + t, none⟩ = some u) := by
    intro t u hu
    rw [hnews, cC_drop, List.getElem?_drop] at hu
    exact hr1.cell hu
  have N0 := hide (show n = i → news = [] by intro e; have := s1.out; rw [e] at this; simpa using this)
  have hni : (i : Int) ≤ (n : Int) := by omega
  have hne : ((i : Int) == (i : Int) + 1) = false := by rw [beq_eq_false_iff_ne]; omega
  clear hr hr1 hnews hW1 hsh hlen1 hlen2 hrun hr6 hbb hb1 hL hc hP
  rcases (by omega : c = i + 1 ∨ i + 1 < c) with h | h
  · obtain rfl : n = i := by omega
    subst h
    have hn0 := N0.out rfl
    subst hn0
    have hsr : Hid (∀ t u, ([] : List Value)[t]? = some u → w.drew.cell? ((⟨b, 0, none⟩ : Addr).add t) = some u) := fun t u hu => by simp at hu
    have hle : (n : Int) ≤ (n : Int) + 1 := by omega
    have hle0 : (0 : Int) ≤ (n : Int) + 1 := by omega
    clear N0 hsrc
    go_enter Try.func48, Try.ntmps48
    go_wp2_with fail
    go_region_law (refine step_append_room rfl (.tmp 22) (.tmp 25) 22 rfl 52 i0 2 Try.underlying22 hi0 hz1 b 0 n (n + 1) (by simp [Act.eval, Act.put]) ⟨b, 0, none⟩ 0 0 [] (by simp [Act.eval, Act.put]) (by simp) hsr.out s2.out (by omega) s3.out ?_; rw [← HW.out])
    go_wp2
    go_ret
    exact ⟨by simp, O6.out, K6.out⟩
  · have hsr : Hid (∀ t u, news[t]? = some u → w.drew.cell? ((⟨b, (i + 1) * 2, none⟩ : Addr).add t) = some u) := fun t u hu => by rw [add_at']; exact hsrc.out t u hu
    have hci : ¬ c = i + 1 := by omega
    have hic2 : i ≤ c := by omega
    have hle0 : (0 : Int) ≤ (i : Int) + 1 := by omega
    have hic3 : (i : Int) + 1 ≤ (n : Int) + 1 := by omega
    have hnc3 : n ≠ c := by omega
    clear N0 hsrc
    go_enter Try.func48, Try.ntmps48
    go_wp2_with fail
    go_region_law (refine step_append_room rfl (.tmp 22) (.tmp 25) 22 rfl 52 i0 2 Try.underlying22 hi0 hz1 b 0 i c (by simp [Act.eval, Act.put]) ⟨b, (i + 1) * 2, none⟩ (n - i) (c - (i + 1)) news (by simp [Act.eval, Act.put]) s1.out hsr.out s2.out (by omega) s3.out ?_; rw [← HW.out])
    go_wp2
    go_ret
    exact ⟨by simp, O6.out, K6.out⟩
end Go.Proofs.Ytncjicggolmofaa.Sb
