import Derived.Test.YtncdilkcblakhaaDCs1
import Derived.Deep.RegionLaw
namespace Go.Proofs.Ytncdilkcblakhaa.Dv
open Go Go.RowKit
set_option linter.unusedVariables false
theorem setCells_heap (g : Nat) (t : TypeId) : ∀ (vs : List Value) (o : Nat) (cur : Array Value) (w : World), w.heap[g]? = some (.cells cur t (0, 0)) → o + vs.length ≤ cur.size →
    ∃ cur' : Array Value, (w.setCells g o vs).heap[g]? = some (.cells cur' t (0, 0)) ∧ cur'.toList = cur.toList.take o ++ vs ++ cur.toList.drop (o + vs.length)
  | [], o, cur, w, h, _ => ⟨cur, h, by simp⟩
  | v :: r, o, cur, w, h, hl => by
    have h1 := heap_setCell_same w g o cur t v h
    obtain ⟨cur', h2, h3⟩ := setCells_heap g t r (o + 1) (cur.setIfInBounds o v) (w.setCell ⟨g, o, none⟩ v) h1 (by simp at hl ⊢; omega)
    refine ⟨cur', h2, ?_⟩
    simp only [List.length_cons] at hl
    have ho : o < cur.toList.length := by simp; omega
    rw [h3, Array.toList_setIfInBounds, List.drop_set_of_lt (by omega), show o + 1 + r.length = o + (v :: r).length by simp; omega, List.take_set, List.take_succ_eq_append_getElem ho]
    rw [List.set_append_right _ _ (by simp; omega)]
    have : o - (cur.toList.take o).length = 0 := by simp; omega
    rw [this]
    simp
theorem setCells_other (g : Nat) : ∀ (vs : List Value) (o : Nat) (w : World) (k : Nat), k ≠ g → (w.setCells g o vs).heap[k]? = w.heap[k]?
  | [], o, w, k, _ => rfl
  | v :: r, o, w, k, h => by
    show ((w.setCell ⟨g, o, none⟩ v).setCells g (o + 1) r).heap[k]? = _
    rw [setCells_other g r (o + 1) _ k h, heap_setCell_other w ⟨g, o, none⟩ k v h]
theorem setCells_size (g : Nat) : ∀ (vs : List Value) (o : Nat) (w : World), (w.setCells g o vs).heap.size = w.heap.size ∧ (w.setCells g o vs).os = w.os ∧ (w.setCells g o vs).tape = w.tape ∧ (w.setCells g o vs).output = w.output
  | [], o, w => ⟨rfl, rfl, rfl, rfl⟩
  | v :: r, o, w => by
    have ih := setCells_size g r (o + 1) (w.setCell ⟨g, o, none⟩ v)
    have e : (w.setCell ⟨g, o, none⟩ v).heap.size = w.heap.size := by simp [World.setCell]
    exact ⟨ih.1.trans e, ih.2.1, ih.2.2.1, ih.2.2.2⟩
theorem setCells_grown (g : Nat) (vs : List Value) (o : Nat) (w : World) : w.grownBy (w.setCells g o vs) (some g) := by
  obtain ⟨h1, h2, h3, h4⟩ := setCells_size g vs o w
  exact ⟨h2, h3, h4, by omega, fun k hk hne => setCells_other g vs o w k (fun e => hne (by rw [e]))⟩
theorem grown_trans {w1 w2 w3 : World} {r : Option Nat} (h : w1.grownBy w2 r) (h2 : w2.grownBy w3 r) : w1.grownBy w3 r :=
  ⟨h2.os.trans h.os, h2.tape.trans h.tape, h2.output.trans h.output, Nat.le_trans h.size h2.size, fun k hk hne => (h2.block k (Nat.lt_of_lt_of_le hk h.size) hne).trans (h.block k hk hne)⟩
-- A ROW OF REQUESTS THAT IS BEING REWRITTEN
def RowQ (w : World) (g c : Nat) (R : List PQ) : Prop := ∃ cur : Array Value, w.heap[g]? = some (.cells cur 67 (0, 0)) ∧ cur.size = c * 4 ∧ cur.toList.take (R.length * 4) = cQ R
theorem RowQ.frozen {w : World} {g c : Nat} {M : List PQ} (h : RowQ w g c M) (i : Nat) : w.frozen? ⟨g, i, none⟩ = false := by
  obtain ⟨cur, h1, h2⟩ := h
  simp [World.frozen?, h1]
theorem RowQ.cell {w : World} {g c k : Nat} {M : List PQ} (h : RowQ w g c M) {u : Value} (hu : (cQ M)[k]? = some u) : w.cell? ⟨g, k, none⟩ = some u := by
  obtain ⟨cur, hh, h2, ht⟩ := h
  have hj : k < M.length * 4 := by
    rcases Nat.lt_or_ge k (M.length * 4) with h | h
    · exact h
    · rw [List.getElem?_eq_none (by rw [cQ_length]; exact h)] at hu; cases hu
  rw [← ht, List.getElem?_take_of_lt hj] at hu
  have e2 : cur[k]? = some u := by simpa using hu
  rw [cell_of_row w g _ cur 67 (0, 0) hh]; exact e2
theorem RowQ.isSome {w : World} {g c k : Nat} {M : List PQ} (h : RowQ w g c M) (hk : k < M.length * 4) (hc : M.length ≤ c) : (w.cell? ⟨g, k, none⟩).isSome = true := by
  obtain ⟨cur, h1, h2, h3⟩ := h
  rw [cell_of_row w g _ cur 67 (0, 0) h1]
  have : k < cur.size := by omega
  simp [this]
theorem RowQ.own {B g c : Nat} {M : List PQ} {w : World} (h : RowQ w g c M) (hB : B ≤ g) (hc : M.length ≤ c) (hm : c ≤ maxLen) : w.ownsRow B 67 4 (.slice (some ⟨g, 0, none⟩) M.length c) M.length (cQ M) := by
  obtain ⟨cur, h1, h2, h3⟩ := h
  exact ⟨cQ_length M, .inr ⟨g, c, cur, rfl, hB, h1, hc, hm, h2, h3⟩⟩
theorem cQ_take : ∀ (M : List PQ) (i : Nat), cQ (M.take i) = (cQ M).take (i * 4)
  | [], i => by simp [cQ]
  | x :: l, 0 => by simp [cQ]
  | x :: l, i + 1 => by
    rw [show (i + 1) * 4 = i * 4 + 4 by omega]
    simp only [List.take_succ_cons, cQ, cQ_take l i]
theorem cQ_drop : ∀ (M : List PQ) (i : Nat), cQ (M.drop i) = (cQ M).drop (i * 4)
  | [], i => by simp [cQ]
  | x :: l, 0 => by simp [cQ]
  | x :: l, i + 1 => by
    rw [show (i + 1) * 4 = i * 4 + 4 by omega]
    simp only [List.drop_succ_cons, cQ, cQ_drop l i]
theorem cQ_one {R : List PQ} (hP : ∀ r ∈ R, ∃ l : By, ∃ A c, r.2.2.2.2 = .slice A l.length c) : ∀ u ∈ cQ R, u.oneCell' = true := by
  induction R with
  | nil => intro u hu; cases hu
  | cons r R ih =>
    intro u hu
    simp only [cQ, List.mem_cons] at hu
    rcases hu with rfl | rfl | rfl | rfl | hu
    · rfl
    · rfl
    · rfl
    · obtain ⟨l, A, c, e⟩ := hP r (by simp)
      rw [e]; rfl
    · exact ih (fun r hr => hP r (by simp [hr])) u hu
/-- 'clear' of what lies behind the first i requests -/
theorem run_clearQ (w : World) (g c i : Nat) (M : List PQ) (h : RowQ w g c M) (hi : i < M.length) (hc : M.length ≤ c) :
    ∃ w', (∀ ty d, (Builtin.clear_ #[55] ty #[.slice (some ⟨g, i * 4, none⟩) (M.length - i) d]).run Try.prog w = .ok (.tuple #[]) w') ∧ RowQ w' g c (M.take i) ∧ w.grownBy w' (some g) := by
  obtain ⟨cur, h1, h2, h3⟩ := h
  obtain ⟨i0, hi0, hz0, hz1, hz2⟩ := info_parts info67
  have hz : ∀ w, (zeroValue 67).run Try.prog w = .ok (.agg #[.int .i64 0, .int .i64 0, .int .i64 0, .slice none 0 0]) w := by intro w; kernel_rfl
  have hcell : (Builtin.zeroCells (Value.agg #[.int .i64 0, .int .i64 0, .int .i64 0, .slice none 0 0]).cells (M.length - i)).toList.length = (M.length - i) * 4 := by
    simp [Builtin.zeroCells, Value.cells]
  have hone : ∀ v ∈ (Builtin.zeroCells (Value.agg #[.int .i64 0, .int .i64 0, .int .i64 0, .slice none 0 0]).cells (M.length - i)).toList, v.oneCell' = true := by
    intro v hv
    simp [Builtin.zeroCells, Value.cells] at hv
    obtain ⟨a, _, rfl⟩ := hv
    rcases (by omega : a % 4 = 0 ∨ a % 4 = 1 ∨ a % 4 = 2 ∨ a % 4 = 3) with e | e | e | e <;> rw [e] <;> rfl
  generalize hzc : (Builtin.zeroCells (Value.agg #[.int .i64 0, .int .i64 0, .int .i64 0, .slice none 0 0]).cells (M.length - i)).toList = zs at *
  have hst := run_storeCells_at (P := Try.prog) g (i * 4) 67 zs 0 cur w h1 (by rw [hcell, h2]; omega) hone
  obtain ⟨ncur, hnc⟩ : ∃ ncur : Array Value, ncur = (List.take (i * 4 + 0) cur.toList ++ zs ++ List.drop (i * 4 + 0 + zs.length) cur.toList).toArray := ⟨_, rfl⟩
  rw [← hnc] at hst
  refine ⟨w.setRow g ncur, fun ty d => ?_, ⟨ncur, setRow_heap w g cur ncur 67 _ h1, ?_, ?_⟩, ?_⟩
  · obtain ⟨m, hm⟩ : ∃ m, M.length - i = m + 1 := ⟨M.length - i - 1, by omega⟩
    rw [hm] at hzc ⊢
    simp [Builtin.clear_, run_underlying Try.underlying55, hz, hzc, hst]
  · rw [hnc]
    simp
    omega
  · rw [hnc, cQ_take, ← h3, List.length_take, Nat.min_eq_left (by omega), List.take_take, Nat.min_eq_left (by omega)]
    rw [List.toList_toArray, List.append_assoc, List.take_append_of_le_length (by rw [List.length_take]; simp; omega), List.take_take, Nat.add_zero, Nat.min_self]
  · exact ⟨rfl, rfl, rfl, by simp, fun k hk hne => setRow_other w g k ncur (fun e => hne (by rw [e]))⟩
/-- the row behind 'append(s[:i], s[i+1:]...)' -/
theorem RowQ.shift {w : World} {g c n i : Nat} {L : List PQ} (h : RowQ w g c L) (hL : L.length = n + 1) (hi : i ≤ n) (hc : L.length ≤ c) : ∃ x, RowQ (w.setCells g (i * 4) (cQ (L.drop (i + 1)))) g c (L.take i ++ L.drop (i + 1) ++ [x]) := by
  obtain ⟨cur, h1, h2, h3⟩ := h
  have hl : (cQ (L.drop (i + 1))).length = (n - i) * 4 := by rw [cQ_length, List.length_drop, hL]; congr 1; omega
  obtain ⟨cur', k1, k2⟩ := setCells_heap g 67 (cQ (L.drop (i + 1))) (i * 4) cur w h1 (by rw [hl, h2]; omega)
  rw [hl] at k2
  have hcl : cur.toList.length = c * 4 := by simpa using h2
  refine ⟨L[n]'(by omega), cur', k1, ?_, ?_⟩
  · have := congrArg List.length k2
    rw [List.length_append, List.length_append, hl, List.length_drop, List.length_take, hcl] at this
    simp at this
    omega
  · have e1 : (L.take i ++ L.drop (i + 1) ++ [L[n]'(by omega)]).length * 4 = i * 4 + (n - i) * 4 + 4 := by simp; omega
    have e2 : L.drop n = [L[n]'(by omega)] := by
      rw [List.drop_eq_getElem_cons (show n < L.length by omega), List.drop_eq_nil_of_le (by omega)]
    have e3 : (cur.toList.drop (n * 4)).take 4 = cQ [L[n]'(by omega)] := by
      rw [← e2, cQ_drop, ← h3, hL, List.drop_take]
      congr 1; omega
    have e4 : cur.toList.take (i * 4) = cQ (L.take i) := by
      rw [cQ_take, ← h3, List.take_take, Nat.min_eq_left (by omega)]
    rw [e1, k2, e4, cQ_append, cQ_append]
    have l1 : (cQ (L.take i)).length = i * 4 := by rw [cQ_length, List.length_take, Nat.min_eq_left (by omega)]
    have l2 : (cQ (L.take i) ++ cQ (L.drop (i + 1))).length = i * 4 + (n - i) * 4 := by rw [List.length_append, l1, hl]
    rw [List.take_append, l2, List.take_of_length_le (by rw [l2]; omega), show i * 4 + (n - i) * 4 + 4 - (i * 4 + (n - i) * 4) = 4 by omega, show i * 4 + (n - i) * 4 = n * 4 by omega, e3]
end Go.Proofs.Ytncdilkcblakhaa.Dv
namespace Go.Proofs.Ytncdilkcblakhaa.Dv
open Go Go.RowKit
set_option linter.unusedVariables false
set_option maxRecDepth 100000 in
set_option maxHeartbeats 1000000 in
theorem del_any (b c n i : Nat) (L : List PQ) (w : World) (hL : L.length = n + 1) (hi : i ≤ n) (hc : L.length ≤ c) (hm : c ≤ maxLen) (hr : RowQ w b c L) (hP : ∀ r ∈ L, ∃ l : By, ∃ A c, r.2.2.2.2 = .slice A l.length c) :
    Calls Try.prog 47 #[.slice (some ⟨b, 0, none⟩) (n + 1) c, .int .i64 i, .int .i64 ((i : Int) + 1)] w fun e w' => e = .returned (.slice (some ⟨b, 0, none⟩) n c) ∧ RowQ w' b c (L.take i ++ L.drop (i + 1)) ∧ w.grownBy w' (some b) := by
  obtain ⟨i0, hi0, hz0, hz1, hz2⟩ := info_parts info67
  have hr1 : RowQ w.drew b c L := hr
  obtain ⟨news, hnews⟩ : ∃ news, news = cQ (L.drop (i + 1)) := ⟨_, rfl⟩
  obtain ⟨W1, hW1⟩ : ∃ W1, W1 = w.drew.setCells b (i * 4) news := ⟨_, rfl⟩
  obtain ⟨x, hsh⟩ : ∃ x, RowQ W1 b c (L.take i ++ L.drop (i + 1) ++ [x]) := by rw [hW1, hnews]; exact hr1.shift hL hi hc
  have hlen1 : (L.take i ++ L.drop (i + 1)).length = n := by simp; omega
  have hlen2 : (L.take i ++ L.drop (i + 1) ++ [x]).length = n + 1 := by rw [List.length_append, hlen1]; rfl
  obtain ⟨w6, hrun, hr6, hbb⟩ := run_clearQ W1 b c n _ hsh (by omega) (by omega)
  have hb1 : w.grownBy W1 (some b) := by rw [hW1]; have q := setCells_grown b news (i * 4) w.drew; exact ⟨q.os, q.tape, q.output, q.size, q.block⟩
  have K6 := hide (grown_trans hb1 hbb)
  rw [List.take_append_of_le_length (by omega), List.take_of_length_le (by omega)] at hr6
  have O6 := hide hr6
  rw [hlen2, show n + 1 - n = 1 by omega] at hrun
  have hcl := hrun
  have s1 : Hid (news.length = (n - i) * 4) := by rw [hnews, cQ_length, List.length_drop, hL]; congr 1; omega
  have s2 : Hid (∀ u ∈ news, u.oneCell' = true) := by rw [hnews]; exact cQ_one fun r hr => hP r (List.mem_of_mem_drop hr)
  have s3 : Hid (∀ t, t < news.length → (w.drew.cell? ⟨b, 0 + i * 4 + t, none⟩).isSome = true ∧ w.drew.frozen? ⟨b, 0 + i * 4 + t, none⟩ = false) := by
    intro t ht
    rw [s1.out] at ht
    exact ⟨hr1.isSome (by omega) hc, hr1.frozen _⟩
  have hc1 : (1 : Int) ≤ (n : Int) + 1 := by omega
  have hnc : n + 1 ≤ c := by omega
  have hic : i + 1 ≤ c := by omega
  have hin : i < n + 1 := by omega
  unfold maxLen at hm
  have HW := hide (show W1 = w.drew.setCells b (0 + i * 4) news by rw [Nat.zero_add]; exact hW1)
  have hsrc : Hid (∀ t u, news[t]? = some u → w.drew.cell? ⟨b, (i + 1) * 4 + t, none⟩ = some u) := by
    intro t u hu
    rw [hnews, cQ_drop, List.getElem?_drop] at hu
    exact hr1.cell hu
  have N0 := hide (show n = i → news = [] by intro e; have := s1.out; rw [e] at this; simpa using this)
  have hni : (i : Int) ≤ (n : Int) := by omega
  have hne : ((i : Int) == (i : Int) + 1) = false := by rw [beq_eq_false_iff_ne]; omega
  clear hr hr1 hnews hW1 hsh hlen1 hlen2 hrun hr6 hbb hb1 hL hc hP
  rcases (by omega : c = i + 1 ∨ i + 1 < c) with h | h
  · obtain rfl : n = i := by omega
    subst h
    have hn0 := N0.out rfl
    subst hn0
    have hsr : Hid (∀ t u, ([] : List Value)[t]? = some u → w.drew.cell? ((⟨b, 0, none⟩ : Addr).add t) = some u) := fun t u hu => by simp at hu
    have hle : (n : Int) ≤ (n : Int) + 1 := by omega
    have hle0 : (0 : Int) ≤ (n : Int) + 1 := by omega
    clear N0 hsrc
    go_enter Try.func47, Try.ntmps47
    go_wp2_with fail
    go_region_law (refine step_append_room rfl (.tmp 22) (.tmp 25) 55 rfl 67 i0 4 Try.underlying55 hi0 hz1 b 0 n (n + 1) (by simp [Act.eval, Act.put]) ⟨b, 0, none⟩ 0 0 [] (by simp [Act.eval, Act.put]) (by simp) hsr.out s2.out (by omega) s3.out ?_; rw [← HW.out])
    go_wp2
    go_ret
    exact ⟨by simp, O6.out, K6.out⟩
  · have hsr : Hid (∀ t u, news[t]? = some u → w.drew.cell? ((⟨b, (i + 1) * 4, none⟩ : Addr).add t) = some u) := fun t u hu => by rw [add_at']; exact hsrc.out t u hu
    have hci : ¬ c = i + 1 := by omega
    have hic2 : i ≤ c := by omega
    have hle0 : (0 : Int) ≤ (i : Int) + 1 := by omega
    have hic3 : (i : Int) + 1 ≤ (n : Int) + 1 := by omega
    have hnc3 : n ≠ c := by omega
    clear N0 hsrc
    go_enter Try.func47, Try.ntmps47
    go_wp2_with fail
    go_region_law (refine step_append_room rfl (.tmp 22) (.tmp 25) 55 rfl 67 i0 4 Try.underlying55 hi0 hz1 b 0 i c (by simp [Act.eval, Act.put]) ⟨b, (i + 1) * 4, none⟩ (n - i) (c - (i + 1)) news (by simp [Act.eval, Act.put]) s1.out hsr.out s2.out (by omega) s3.out ?_; rw [← HW.out])
    go_wp2
    go_ret
    exact ⟨by simp, O6.out, K6.out⟩
end Go.Proofs.Ytncdilkcblakhaa.Dv
