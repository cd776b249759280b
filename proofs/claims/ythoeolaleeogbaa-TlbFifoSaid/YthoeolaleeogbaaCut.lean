import Derived.Test.YthoeolaleeogbaaWo
import Derived.Deep.RegionLaw
namespace Go.Proofs.Ythoeolaleeogbaa.Tb
open Go Go.RowKit Go.Proofs.Ythoeolaleeogbaa.Pt
set_option linter.unusedVariables false
theorem tcs_drop : ∀ (M : List Te) (i : Nat), tcs (M.drop i) = (tcs M).drop (i * 3)
  | [], i => by simp [tcs]
  | x :: l, 0 => by simp [tcs]
  | x :: l, i + 1 => by
    rw [show (i + 1) * 3 = i * 3 + 3 by omega]
    simp only [List.drop_succ_cons, tcs, tcs_drop l i]
theorem setCells_heap (g : Nat) (t : TypeId) : ∀ (vs : List Value) (o : Nat) (cur : Array Value) (w : World), w.heap[g]? = some (.cells cur t (0, 0)) → o + vs.length ≤ cur.size →
    ∃ cur' : Array Value, (w.setCells g o vs).heap[g]? = some (.cells cur' t (0, 0)) ∧ cur'.toList = cur.toList.take o ++ vs ++ cur.toList.drop (o + vs.length)
  | [], o, cur, w, h, _ => ⟨cur, h, by simp⟩
  | v :: r, o, cur, w, h, hl => by
    have h1 := heap_setCell_same w g o cur t v h
    obtain ⟨cur', h2, h3⟩ := setCells_heap g t r (o + 1) (cur.setIfInBounds o v) (w.setCell ⟨g, o, none⟩ v) h1 (by simp at hl ⊢; omega)
    refine ⟨cur', h2, ?_⟩
    simp only [List.length_cons] at hl
    have ho : o < cur.toList.length := by simp; omega
    rw [h3, Array.toList_setIfInBounds, List.drop_set_of_lt (by omega), show o + 1 + r.length = o + (v :: r).length by simp; omega, List.take_set, List.take_succ_eq_append_getElem ho]
    rw [List.set_append_right _ _ (by simp; omega)]
    have : o - (cur.toList.take o).length = 0 := by simp; omega
    rw [this]
    simp
theorem setCells_other (g : Nat) : ∀ (vs : List Value) (o : Nat) (w : World) (k : Nat), k ≠ g → (w.setCells g o vs).heap[k]? = w.heap[k]?
  | [], o, w, k, _ => rfl
  | v :: r, o, w, k, h => by
    show ((w.setCell ⟨g, o, none⟩ v).setCells g (o + 1) r).heap[k]? = _
    rw [setCells_other g r (o + 1) _ k h, heap_setCell_other w ⟨g, o, none⟩ k v h]
theorem setCells_size (g : Nat) : ∀ (vs : List Value) (o : Nat) (w : World), (w.setCells g o vs).heap.size = w.heap.size ∧ (w.setCells g o vs).os = w.os ∧ (w.setCells g o vs).tape = w.tape ∧ (w.setCells g o vs).output = w.output
  | [], o, w => ⟨rfl, rfl, rfl, rfl⟩
  | v :: r, o, w => by
    have ih := setCells_size g r (o + 1) (w.setCell ⟨g, o, none⟩ v)
    have e : (w.setCell ⟨g, o, none⟩ v).heap.size = w.heap.size := by simp [World.setCell]
    exact ⟨ih.1.trans e, ih.2.1, ih.2.2.1, ih.2.2.2⟩
theorem setCells_grown (g : Nat) (vs : List Value) (o : Nat) (w : World) : w.grownBy (w.setCells g o vs) (some g) := by
  obtain ⟨h1, h2, h3, h4⟩ := setCells_size g vs o w
  exact ⟨h2, h3, h4, by omega, fun k hk hne => setCells_other g vs o w k (fun e => hne (by rw [e]))⟩
theorem setCells_below (g : Nat) {B : Nat} {w0 : World} : ∀ (vs : List Value) (o : Nat) (w : World), Below B w0 w → B ≤ g → Below B w0 (w.setCells g o vs)
  | [], o, w, h, _ => h
  | v :: r, o, w, h, hg => setCells_below g r (o + 1) _ (h.setCell hg v) hg
/-- the row behind 'append(s[:0], s[1:]...)' -/
theorem RowT.shift {w : World} {g c n : Nat} {L : List Te} (h : RowT w g c L) (hL : L.length = n + 1) (hc : L.length ≤ c) : RowT (w.setCells g 0 (tcs (L.drop 1))) g c (L.drop 1 ++ [teAt L n]) := by
  obtain ⟨cur, h1, h2, h3⟩ := h
  have hl : (tcs (L.drop 1)).length = n * 3 := by rw [tcs_length, List.length_drop, hL]; congr 1
  obtain ⟨cur', k1, k2⟩ := setCells_heap g 47 (tcs (L.drop 1)) 0 cur w h1 (by rw [hl, h2]; omega)
  rw [hl] at k2
  simp only [List.take_zero, List.nil_append, Nat.zero_add] at k2
  refine ⟨cur', k1, ?_, ?_⟩
  · have := congrArg List.length k2
    rw [List.length_append, hl, List.length_drop] at this
    simp at this
    omega
  · have e1 : (L.drop 1 ++ [teAt L n]).length * 3 = n * 3 + 3 := by simp; omega
    have e2 : L.drop n = [teAt L n] := by
      rw [List.drop_eq_getElem_cons (show n < L.length by omega), teAt_get (show n < L.length by omega), List.drop_eq_nil_of_le (by omega)]
    have e3 : (cur.toList.drop (n * 3)).take 3 = tcs [teAt L n] := by
      rw [← e2, tcs_drop, ← h3, hL, List.drop_take]
      congr 1; omega
    rw [e1, k2, List.take_append, hl, List.take_of_length_le (by rw [hl]; omega), show n * 3 + 3 - n * 3 = 3 by omega, e3, tcs_append]
theorem alloc_lt_cell {w : World} {g c k : Nat} {M : List Te} (h : RowT w g c M) (hk : k < M.length * 3) (hc : M.length ≤ c) : (w.cell? ⟨g, k, none⟩).isSome = true := by
  obtain ⟨cur, h1, h2, h3⟩ := h
  rw [cell_of_row w g _ cur 47 (0, 0) h1]
  have : k < cur.size := by omega
  simp [this]
set_option maxHeartbeats 4000000 in
theorem cut_any (b c n : Nat) (L : List Te) (w : World) (B : Nat) (hL : L.length = n + 1) (hc : L.length ≤ c) (hm : c ≤ maxLen) (hr : RowT w b c L) (hB : B ≤ b) :
    Calls Try.prog 44 #[.slice (some ⟨b, 0, none⟩) (n + 1) c, .int .i64 0, .int .i64 1] w fun e w' => e = .returned (.slice (some ⟨b, 0, none⟩) n c) ∧ OwnR B (L.drop 1) (some ⟨b, 0, none⟩) c w' ∧ w.grownBy w' (some b) := by
  obtain ⟨i0, hi0, hz0, hz1, hz2⟩ := info_parts info47
  have hr1 : RowT w.drew b c L := hr
  obtain ⟨news, hnews⟩ : ∃ news, news = tcs (L.drop 1) := ⟨_, rfl⟩
  obtain ⟨W1, hW1⟩ : ∃ W1, W1 = w.drew.setCells b 0 news := ⟨_, rfl⟩
  have hsh : RowT W1 b c (L.drop 1 ++ [teAt L n]) := by rw [hW1, hnews]; exact hr1.shift hL hc
  have hlen2 : (L.drop 1 ++ [teAt L n]).length = n + 1 := by simp; omega
  obtain ⟨w6, hrun, hr6, hbb⟩ := run_clear_row W1 b c n _ hsh (by omega) (by omega)
  have hb1 : w.grownBy W1 (some b) := by rw [hW1]; have q := setCells_grown b news 0 w.drew; exact ⟨q.os, q.tape, q.output, q.size, q.block⟩
  have K6 := hide (grown_trans hb1 hbb)
  have hd : (L.drop 1 ++ [teAt L n]).take n = L.drop 1 := by
    rw [List.take_append_of_le_length (by simp; omega), List.take_of_length_le (by simp; omega)]
  rw [hd] at hr6
  rw [hlen2, show n + 1 - n = 1 by omega] at hrun
  have O6 := hide (hr6.own hB (by simp; omega) hm)
  have hcl := fun ty => hrun ty (c - n)
  have s1 : Hid (news.length = n * 3) := by rw [hnews, tcs_length, List.length_drop, hL]; rfl
  have s2 : Hid (∀ u ∈ news, u.oneCell' = true) := by rw [hnews]; exact tcs_one _
  have s3 : Hid (∀ t, t < news.length → (w.drew.cell? ⟨b, 0 + 0 * 3 + t, none⟩).isSome = true ∧ w.drew.frozen? ⟨b, 0 + 0 * 3 + t, none⟩ = false) := by
    intro t ht
    rw [s1.out] at ht
    rw [show 0 + 0 * 3 + t = t by omega]
    exact ⟨alloc_lt_cell hr1 (by omega) hc, hr1.frozen t⟩
  have hts : Ts w.drew (some ⟨b, 0, none⟩) L := (hr1.own (Nat.zero_le _) hc hm).mine.ts
  obtain ⟨A, hA, hsrc⟩ : ∃ A : Addr, (if c = 1 then some (⟨b, 0, none⟩ : Addr) else some ⟨b, 3, none⟩) = some A ∧ Hid (∀ t u, news[t]? = some u → w.drew.cell? (A.add t) = some u) := by
    by_cases h : c = 1
    · refine ⟨⟨b, 0, none⟩, by simp [h], fun t u hu => ?_⟩
      have h0 : news.length = 0 := by rw [s1.out]; omega
      rw [List.length_eq_zero_iff.1 h0] at hu
      simp at hu
    · refine ⟨⟨b, 3, none⟩, by simp [h], fun t u hu => ?_⟩
      have h2 := ts_news hts (3 + t) u (by rw [hnews, tcs_drop, List.getElem?_drop] at hu; exact hu)
      have a1 : (⟨b, 0, none⟩ : Addr).add (3 + t) = ⟨b, 3 + t, none⟩ := by unfold Addr.add; split <;> simp_all
      have a2 : (⟨b, 3, none⟩ : Addr).add t = ⟨b, 3 + t, none⟩ := by unfold Addr.add; split <;> simp_all
      rw [a1] at h2
      rw [a2]; exact h2
  have HW := hide (show W1 = w.drew.setCells b (0 + 0 * 3) news from hW1)
  have hc1 : 1 ≤ c := by omega
  have hnc : n + 1 ≤ c := by omega
  unfold maxLen at hm
  have hnc2 : n ≤ c := by omega
  have hn1 : (1 : Int) ≤ (n : Int) + 1 := by omega
  clear hr hr1 hnews hW1 hsh hlen2 hrun hr6 hbb hb1 hd hts hL hc
  go_enter Try.func44, Try.ntmps44
  go_wp2_with fail
  go_region_law (refine step_append_room rfl (.tmp 22) (.tmp 25) 22 rfl 47 i0 3 Try.underlying22 hi0 hz1 b 0 0 c (by simp [Act.eval, Act.put]) A n (c - 1) news (by simp [Act.eval, Act.put]) s1.out hsrc.out s2.out (by omega) s3.out ?_; rw [← HW.out])
  go_wp2
  go_ret
  refine ⟨by simp, O6.out, K6.out⟩
end Go.Proofs.Ythoeolaleeogbaa.Tb
