import Derived.Test.YthoeolaleeogbaaChk
import Derived.Laws.CopyRow
import Derived.Lib.SliceRun
namespace Go.Proofs.Ythoeolaleeogbaa.Tb
open Go Go.RowKit Go.Proofs.Ythoeolaleeogbaa.Pt
set_option linter.unusedVariables false
theorem ts_news {w : World} {a : Addr} {L : List Te} (hr : Ts w (some a) L) (j : Nat) (u : Value) (hu : (tcs L)[j]? = some u) : w.cell? (a.add j) = some u := by
  have hj : j < L.length * 3 := by
    rcases Nat.lt_or_ge j (L.length * 3) with h | h
    · exact h
    · rw [List.getElem?_eq_none (by rw [tcs_length]; exact h)] at hu; cases hu
  obtain ⟨b, off, e, hb, hc⟩ := hr (by rintro rfl; simp at hj)
  injection e with e
  subst e
  obtain ⟨c0, c1, c2⟩ := hc (j / 3) (by omega)
  obtain ⟨t0, t1, t2⟩ := tcs_at (L := L) (k := j / 3) (by omega)
  have hadd : (⟨b, off, none⟩ : Addr).add j = ⟨b, off + j, none⟩ := by unfold Addr.add; split <;> simp_all
  rw [hadd]
  rcases (by omega : j = j / 3 * 3 ∨ j = j / 3 * 3 + 1 ∨ j = j / 3 * 3 + 2) with h | h | h
  · rw [h] at hu ⊢
    rw [t0] at hu
    injection hu with hu
    subst hu
    exact c0
  · rw [h] at hu ⊢
    rw [t1] at hu
    injection hu with hu
    subst hu
    exact c1
  · rw [h] at hu ⊢
    rw [t2] at hu
    injection hu with hu
    subst hu
    exact c2
theorem own_row0 (w : World) : (w.alloc (.cells #[] 47)).ownsRow w.heap.size 47 3 (.slice (some ⟨w.heap.size, 0, none⟩) 0 0) 0 [] :=
  World.ownsRow_made w #[] 0 (Nat.le_refl _) (Nat.zero_le _) (by simp)
/-- what a call that hands back a slice of its own leaves -/
def OwnR (B : Nat) (L : List Te) (A : Option Addr) (c : Nat) (w : World) : Prop := w.ownsRow B 47 3 (.slice A L.length c) L.length (tcs L)
theorem OwnR.mine {B c : Nat} {L : List Te} {A : Option Addr} {w : World} (h : OwnR B L A c w) : MineT B w A L := MineT.of_row rfl h
theorem OwnR.below {B c : Nat} {L : List Te} {A : Option Addr} {w w' : World} (h : OwnR B L A c w) (hb : Below w.heap.size w w') : OwnR B L A c w' := by
  obtain ⟨hl, h | ⟨g, cap, cur, e, hg, hh, h4, h5, h6, ht⟩⟩ := h
  · exact ⟨hl, .inl h⟩
  · exact ⟨hl, .inr ⟨g, cap, cur, e, hg, (hb.block g (blk_lt hh)).trans hh, h4, h5, h6, ht⟩⟩
theorem OwnR.mono {B B' c : Nat} {L : List Te} {A : Option Addr} {w : World} (h : OwnR B L A c w) (hB : B' ≤ B) : OwnR B' L A c w := by
  obtain ⟨hl, h | ⟨g, cap, cur, e, hg, r⟩⟩ := h
  · exact ⟨hl, .inl h⟩
  · exact ⟨hl, .inr ⟨g, cap, cur, e, Nat.le_trans hB hg, r⟩⟩
theorem OwnR.cap {B c : Nat} {L : List Te} {A : Option Addr} {w : World} (h : OwnR B L A c w) : L.length ≤ c := by
  obtain ⟨hl, h | ⟨g, cap, cur, e, hg, hh, h4, h5, h6, ht⟩⟩ := h
  · obtain ⟨e, h0⟩ := h; omega
  · injection e with _ _ e; omega
theorem clone_some (a : Addr) (L : List Te) (c : Nat) (w : World) (hr : Ts w (some a) L) (hn : L.length ≤ 1000) :
    Calls Try.prog 57 #[.slice (some a) L.length c] w fun e w' => ∃ A' c', e = .returned (.slice A' L.length c') ∧ OwnR w.heap.size L A' c' w' ∧ Below w.heap.size w w' := by
  obtain ⟨i0, hi0, hz0, hz1, hz2⟩ := info_parts info47
  have HR := hide (hr.below (bal (brefl _) (.cells #[] 47)))
  clear hr
  have q22 : ∀ (w : World) (a : Option Addr) (n c n' c' : Nat), (binOp .eql 22 (.slice a n c) (.slice none n' c')).run Try.prog w = .ok (.bool a.isNone) w := fun w a n c n' c' => Lib.run_eql_slice_nil w _ _ a n c n' c' Try.underlying22
  go_enter Try.func57, Try.ntmps57
  go_wp2_with (at_builtin; refine wpList_append_own _ rfl (.tmp 5) (.tmp 6) _ rfl w.heap.size 47 i0 _ 3 24 Try.underlying22 hi0 hz0 hz1 hz2 rfl (by omega) (.slice (some ⟨w.heap.size, 0, none⟩) 0 0) 0 [] rfl (own_row0 w) a L.length c (tcs L) rfl (tcs_length L) (fun j u hu => ts_news HR.out j u hu) (tcs_one _) (by simp only [maxLen]; omega) (by omega) (by simp) ?_; intro v1 w1 hown1 hg1 hat1; obtain ⟨A1, n1, rfl⟩ := row_form hown1; have HB := hide (show Below w.heap.size w w1 from (bal (brefl w) _).trans (row_below (own_row0 w) hg1 (Nat.le_refl _) (by simp))); have HM := hide hown1; clear hown1 hg1 hat1)
  go_wp2
  go_ret
  rw [Nat.zero_add, List.nil_append] at HM
  exact ⟨A1, n1, rfl, HM.out, HB.out⟩
theorem clone_nil (c : Nat) (w : World) :
    Calls Try.prog 57 #[.slice none 0 c] w fun e w' => e = .returned (.slice none 0 0) ∧ w = w' := by
  have q22 : ∀ (w : World) (a : Option Addr) (n c n' c' : Nat), (binOp .eql 22 (.slice a n c) (.slice none n' c')).run Try.prog w = .ok (.bool a.isNone) w := fun w a n c n' c' => Lib.run_eql_slice_nil w _ _ a n c n' c' Try.underlying22
  go_enter Try.func57, Try.ntmps57
  go_wp2
  go_ret
  exact ⟨rfl, rfl⟩
theorem clone_any (A : Option Addr) (L : List Te) (c : Nat) (w : World) (hr : Ts w A L) (hn : L.length ≤ 1000) :
    Calls Try.prog 57 #[.slice A L.length c] w fun e w' => ∃ A' c', e = .returned (.slice A' L.length c') ∧ OwnR w.heap.size L A' c' w' ∧ Below w.heap.size w w' := by
  rcases A with _ | a
  · have hL : L = [] := by
      rcases L with _ | ⟨x, xs⟩
      · rfl
      · obtain ⟨b, off, e, _⟩ := hr (by simp)
        cases e
    subst hL
    exact (clone_nil c w).mono fun e w' ⟨he, hw⟩ => ⟨none, 0, he, ⟨rfl, .inl ⟨rfl, rfl⟩⟩, hw ▸ brefl _⟩
  · exact clone_some a L c w hr hn
-- A ROW THAT IS BEING REWRITTEN
def RowT (w : World) (g c : Nat) (M : List Te) : Prop := ∃ cur : Array Value, w.heap[g]? = some (.cells cur 47 (0, 0)) ∧ cur.size = c * 3 ∧ cur.toList.take (M.length * 3) = tcs M
theorem RowT.lt {w : World} {g c : Nat} {M : List Te} (h : RowT w g c M) : g < w.heap.size := by obtain ⟨_, h, _⟩ := h; exact blk_lt h
theorem RowT.below {w w' : World} {g c : Nat} {M : List Te} (h : RowT w g c M) (hb : Below w.heap.size w w') : RowT w' g c M := by
  obtain ⟨cur, h1, h2⟩ := h
  exact ⟨cur, (hb.block g (blk_lt h1)).trans h1, h2⟩
theorem RowT.frozen {w : World} {g c : Nat} {M : List Te} (h : RowT w g c M) (i : Nat) : w.frozen? ⟨g, i, none⟩ = false := by
  obtain ⟨cur, h1, h2⟩ := h
  simp [World.frozen?, h1]
theorem RowT.cells {w : World} {g c k : Nat} {M : List Te} (h : RowT w g c M) (hk : k < M.length) : w.cell? ⟨g, k * 3, none⟩ = some (.int .i64 (teAt M k).1) ∧ w.cell? ⟨g, k * 3 + 1, none⟩ = some (.int .i64 (teAt M k).2.1) ∧ w.cell? ⟨g, k * 3 + 2, none⟩ = some (.int .u64 (teAt M k).2.2) := by
  obtain ⟨cur, hh, h2, ht⟩ := h
  have key : ∀ j u, j < M.length * 3 → (tcs M)[j]? = some u → w.cell? ⟨g, j, none⟩ = some u := fun j u hj hu => by
    rw [← ht, List.getElem?_take_of_lt hj] at hu
    have e2 : cur[j]? = some u := by simpa using hu
    rw [cell_of_row w g _ cur 47 (0, 0) hh]; exact e2
  obtain ⟨a, b, c⟩ := tcs_at hk
  exact ⟨key _ _ (by omega) a, key _ _ (by omega) b, key _ _ (by omega) c⟩
theorem tcs_set : ∀ (M : List Te) (i : Nat) (e : Te), tcs (M.set i e) = (((tcs M).set (i * 3) (.int .i64 e.1)).set (i * 3 + 1) (.int .i64 e.2.1)).set (i * 3 + 2) (.int .u64 e.2.2)
  | [], i, e => by simp [tcs]
  | x :: l, 0, e => by simp [tcs]
  | x :: l, i + 1, e => by
    have ih := tcs_set l i e
    rw [show (i + 1) * 3 = i * 3 + 3 by omega]
    simp only [List.set_cons_succ, tcs, ih]
theorem RowT.put {w : World} {g c i : Nat} {M : List Te} (h : RowT w g c M) (e : Te) : RowT (((w.setCell ⟨g, i * 3, none⟩ (.int .i64 e.1)).setCell ⟨g, i * 3 + 1, none⟩ (.int .i64 e.2.1)).setCell ⟨g, i * 3 + 2, none⟩ (.int .u64 e.2.2)) g c (M.set i e) := by
  obtain ⟨cur, h1, h2, h3⟩ := h
  have s1 := heap_setCell_same w g (i * 3) cur 47 (.int .i64 e.1) h1
  have s2 := heap_setCell_same _ g (i * 3 + 1) _ 47 (.int .i64 e.2.1) s1
  have s3 := heap_setCell_same _ g (i * 3 + 2) _ 47 (.int .u64 e.2.2) s2
  refine ⟨_, s3, by simpa using h2, ?_⟩
  rw [tcs_set, ← h3]
  simp [Array.toList_setIfInBounds, List.take_set]
theorem OwnR.row {B c : Nat} {L : List Te} {A : Option Addr} {w : World} (h : OwnR B L A c w) (hne : L ≠ []) : ∃ g, A = some ⟨g, 0, none⟩ ∧ B ≤ g ∧ L.length ≤ c ∧ c ≤ maxLen ∧ RowT w g c L := by
  obtain ⟨hl, h | ⟨g, cap, cur, e, hg, hh, h4, h5, h6, ht⟩⟩ := h
  · exact absurd (List.eq_nil_of_length_eq_zero h.2) hne
  · injection e with e1 _ e2
    subst e2
    exact ⟨g, e1, hg, h4, h5, cur, hh, h6, ht⟩
theorem RowT.own {B g c : Nat} {M : List Te} {w : World} (h : RowT w g c M) (hB : B ≤ g) (hc : M.length ≤ c) (hm : c ≤ maxLen) : OwnR B M (some ⟨g, 0, none⟩) c w := by
  obtain ⟨cur, h1, h2, h3⟩ := h
  exact ⟨tcs_length M, .inr ⟨g, c, cur, rfl, hB, h1, hc, hm, h2, h3⟩⟩
theorem tcs_take : ∀ (M : List Te) (i : Nat), tcs (M.take i) = (tcs M).take (i * 3)
  | [], i => by simp [tcs]
  | x :: l, 0 => by simp [tcs]
  | x :: l, i + 1 => by
    rw [show (i + 1) * 3 = i * 3 + 3 by omega]
    simp only [List.take_succ_cons, tcs, tcs_take l i]
theorem grown_below {w w' : World} {g B : Nat} (h : w.grownBy w' (some g)) (hB : B ≤ g) (hs : B ≤ w.heap.size) : Below B w w' :=
  ⟨h.os, h.tape, h.output, h.size, fun k hk => h.block k (by omega) (fun e => by injection e; omega)⟩
theorem grown_trans {w1 w2 w3 : World} {r : Option Nat} (h : w1.grownBy w2 r) (h2 : w2.grownBy w3 r) : w1.grownBy w3 r :=
  ⟨h2.os.trans h.os, h2.tape.trans h.tape, h2.output.trans h.output, Nat.le_trans h.size h2.size, fun k hk hne => (h2.block k (Nat.lt_of_lt_of_le hk h.size) hne).trans (h.block k hk hne)⟩
/-- 'clear' of what lies behind the first i entries -/
theorem run_clear_row (w : World) (g c i : Nat) (M : List Te) (h : RowT w g c M) (hi : i < M.length) (hc : M.length ≤ c) :
    ∃ w', (∀ ty d, (Builtin.clear_ #[22] ty #[.slice (some ⟨g, i * 3, none⟩) (M.length - i) d]).run Try.prog w = .ok (.tuple #[]) w') ∧ RowT w' g c (M.take i) ∧ w.grownBy w' (some g) := by
  obtain ⟨cur, h1, h2, h3⟩ := h
  obtain ⟨i0, hi0, hz0, hz1, hz2⟩ := info_parts info47
  have hz : ∀ w, (zeroValue 47).run Try.prog w = .ok (.agg #[.int .i64 0, .int .i64 0, .int .u64 0]) w := by intro w; kernel_rfl
  have hcell : (Builtin.zeroCells (Value.agg #[.int .i64 0, .int .i64 0, .int .u64 0]).cells (M.length - i)).toList.length = (M.length - i) * 3 := by
    simp [Builtin.zeroCells, Value.cells]
  have hone : ∀ v ∈ (Builtin.zeroCells (Value.agg #[.int .i64 0, .int .i64 0, .int .u64 0]).cells (M.length - i)).toList, v.oneCell' = true := by
    intro v hv
    simp [Builtin.zeroCells, Value.cells] at hv
    obtain ⟨a, _, rfl⟩ := hv
    rcases (by omega : a % 3 = 0 ∨ a % 3 = 1 ∨ a % 3 = 2) with e | e | e <;> rw [e] <;> rfl
  generalize hzc : (Builtin.zeroCells (Value.agg #[.int .i64 0, .int .i64 0, .int .u64 0]).cells (M.length - i)).toList = zs at *
  have hst := run_storeCells_at (P := Try.prog) g (i * 3) 47 zs 0 cur w h1 (by rw [hcell, h2]; omega) hone
  obtain ⟨ncur, hnc⟩ : ∃ ncur : Array Value, ncur = (List.take (i * 3 + 0) cur.toList ++ zs ++ List.drop (i * 3 + 0 + zs.length) cur.toList).toArray := ⟨_, rfl⟩
  rw [← hnc] at hst
  refine ⟨w.setRow g ncur, fun ty d => ?_, ⟨ncur, setRow_heap w g cur ncur 47 _ h1, ?_, ?_⟩, ?_⟩
  · obtain ⟨m, hm⟩ : ∃ m, M.length - i = m + 1 := ⟨M.length - i - 1, by omega⟩
    rw [hm] at hzc ⊢
    simp [Builtin.clear_, run_underlying Try.underlying22, hz, hzc, hst]
  · rw [hnc]
    simp
    omega
  · rw [hnc, tcs_take, ← h3, List.length_take, Nat.min_eq_left (by omega), List.take_take, Nat.min_eq_left (by omega)]
    rw [List.toList_toArray, List.append_assoc, List.take_append_of_le_length (by rw [List.length_take]; simp; omega), List.take_take, Nat.add_zero, Nat.min_self]
  · exact ⟨rfl, rfl, rfl, by simp, fun k hk hne => setRow_other w g k ncur (fun e => hne (by rw [e]))⟩
end Go.Proofs.Ythoeolaleeogbaa.Tb
