import Derived.Test.YtioffnpnoohbiaaF11
namespace Go.Proofs.Ytioffnpnoohbiaa.Rm
open Go Go.RowKit
set_option linter.unusedVariables false
set_option linter.unusedSimpArgs false
set_option maxHeartbeats 8000000 in
theorem is_any (s p t : Int) (g : Nat) (w : World) (X : w.cell? ⟨g, 0, none⟩ = some (.int .i64 t)) (hg : g < w.heap.size) : Calls Try.prog 32 #[.agg #[.int .i64 s, .int .i64 p], .pointer (some ⟨g, 0, none⟩)] w fun e w' => e = .returned (.bool (s == t)) ∧ Below w.heap.size w w' := by
  have K := hide (bal (brefl w) (.cells #[.int .i64 s, .int .i64 p] 26))
  have X2 : (w.alloc (.cells #[.int .i64 s, .int .i64 p] 26)).cell? ⟨g, 0, none⟩ = some (.int .i64 t) := ((bal (brefl w) (.cells #[.int .i64 s, .int .i64 p] 26)).cell (p := ⟨g, 0, none⟩) hg).trans X
  go_enter Try.func32, Try.ntmps32
  go_wp2
  go_ret
  exact ⟨rfl, K.out⟩
def IxP (L : List Mp) (t : Int) (w : World) (e : Ending) (w' : World) : Prop := ∃ i : Int, e = .returned (.int .i64 i) ∧ ((i = -1 ∧ ∀ j, j < L.length → (at' L j).s ≠ t) ∨ (∃ j : Nat, j < L.length ∧ i = j ∧ (at' L j).s = t ∧ ∀ k, k < j → (at' L k).s ≠ t)) ∧ Below w.heap.size w w'
set_option maxRecDepth 100000 in
set_option maxHeartbeats 8000000 in
theorem is_idx (A : Option Addr) (cp : Nat) (L : List Mp) (t : Int) (g : Nat) (w : World) (hr : Ms w A L) (hn : L.length ≤ 1000) (X : w.cell? ⟨g, 0, none⟩ = some (.int .i64 t)) (hg : g < w.heap.size) : Calls Try.prog 40 #[.slice A L.length cp, .func (.func 32) #[] #[.pointer (some ⟨g, 0, none⟩)]] w (IxP L t w) := by
  have HR := hide hr
  have K := hide (brefl w)
  have eg : ∀ args w, (callFunc 32 args).run Try.prog w = .ok (.enter 32 args) w := Go.Proofs.enters_of Try.func32 (by kernel_rfl) rfl
  have XC := hide X
  clear X
  clear hr
  go_enter Try.func40, Try.ntmps40
  go_wp2
  go_loopw [5, 8] (fun _ c wr => ∃ k : Nat, k ≤ L.length ∧ c = .int .i64 k ∧ Hid (Below w.heap.size w wr) ∧ Hid (∀ j, j < k → (at' L j).s ≠ t)) (fun _ c _ => L.length - (intOf c).toNat)
  case atStart => exact ⟨0, Nat.zero_le _, rfl, K, hide (fun j h => by omega)⟩
  case round =>
    clear K
    obtain ⟨k, hk, rfl, K, N⟩ := hrel
    by_cases hlt : k < L.length
    · have hl2 : (k : Int) < (L.length : Int) := by omega
      have hk0 : (0 : Int) ≤ (k : Int) := by omega
      obtain ⟨b, off, rfl, hbl, y0, y1⟩ := HR.out.cells K.out hlt
      have NEXT := hide (fun h j (hj : j < k + 1) => (if e : j = k then e ▸ h else N.out j (by omega) : (at' L j).s ≠ t))
      have HK := hide hlt
      obtain ⟨a, ha⟩ : ∃ a, a = at' L k := ⟨_, rfl⟩
      rw [← ha] at y0 y1
      have HA := hide ha
      clear ha
      obtain ⟨s, p⟩ := a
      dsimp only at y0 y1
      have C := hide (is_any s p t g wr ((K.out.cell (p := ⟨g, 0, none⟩) hg).trans XC.out) (Nat.lt_of_lt_of_le hg K.out.size))
      by_cases hq : s ≠ t
      · have G := hide (show (at' L k).s ≠ t by rw [← HA.out]; exact hq)
        rw [beq_eq_false_iff_ne.2 hq] at C
        clear hq
        go_wp2_with fail
        refine C.out.mono ?_
        rintro e w' ⟨rfl, hb'⟩
        replace K := hide (btrans K.out hb')
        clear hb' y0 y1
        go_wp2_with fail
        go_roundw
        case rel => exact ⟨k + 1, by omega, by go_num, K, hide (NEXT.out G.out)⟩
        case measure => simp [intOf]; omega
      · have G := hide (show (at' L k).s = t by rw [← HA.out]; exact Decidable.not_not.1 hq)
        rw [beq_iff_eq.2 (Decidable.not_not.1 hq)] at C
        clear hq
        go_wp2_with fail
        refine C.out.mono ?_
        rintro e w' ⟨rfl, hb'⟩
        replace K := hide (btrans K.out hb')
        clear hb' y0 y1
        go_wp2
        go_ret
        exact ⟨k, rfl, .inr ⟨k, HK.out, rfl, G.out, N.out⟩, K.out⟩
    · obtain rfl : k = L.length := by omega
      go_wp2
      go_ret
      exact ⟨-1, rfl, .inl ⟨rfl, N.out⟩, K.out⟩
/-- how far a DeleteFunc is -/
structure DelInv (t : Int) (L M : List Mp) (i j : Nat) : Prop where
  len : M.length = L.length
  lt : i < j
  le : j ≤ L.length
  lo : M.take i = (L.take j).filter fun x => decide (x.s ≠ t)
  hi : ∀ k, j ≤ k → at' M k = at' L k
theorem filter_all {t : Int} {L : List Mp} (h : ∀ j, j < L.length → (at' L j).s ≠ t) : (L.filter fun x => decide (x.s ≠ t)) = L := by
  refine List.filter_eq_self.2 fun x hx => decide_eq_true ?_
  obtain ⟨k, hk, rfl⟩ := mem_at hx
  exact h k hk
theorem take_snoc (L : List Mp) {k : Nat} (h : k < L.length) : L.take (k + 1) = L.take k ++ [at' L k] := by
  rw [List.take_succ_eq_append_getElem h, ← at_get h]
theorem DelInv.start {t : Int} {L : List Mp} {k : Nat} (hk : k < L.length) (h : (at' L k).s = t) (hb : ∀ j, j < k → (at' L j).s ≠ t) : DelInv t L L k (k + 1) := by
  refine ⟨rfl, by omega, by omega, ?_, fun _ _ => rfl⟩
  have e : ((L.take k).filter fun x => decide (x.s ≠ t)) = L.take k := filter_all fun j hj => by
    rw [List.length_take] at hj
    rw [at_take (by omega)]; exact hb j (by omega)
  rw [take_snoc L hk, List.filter_append, e, List.filter_cons, if_neg (by simp [h])]
  simp
theorem DelInv.skip {t : Int} {L M : List Mp} {i j : Nat} (h : DelInv t L M i j) (hj : j < L.length) (hp : (at' L j).s = t) : DelInv t L M i (j + 1) := by
  refine ⟨h.len, by have := h.lt; omega, by omega, ?_, fun k hk => h.hi k (by omega)⟩
  rw [h.lo, take_snoc L hj, List.filter_append, List.filter_cons, if_neg (by simp [hp])]
  simp
theorem at_set_ne {M : List Mp} {i k : Nat} {e : Mp} (h : i ≠ k) : at' (M.set i e) k = at' M k := by
  unfold at'
  rw [List.getD_eq_getElem?_getD, List.getD_eq_getElem?_getD, List.getElem?_set_ne h]
theorem DelInv.keep {t : Int} {L M : List Mp} {i j : Nat} (h : DelInv t L M i j) (hj : j < L.length) (hp : (at' L j).s ≠ t) : DelInv t L (M.set i (at' L j)) (i + 1) (j + 1) := by
  have hlt := h.lt
  have hlen := h.len
  refine ⟨by rw [List.length_set]; exact h.len, by omega, by omega, ?_, fun k hk => ?_⟩
  · have hi : i < (M.set i (at' L j)).length := by rw [List.length_set]; omega
    rw [List.take_succ_eq_append_getElem hi, List.getElem_set_self, List.take_set_of_le (Nat.le_refl _), h.lo, take_snoc L hj, List.filter_append, List.filter_cons, if_pos (by simpa using hp)]
    simp
  · rw [at_set_ne (by omega)]; exact h.hi k (by omega)
theorem DelInv.fin {t : Int} {L M : List Mp} {i : Nat} (h : DelInv t L M i L.length) : M.take i = L.filter fun x => decide (x.s ≠ t) := by
  have := h.lo
  rwa [List.take_length] at this
theorem RwM.lt {w : World} {g c : Nat} {M : List Mp} (h : RwM w g c M) : g < w.heap.size := by obtain ⟨_, h, _⟩ := h; exact blk_lt h
theorem RwM.below {w w' : World} {g c : Nat} {M : List Mp} (h : RwM w g c M) (hb : Below w.heap.size w w') : RwM w' g c M := by
  obtain ⟨cur, h1, h2⟩ := h
  exact ⟨cur, (hb.block g (blk_lt h1)).trans h1, h2⟩
theorem RwM.cells {w : World} {g c k : Nat} {M : List Mp} (h : RwM w g c M) (hk : k < M.length) : w.cell? ⟨g, k * 2, none⟩ = some (.int .i64 (at' M k).s) ∧ w.cell? ⟨g, k * 2 + 1, none⟩ = some (.int .i64 (at' M k).p) :=
  ⟨h.cell (mcs_at hk 0 (by omega)), h.cell (mcs_at hk 1 (by omega))⟩
theorem mcs_set : ∀ (M : List Mp) (i : Nat) (e : Mp), mcs (M.set i e) = ((mcs M).set (i * 2) (.int .i64 e.s)).set (i * 2 + 1) (.int .i64 e.p)
  | [], i, e => by simp [mcs]
  | x :: l, 0, e => by simp [mcs, mC]
  | x :: l, i + 1, e => by
    have ih := mcs_set l i e
    rw [show (i + 1) * 2 = i * 2 + 2 by omega]
    simp only [List.set_cons_succ, mcs, mC, ih, List.cons_append, List.nil_append]
theorem RwM.put {w : World} {g c i : Nat} {M : List Mp} (h : RwM w g c M) (e : Mp) : RwM ((w.setCell ⟨g, i * 2, none⟩ (.int .i64 e.s)).setCell ⟨g, i * 2 + 1, none⟩ (.int .i64 e.p)) g c (M.set i e) := by
  obtain ⟨cur, h1, h2, h3⟩ := h
  have s1 := heap_setCell_same w g (i * 2) cur 26 (.int .i64 e.s) h1
  have s2 := heap_setCell_same _ g (i * 2 + 1) _ 26 (.int .i64 e.p) s1
  refine ⟨_, s2, by simpa using h2, ?_⟩
  rw [mcs_set, ← h3]
  simp [Array.toList_setIfInBounds, List.take_set]
end Go.Proofs.Ytioffnpnoohbiaa.Rm
