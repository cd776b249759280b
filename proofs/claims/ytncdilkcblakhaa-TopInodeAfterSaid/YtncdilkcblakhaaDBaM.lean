import Derived.Test.YtncdilkcblakhaaRows
import Derived.WalkKit
import Derived.WalkSpells
import Derived.WalkLawsBesides
import Derived.LoopTactic
import Derived.IntWalk
import Derived.Deep.QuietTactic
import Derived.BigQuiet
import Derived.Outline
import Derived.Below
import Derived.Deep.RegionHeld3
import Derived.Deep.RegionLaw
import Derived.Laws.StructEq
import Derived.Deep.OwnRows
import Derived.Laws.OwnMore
import Derived.Laws.Rows
import Derived.OwnWalk
import Derived.Lib.Hide
import Derived.ProofKit
import Derived.OpenShut
import Derived.Deep.DeepHandedRow
import Derived.Deep.SlicePairs
import Derived.Lib.LaidTab
import Derived.Lib.SmallJoins
import Derived.Carry
/-
  DERIVED. How a device lies in memory: bytes, rows of bytes, rows of cached blocks and of requests; to be read, and of one's own.
-/
namespace Go.Proofs.Ytncdilkcblakhaa.Dv
open Go Go.RowKit
set_option linter.unusedVariables false
theorem hide {p : Prop} (h : p) : Hid p := h
theorem ret_int {k : IntKind} {a b : Int} (h : a = b) : Ending.returned (.int k a) = .returned (.int k b) := by rw [h]
theorem ret_bool {a b : Bool} (h : a = b) : Ending.returned (.bool a) = .returned (.bool b) := by rw [h]
theorem bal {a w : World} (h : Below a.heap.size a w) (o : Obj) : Below a.heap.size a (w.alloc o) := h.alloc h.size o
theorem bset {a w : World} (h : Below a.heap.size a w) {p : Addr} (hp : a.heap.size ≤ p.block) (v : Value) : Below a.heap.size a (w.setCell p v) := h.setCell hp v
theorem brefl (a : World) : Below a.heap.size a a := Below.refl _ _
theorem btrans {a b c : World} (h : Below a.heap.size a b) (k : Below b.heap.size b c) : Below a.heap.size a c := h.trans (k.mono h.size)
theorem bcell {W w1 : World} (hb : Below W.heap.size W w1) : (∀ b o, b < W.heap.size → w1.cell? ⟨b, o, none⟩ = W.cell? ⟨b, o, none⟩) ∧ (∀ b o, b < W.heap.size → w1.frozen? ⟨b, o, none⟩ = W.frozen? ⟨b, o, none⟩) :=
  ⟨fun b o h => hb.cell (p := ⟨b, o, none⟩) h, fun b o h => hb.frozen (p := ⟨b, o, none⟩) h⟩
theorem below_drewN {B : Nat} {a w : World} (h : Below B a w) (n : Nat) : Below B a (w.drewN n) := ⟨h.os, h.tape, h.output, h.size, h.block⟩
theorem quiet_left {P : Program} {f : FuncId} {args : Array Value} {w : World} {n : Nat} {v : Value}
    (h : Calls P f args (w.drewN n) fun e w' => e = .returned v ∧ w.drewN n = w') : Calls P f args (w.drewN n) fun e w'' => e = .returned v ∧ ∃ m, w'' = w.drewN m :=
  h.mono fun _ _ ⟨he, hm⟩ => ⟨he, n, hm.symm⟩
theorem blk_lt {w : World} {g : Nat} {o : Obj} (hh : w.heap[g]? = some o) : g < w.heap.size := by
  rcases Nat.lt_or_ge g w.heap.size with h1 | h1
  · exact h1
  · rw [Array.getElem?_eq_none h1] at hh; cases hh
theorem alloc_size' (w : World) (o : Obj) : (w.alloc o).heap.size = w.heap.size + 1 := by simp
-- BOXES
def Box (w : World) (g : Nat) (t : TypeId) (cs : Array Value) : Prop := w.heap[g]? = some (.cells cs t (0, 0))
section
variable {w w' : World} {g : Nat} {t : TypeId} {cs : Array Value}
theorem Box.new (w : World) (t : TypeId) (cs : Array Value) : Box (w.alloc (.cells cs t)) w.heap.size t cs := heap_alloc_new w _
theorem Box.lt (h : Box w g t cs) : g < w.heap.size := blk_lt h
theorem Box.cell (h : Box w g t cs) (i : Nat) : w.cell? ⟨g, i, none⟩ = cs[i]? := cell_of_row w g i cs t (0, 0) h
theorem Box.frozen (h : Box w g t cs) (i : Nat) : w.frozen? ⟨g, i, none⟩ = false := by
  unfold Box at h
  simp [World.frozen?, h]
theorem Box.below (h : Box w g t cs) (hb : Below w.heap.size w w') : Box w' g t cs := (hb.block g (blk_lt h)).trans h
theorem Box.more (h : Box w g t cs) (o : Obj) : Box (w.alloc o) g t cs := h.below (bal (brefl _) _)
theorem Box.put (h : Box w g t cs) (i : Nat) (u : Value) : Box (w.setCell ⟨g, i, none⟩ u) g t (cs.setIfInBounds i u) := by
  unfold Box at h ⊢
  simp [World.setCell, Array.getElem?_modify, h]
theorem Box.far (h : Box w g t cs) {b i : Nat} (hne : g ≠ b) (u : Value) : Box (w.setCell ⟨b, i, none⟩ u) g t cs := (heap_setCell_other w ⟨b, i, none⟩ g u hne).trans h
theorem Box.new2 (w : World) (o : Obj) (t : TypeId) (cs : Array Value) : Box ((w.alloc o).alloc (.cells cs t)) (w.heap.size + 1) t cs := by
  have := Box.new (w.alloc o) t cs
  rwa [alloc_size'] at this
theorem Box.new3 (w : World) (o1 o2 : Obj) (t : TypeId) (cs : Array Value) : Box (((w.alloc o1).alloc o2).alloc (.cells cs t)) (w.heap.size + 2) t cs := by
  have := Box.new ((w.alloc o1).alloc o2) t cs
  rwa [alloc_size', alloc_size'] at this
theorem Box.ne {g2 : Nat} {t2 : TypeId} {cs2 : Array Value} (h : Box w g t cs) (h2 : Box w g2 t2 cs2) (hne : t ≠ t2) : g ≠ g2 := by
  rintro rfl
  unfold Box at h h2
  rw [h] at h2
  injection h2 with h2
  injection h2 with _ h3
  exact hne h3
end
-- WHAT A STEP KEEPS: all below B; and of what is there, all that is no row of the type T
structure Kp (B : Nat) (T : TypeId) (w w' : World) : Prop where
  below : Below B w w'
  keep : ∀ k, k < w.heap.size → (∀ cur, w.heap[k]? ≠ some (.cells cur T (0, 0))) → w'.heap[k]? = w.heap[k]?
section
variable {B : Nat} {T : TypeId} {w w' w2 : World}
theorem Kp.of_below (h : Below w.heap.size w w') (hB : B ≤ w.heap.size) : Kp B T w w' := ⟨h.mono hB, fun k hk _ => h.block k hk⟩
theorem Kp.refl (B : Nat) (T : TypeId) (w : World) : Kp B T w w := ⟨Below.refl _ _, fun _ _ _ => rfl⟩
theorem Kp.trans (h : Kp B T w w') (h2 : Kp B T w' w2) : Kp B T w w2 :=
  ⟨h.below.trans h2.below, fun k hk hn => (h2.keep k (Nat.lt_of_lt_of_le hk h.below.size) (fun cur e => hn cur ((h.keep k hk hn).symm.trans e))).trans (h.keep k hk hn)⟩
theorem Kp.mono {B' : Nat} (h : Kp B T w w') (hB : B' ≤ B) : Kp B' T w w' := ⟨h.below.mono hB, h.keep⟩
theorem Kp.boxset {g : Nat} {cs : Array Value} (hX : Box w g T cs) (hB : B ≤ g) (i : Nat) (u : Value) : Kp B T w (w.setCell ⟨g, i, none⟩ u) :=
  ⟨(Below.refl _ _).setCell hB u, fun k hk hn => heap_setCell_other w ⟨g, i, none⟩ k u (fun e => hn cs (by subst e; exact hX))⟩
theorem Kp.grown {base n size : Nat} {v : Value} {xs : List Value} (h : w.ownsRow base T size v n xs) (hg : w.grownBy w' v.ownBlock) (hB : B ≤ base) (hs : B ≤ w.heap.size) : Kp B T w w' := by
  refine ⟨⟨hg.os, hg.tape, hg.output, hg.size, fun k hk => hg.block k (by omega) ?_⟩, fun k hk hn => hg.block k hk ?_⟩
  · obtain ⟨_, ⟨rfl, rfl⟩ | ⟨g, cap, cur, rfl, hgb, _⟩⟩ := h
    · exact Option.some_ne_none _
    · intro e
      have : k = g := by simpa [Value.ownBlock] using e
      omega
  · obtain ⟨_, ⟨rfl, rfl⟩ | ⟨g, cap, cur, rfl, hgb, hh, _⟩⟩ := h
    · exact Option.some_ne_none _
    · intro e
      have : k = g := by simpa [Value.ownBlock] using e
      subst this
      exact hn cur hh
theorem Box.kp {g : Nat} {t : TypeId} {cs : Array Value} (h : Box w g t cs) (hk : Kp B T w w') (hne : t ≠ T) : Box w' g t cs :=
  (hk.keep g h.lt (fun cur e => by unfold Box at h; rw [h] at e; injection e with e; injection e with _ h3; exact hne h3)).trans h
theorem row_kp {base n size : Nat} {t : TypeId} {v : Value} {xs : List Value} (h : w.ownsRow base t size v n xs) (hk : Kp B T w w') (hne : t ≠ T) : w'.ownsRow base t size v n xs := by
  obtain ⟨hl, h | ⟨g, cap, cur, e, hg, hh, r⟩⟩ := h
  · exact ⟨hl, .inl h⟩
  · exact ⟨hl, .inr ⟨g, cap, cur, e, hg, Box.kp (t := t) hh hk hne, r⟩⟩
theorem row_below {base n size : Nat} {t : TypeId} {v : Value} {xs : List Value} (h : w.ownsRow base t size v n xs) (hb : Below w.heap.size w w') : w'.ownsRow base t size v n xs := by
  obtain ⟨hl, h | ⟨g, cap, cur, e, hg, hh, r⟩⟩ := h
  · exact ⟨hl, .inl h⟩
  · exact ⟨hl, .inr ⟨g, cap, cur, e, hg, (hb.block g (blk_lt hh)).trans hh, r⟩⟩
theorem row_mono {base base' n size : Nat} {t : TypeId} {v : Value} {xs : List Value} (h : w.ownsRow base t size v n xs) (hB : base' ≤ base) : w.ownsRow base' t size v n xs := by
  obtain ⟨hl, h | ⟨g, cap, cur, e, hg, r⟩⟩ := h
  · exact ⟨hl, .inl h⟩
  · exact ⟨hl, .inr ⟨g, cap, cur, e, Nat.le_trans hB hg, r⟩⟩
theorem row_form {base n size : Nat} {t : TypeId} {v : Value} {xs : List Value} (h : w.ownsRow base t size v n xs) : ∃ A c, v = .slice A n c ∧ n ≤ c := by
  obtain ⟨_, ⟨rfl, rfl⟩ | ⟨g, cap, cur, rfl, _, _, h4, _⟩⟩ := h
  · exact ⟨none, 0, rfl, Nat.le_refl _⟩
  · exact ⟨_, _, rfl, h4⟩
theorem row_cell {base n size : Nat} {t : TypeId} {A : Option Addr} {c : Nat} {xs : List Value} (h : w.ownsRow base t size (.slice A n c) n xs) (hn : n ≠ 0) : ∃ g, A = some ⟨g, 0, none⟩ ∧ g < w.heap.size ∧ base ≤ g ∧ (∀ j u, xs[j]? = some u → w.cell? ⟨g, j, none⟩ = some u) ∧ ∀ j, w.frozen? ⟨g, j, none⟩ = false := by
  obtain ⟨hl, h | ⟨g, cap, cur, e, hg, hh, h4, h5, h6, ht⟩⟩ := h
  · exact absurd h.2 hn
  · injection e with e1 _ e2
    refine ⟨g, e1, blk_lt hh, hg, fun j u hu => ?_, fun j => by simp [World.frozen?, hh]⟩
    have hj : j < n * size := by
      rcases Nat.lt_or_ge j (n * size) with h | h
      · exact h
      · rw [List.getElem?_eq_none (by omega)] at hu; cases hu
    rw [← ht, List.getElem?_take_of_lt hj] at hu
    have e2 : cur[j]? = some u := by simpa using hu
    rw [cell_of_row w g _ cur t (0, 0) hh]; exact e2
end
-- BYTES
abbrev By := List Int
/-- a slice that reads as bytes -/
def Bs (w : World) (A : Option Addr) (l : By) : Prop :=
  l ≠ [] → ∃ b off, A = some ⟨b, off, none⟩ ∧ b < w.heap.size ∧ ∀ k, k < l.length → w.cell? ⟨b, off + k, none⟩ = some (.int .u8 (l.getD k 0))
theorem Bs.below {w w' : World} {A : Option Addr} {l : By} (h : Bs w A l) (hb : Below w.heap.size w w') : Bs w' A l := fun hn => by
  obtain ⟨b, off, e, hlt, hc⟩ := h hn
  exact ⟨b, off, e, Nat.lt_of_lt_of_le hlt hb.size, fun k hk => (hb.cell (p := ⟨b, off + k, none⟩) hlt).trans (hc k hk)⟩
theorem Bs.nil (w : World) (A : Option Addr) : Bs w A [] := fun h => absurd rfl h
/-- a value that reads as bytes -/
def IsBs (w : World) (v : Value) (l : By) : Prop := ∃ A c, v = .slice A l.length c ∧ l.length ≤ c ∧ Bs w A l
theorem IsBs.below {w w' : World} {v : Value} {l : By} (h : IsBs w v l) (hb : Below w.heap.size w w') : IsBs w' v l := by
  obtain ⟨A, c, e, hc, hr⟩ := h
  exact ⟨A, c, e, hc, hr.below hb⟩
def bc (z : Int) : Value := .int .u8 z
/-- bytes in a block of bytes -/
def OwnBy (w : World) (v : Value) (l : By) : Prop := ∃ A c, v = .slice A l.length c ∧ l.length ≤ c ∧ (l ≠ [] → ∃ (b off : Nat) (cur : Array Value), A = some ⟨b, off, none⟩ ∧ w.heap[b]? = some (.cells cur 5 (0, 0)) ∧ (cur.toList.drop off).take l.length = l.map bc)
theorem OwnBy.is {w : World} {v : Value} {l : By} (h : OwnBy w v l) : IsBs w v l := by
  obtain ⟨A, c, rfl, hc, h⟩ := h
  refine ⟨A, c, rfl, hc, fun hn => ?_⟩
  obtain ⟨b, off, cur, rfl, hh, ht⟩ := h hn
  refine ⟨b, off, rfl, blk_lt hh, fun k hk => ?_⟩
  have e : (l.map bc)[k]? = some (bc (l.getD k 0)) := by
    rw [List.getElem?_map, List.getElem?_eq_getElem hk, List.getD_eq_getElem?_getD, List.getElem?_eq_getElem hk]; rfl
  rw [← ht, List.getElem?_take_of_lt hk, List.getElem?_drop] at e
  have e2 : cur[off + k]? = some (bc (l.getD k 0)) := by simpa using e
  rw [cell_of_row w b _ cur 5 (0, 0) hh]; exact e2
theorem OwnBy.below {w w' : World} {v : Value} {l : By} (h : OwnBy w v l) (hb : Below w.heap.size w w') : OwnBy w' v l := by
  obtain ⟨A, c, e, hc, h⟩ := h
  refine ⟨A, c, e, hc, fun hn => ?_⟩
  obtain ⟨b, off, cur, e, hh, ht⟩ := h hn
  exact ⟨b, off, cur, e, (hb.block b (blk_lt hh)).trans hh, ht⟩
theorem OwnBy.kp {B : Nat} {T : TypeId} {w w' : World} {v : Value} {l : By} (h : OwnBy w v l) (hk : Kp B T w w') (hne : (5 : TypeId) ≠ T) : OwnBy w' v l := by
  obtain ⟨A, c, e, hc, h⟩ := h
  refine ⟨A, c, e, hc, fun hn => ?_⟩
  obtain ⟨b, off, cur, e, hh, ht⟩ := h hn
  exact ⟨b, off, cur, e, Box.kp (t := 5) hh hk hne, ht⟩
theorem OwnBy.of_row {base c : Nat} {w : World} {A : Option Addr} {l : By} (h : w.ownsRow base 5 1 (.slice A l.length c) l.length (l.map bc)) : OwnBy w (.slice A l.length c) l := by
  obtain ⟨A', c', e, hc⟩ := row_form h
  injection e with e1 _ e2
  subst e1 e2
  refine ⟨A, c, rfl, hc, fun hn => ?_⟩
  obtain ⟨hl, h | ⟨g, cap, cur, e, hg, hh, h4, h5, h6, ht⟩⟩ := h
  · exact absurd (List.eq_nil_of_length_eq_zero h.2) hn
  · injection e with e1 _ e2
    exact ⟨g, 0, cur, e1, hh, by rw [List.drop_zero, ← ht, Nat.mul_one]⟩
theorem OwnBy.nil (w : World) : OwnBy w (.slice none 0 0) [] := ⟨none, 0, rfl, Nat.le_refl _, fun h => absurd rfl h⟩
end Go.Proofs.Ytncdilkcblakhaa.Dv
namespace Go.Proofs.Ytncdilkcblakhaa.Dv
open Go Go.RowKit
set_option linter.unusedVariables false
abbrev Ca := Int × By
abbrev Rq := Int × Int × Int × By
def bAt (L : List By) (k : Nat) : By := L.getD k []
def cAt (L : List Ca) (k : Nat) : Ca := L.getD k (0, [])
def qAt (L : List Rq) (k : Nat) : Rq := L.getD k (0, 0, 0, [])
theorem bAt_get {L : List By} {k : Nat} (h : k < L.length) : bAt L k = L[k] := by unfold bAt; rw [List.getD_eq_getElem?_getD, List.getElem?_eq_getElem h]; rfl
theorem cAt_get {L : List Ca} {k : Nat} (h : k < L.length) : cAt L k = L[k] := by unfold cAt; rw [List.getD_eq_getElem?_getD, List.getElem?_eq_getElem h]; rfl
theorem qAt_get {L : List Rq} {k : Nat} (h : k < L.length) : qAt L k = L[k] := by unfold qAt; rw [List.getD_eq_getElem?_getD, List.getElem?_eq_getElem h]; rfl
theorem bAt_mem {L : List By} {k : Nat} (h : k < L.length) : bAt L k ∈ L := by rw [bAt_get h]; exact List.getElem_mem h
theorem cAt_mem {L : List Ca} {k : Nat} (h : k < L.length) : cAt L k ∈ L := by rw [cAt_get h]; exact List.getElem_mem h
theorem qAt_mem {L : List Rq} {k : Nat} (h : k < L.length) : qAt L k ∈ L := by rw [qAt_get h]; exact List.getElem_mem h
theorem bAt_snoc {L : List By} {k : Nat} (h : k < L.length) : L.take (k + 1) = L.take k ++ [bAt L k] := by rw [List.take_succ_eq_append_getElem h, bAt_get h]
theorem cAt_snoc {L : List Ca} {k : Nat} (h : k < L.length) : L.take (k + 1) = L.take k ++ [cAt L k] := by rw [List.take_succ_eq_append_getElem h, cAt_get h]
theorem qAt_snoc {L : List Rq} {k : Nat} (h : k < L.length) : L.take (k + 1) = L.take k ++ [qAt L k] := by rw [List.take_succ_eq_append_getElem h, qAt_get h]
-- TO BE READ
def RdB (w : World) (A : Option Addr) (L : List By) : Prop :=
  L ≠ [] → ∃ b off, A = some ⟨b, off, none⟩ ∧ b < w.heap.size ∧ ∀ k, k < L.length → ∃ v, w.cell? ⟨b, off + k, none⟩ = some v ∧ IsBs w v (bAt L k)
def RdC (w : World) (A : Option Addr) (L : List Ca) : Prop :=
  L ≠ [] → ∃ b off, A = some ⟨b, off, none⟩ ∧ b < w.heap.size ∧ ∀ k, k < L.length → ∃ v, w.cell? ⟨b, off + k * 2, none⟩ = some (.int .i64 (cAt L k).1) ∧ w.cell? ⟨b, off + k * 2 + 1, none⟩ = some v ∧ IsBs w v (cAt L k).2
def RdQ (w : World) (A : Option Addr) (L : List Rq) : Prop :=
  L ≠ [] → ∃ b off, A = some ⟨b, off, none⟩ ∧ b < w.heap.size ∧ ∀ k, k < L.length → ∃ v, w.cell? ⟨b, off + k * 4, none⟩ = some (.int .i64 (qAt L k).1) ∧ w.cell? ⟨b, off + k * 4 + 1, none⟩ = some (.int .i64 (qAt L k).2.1) ∧ w.cell? ⟨b, off + k * 4 + 2, none⟩ = some (.int .i64 (qAt L k).2.2.1) ∧ w.cell? ⟨b, off + k * 4 + 3, none⟩ = some v ∧ IsBs w v (qAt L k).2.2.2
section
variable {w w' : World} {A : Option Addr}
theorem RdB.cells {L : List By} (h : RdB w A L) (hb : Below w.heap.size w w') {k : Nat} (hk : k < L.length) : ∃ b off v, A = some ⟨b, off, none⟩ ∧ b < w.heap.size ∧ w'.cell? ⟨b, off + k, none⟩ = some v ∧ IsBs w' v (bAt L k) := by
  obtain ⟨b, off, e, hl, hc⟩ := h (by rintro rfl; simp at hk)
  obtain ⟨v, h1, h2⟩ := hc k hk
  exact ⟨b, off, v, e, hl, (hb.cell (p := ⟨b, _, none⟩) hl).trans h1, h2.below hb⟩
theorem RdC.cells {L : List Ca} (h : RdC w A L) (hb : Below w.heap.size w w') {k : Nat} (hk : k < L.length) : ∃ b off v, A = some ⟨b, off, none⟩ ∧ b < w.heap.size ∧ w'.cell? ⟨b, off + k * 2, none⟩ = some (.int .i64 (cAt L k).1) ∧ w'.cell? ⟨b, off + k * 2 + 1, none⟩ = some v ∧ IsBs w' v (cAt L k).2 := by
  obtain ⟨b, off, e, hl, hc⟩ := h (by rintro rfl; simp at hk)
  obtain ⟨v, h1, h2, h3⟩ := hc k hk
  exact ⟨b, off, v, e, hl, (hb.cell (p := ⟨b, _, none⟩) hl).trans h1, (hb.cell (p := ⟨b, _, none⟩) hl).trans h2, h3.below hb⟩
theorem RdQ.cells {L : List Rq} (h : RdQ w A L) (hb : Below w.heap.size w w') {k : Nat} (hk : k < L.length) : ∃ b off v, A = some ⟨b, off, none⟩ ∧ b < w.heap.size ∧ w'.cell? ⟨b, off + k * 4, none⟩ = some (.int .i64 (qAt L k).1) ∧ w'.cell? ⟨b, off + k * 4 + 1, none⟩ = some (.int .i64 (qAt L k).2.1) ∧ w'.cell? ⟨b, off + k * 4 + 2, none⟩ = some (.int .i64 (qAt L k).2.2.1) ∧ w'.cell? ⟨b, off + k * 4 + 3, none⟩ = some v ∧ IsBs w' v (qAt L k).2.2.2 := by
  obtain ⟨b, off, e, hl, hc⟩ := h (by rintro rfl; simp at hk)
  obtain ⟨v, h1, h2, h3, h4, h5⟩ := hc k hk
  exact ⟨b, off, v, e, hl, (hb.cell (p := ⟨b, _, none⟩) hl).trans h1, (hb.cell (p := ⟨b, _, none⟩) hl).trans h2, (hb.cell (p := ⟨b, _, none⟩) hl).trans h3, (hb.cell (p := ⟨b, _, none⟩) hl).trans h4, h5.below hb⟩
theorem RdB.below {L : List By} (h : RdB w A L) (hb : Below w.heap.size w w') : RdB w' A L := fun hn => by
  obtain ⟨b, off, e, hl, hc⟩ := h hn
  refine ⟨b, off, e, Nat.lt_of_lt_of_le hl hb.size, fun k hk => ?_⟩
  obtain ⟨b', off', v, e', _, r⟩ := h.cells hb hk
  rw [e] at e'; injection e' with e'; injection e' with e1 e2; subst e1 e2
  exact ⟨v, r⟩
theorem RdC.below {L : List Ca} (h : RdC w A L) (hb : Below w.heap.size w w') : RdC w' A L := fun hn => by
  obtain ⟨b, off, e, hl, hc⟩ := h hn
  refine ⟨b, off, e, Nat.lt_of_lt_of_le hl hb.size, fun k hk => ?_⟩
  obtain ⟨b', off', v, e', _, r⟩ := h.cells hb hk
  rw [e] at e'; injection e' with e'; injection e' with e1 e2; subst e1 e2
  exact ⟨v, r⟩
theorem RdQ.below {L : List Rq} (h : RdQ w A L) (hb : Below w.heap.size w w') : RdQ w' A L := fun hn => by
  obtain ⟨b, off, e, hl, hc⟩ := h hn
  refine ⟨b, off, e, Nat.lt_of_lt_of_le hl hb.size, fun k hk => ?_⟩
  obtain ⟨b', off', v, e', _, r⟩ := h.cells hb hk
  rw [e] at e'; injection e' with e'; injection e' with e1 e2; subst e1 e2
  exact ⟨v, r⟩
end
-- OF ONE'S OWN
abbrev PB := By × Value
abbrev PC := Int × By × Value
abbrev PQ := Int × Int × Int × By × Value
def pcC (r : PC) : Ca := (r.1, r.2.1)
def pqQ (r : PQ) : Rq := (r.1, r.2.1, r.2.2.1, r.2.2.2.1)
def cB (R : List PB) : List Value := R.map Prod.snd
def cC : List PC → List Value
  | [] => []
  | r :: R => .int .i64 r.1 :: r.2.2 :: cC R
def cQ : List PQ → List Value
  | [] => []
  | r :: R => .int .i64 r.1 :: .int .i64 r.2.1 :: .int .i64 r.2.2.1 :: r.2.2.2.2 :: cQ R
theorem cB_length (R : List PB) : (cB R).length = R.length := by simp [cB]
theorem cC_length : ∀ R : List PC, (cC R).length = R.length * 2
  | [] => rfl
  | r :: R => by simp only [cC, List.length_cons, cC_length R]; omega
theorem cQ_length : ∀ R : List PQ, (cQ R).length = R.length * 4
  | [] => rfl
  | r :: R => by simp only [cQ, List.length_cons, cQ_length R]; omega
theorem cB_append (R S : List PB) : cB (R ++ S) = cB R ++ cB S := by simp [cB]
theorem cC_append : ∀ R S : List PC, cC (R ++ S) = cC R ++ cC S
  | [], _ => rfl
  | r :: R, S => by simp only [cC, List.cons_append, cC_append R S]
theorem cQ_append : ∀ R S : List PQ, cQ (R ++ S) = cQ R ++ cQ S
  | [], _ => rfl
  | r :: R, S => by simp only [cQ, List.cons_append, cQ_append R S]
theorem cB_at {R : List PB} {k : Nat} (h : k < R.length) : (cB R)[k]? = some (R[k]).2 := by
  unfold cB; rw [List.getElem?_map, List.getElem?_eq_getElem h]; rfl
theorem cC_at : ∀ {R : List PC} {k : Nat} (h : k < R.length), (cC R)[k * 2]? = some (.int .i64 (R[k]).1) ∧ (cC R)[k * 2 + 1]? = some (R[k]).2.2
  | r :: R, 0, _ => ⟨rfl, rfl⟩
  | r :: R, k + 1, h => by
    have ih := cC_at (R := R) (k := k) (by simpa using h)
    rw [show (k + 1) * 2 = k * 2 + 2 by omega]
    exact ih
theorem cQ_at : ∀ {R : List PQ} {k : Nat} (h : k < R.length), (cQ R)[k * 4]? = some (.int .i64 (R[k]).1) ∧ (cQ R)[k * 4 + 1]? = some (.int .i64 (R[k]).2.1) ∧ (cQ R)[k * 4 + 2]? = some (.int .i64 (R[k]).2.2.1) ∧ (cQ R)[k * 4 + 3]? = some (R[k]).2.2.2.2
  | r :: R, 0, _ => ⟨rfl, rfl, rfl, rfl⟩
  | r :: R, k + 1, h => by
    have ih := cQ_at (R := R) (k := k) (by simpa using h)
    rw [show (k + 1) * 4 = k * 4 + 4 by omega]
    exact ih
def OwnB (B : Nat) (w : World) (v : Value) (L : List By) : Prop := ∃ R : List PB, R.map Prod.fst = L ∧ w.ownsRow B 23 1 v L.length (cB R) ∧ ∀ r ∈ R, OwnBy w r.2 r.1
def OwnC (B : Nat) (w : World) (v : Value) (L : List Ca) : Prop := ∃ R : List PC, R.map pcC = L ∧ w.ownsRow B 89 2 v L.length (cC R) ∧ ∀ r ∈ R, OwnBy w r.2.2 r.2.1
def OwnQ (B : Nat) (w : World) (v : Value) (L : List Rq) : Prop := ∃ R : List PQ, R.map pqQ = L ∧ w.ownsRow B 67 4 v L.length (cQ R) ∧ ∀ r ∈ R, OwnBy w r.2.2.2.2 r.2.2.2.1
section
variable {w w' : World} {v : Value} {B B' : Nat} {T : TypeId}
theorem OwnB.below {L : List By} (h : OwnB B w v L) (hb : Below w.heap.size w w') : OwnB B w' v L := by
  obtain ⟨R, e, hr, ho⟩ := h
  exact ⟨R, e, row_below hr hb, fun r hm => (ho r hm).below hb⟩
theorem OwnC.below {L : List Ca} (h : OwnC B w v L) (hb : Below w.heap.size w w') : OwnC B w' v L := by
  obtain ⟨R, e, hr, ho⟩ := h
  exact ⟨R, e, row_below hr hb, fun r hm => (ho r hm).below hb⟩
theorem OwnQ.below {L : List Rq} (h : OwnQ B w v L) (hb : Below w.heap.size w w') : OwnQ B w' v L := by
  obtain ⟨R, e, hr, ho⟩ := h
  exact ⟨R, e, row_below hr hb, fun r hm => (ho r hm).below hb⟩
theorem OwnB.kp {L : List By} (h : OwnB B w v L) (hk : Kp B' T w w') (h1 : (23 : TypeId) ≠ T) (h2 : (5 : TypeId) ≠ T) : OwnB B w' v L := by
  obtain ⟨R, e, hr, ho⟩ := h
  exact ⟨R, e, row_kp hr hk h1, fun r hm => (ho r hm).kp hk h2⟩
theorem OwnC.kp {L : List Ca} (h : OwnC B w v L) (hk : Kp B' T w w') (h1 : (89 : TypeId) ≠ T) (h2 : (5 : TypeId) ≠ T) : OwnC B w' v L := by
  obtain ⟨R, e, hr, ho⟩ := h
  exact ⟨R, e, row_kp hr hk h1, fun r hm => (ho r hm).kp hk h2⟩
theorem OwnQ.kp {L : List Rq} (h : OwnQ B w v L) (hk : Kp B' T w w') (h1 : (67 : TypeId) ≠ T) (h2 : (5 : TypeId) ≠ T) : OwnQ B w' v L := by
  obtain ⟨R, e, hr, ho⟩ := h
  exact ⟨R, e, row_kp hr hk h1, fun r hm => (ho r hm).kp hk h2⟩
theorem OwnB.mono {L : List By} (h : OwnB B w v L) (hB : B' ≤ B) : OwnB B' w v L := by
  obtain ⟨R, e, hr, ho⟩ := h
  exact ⟨R, e, row_mono hr hB, ho⟩
theorem OwnC.mono {L : List Ca} (h : OwnC B w v L) (hB : B' ≤ B) : OwnC B' w v L := by
  obtain ⟨R, e, hr, ho⟩ := h
  exact ⟨R, e, row_mono hr hB, ho⟩
theorem OwnQ.mono {L : List Rq} (h : OwnQ B w v L) (hB : B' ≤ B) : OwnQ B' w v L := by
  obtain ⟨R, e, hr, ho⟩ := h
  exact ⟨R, e, row_mono hr hB, ho⟩
theorem OwnB.nil (B : Nat) (w : World) : OwnB B w (.slice none 0 0) [] := ⟨[], rfl, ⟨rfl, .inl ⟨rfl, rfl⟩⟩, fun r h => by cases h⟩
theorem OwnC.nil (B : Nat) (w : World) : OwnC B w (.slice none 0 0) [] := ⟨[], rfl, ⟨rfl, .inl ⟨rfl, rfl⟩⟩, fun r h => by cases h⟩
theorem OwnQ.nil (B : Nat) (w : World) : OwnQ B w (.slice none 0 0) [] := ⟨[], rfl, ⟨rfl, .inl ⟨rfl, rfl⟩⟩, fun r h => by cases h⟩
theorem OwnB.form {L : List By} (h : OwnB B w v L) : ∃ A c, v = .slice A L.length c ∧ L.length ≤ c := by
  obtain ⟨R, e, hr, ho⟩ := h; exact row_form hr
theorem OwnC.form {L : List Ca} (h : OwnC B w v L) : ∃ A c, v = .slice A L.length c ∧ L.length ≤ c := by
  obtain ⟨R, e, hr, ho⟩ := h; exact row_form hr
theorem OwnQ.form {L : List Rq} (h : OwnQ B w v L) : ∃ A c, v = .slice A L.length c ∧ L.length ≤ c := by
  obtain ⟨R, e, hr, ho⟩ := h; exact row_form hr
theorem OwnB.rd {L : List By} {A : Option Addr} {c n : Nat} (h : OwnB B w (.slice A n c) L) : RdB w A L := fun hn => by
  obtain ⟨R, e, hr, ho⟩ := h
  have hl : R.length = L.length := by rw [← e, List.length_map]
  obtain ⟨A', c', e1, _⟩ := row_form hr
  injection e1 with e1 e2 e3
  subst e1 e2 e3
  obtain ⟨g, rfl, hg, _, hc, _⟩ := row_cell hr (fun h0 => hn (List.eq_nil_of_length_eq_zero h0))
  refine ⟨g, 0, rfl, hg, fun k hk => ⟨(R[k]'(by omega)).2, ?_, ?_⟩⟩
  · rw [Nat.zero_add]; exact hc k _ (cB_at (by omega))
  · have : bAt L k = (R[k]'(by omega)).1 := by rw [bAt_get hk]; simp [← e]
    rw [this]
    exact (ho _ (List.getElem_mem _)).is
theorem OwnC.rd {L : List Ca} {A : Option Addr} {c n : Nat} (h : OwnC B w (.slice A n c) L) : RdC w A L := fun hn => by
  obtain ⟨R, e, hr, ho⟩ := h
  have hl : R.length = L.length := by rw [← e, List.length_map]
  obtain ⟨A', c', e1, _⟩ := row_form hr
  injection e1 with e1 e2 e3
  subst e1 e2 e3
  obtain ⟨g, rfl, hg, _, hc, _⟩ := row_cell hr (fun h0 => hn (List.eq_nil_of_length_eq_zero h0))
  refine ⟨g, 0, rfl, hg, fun k hk => ⟨(R[k]'(by omega)).2.2, ?_, ?_, ?_⟩⟩
  · have : (cAt L k).1 = (R[k]'(by omega)).1 := by rw [cAt_get hk]; simp [← e, pcC]
    rw [this, Nat.zero_add]; exact hc _ _ (cC_at (by omega)).1
  · have q := hc _ _ (cC_at (R := R) (k := k) (by omega)).2
    rw [Nat.zero_add]; exact q
  · have : (cAt L k).2 = (R[k]'(by omega)).2.1 := by rw [cAt_get hk]; simp [← e, pcC]
    rw [this]
    exact (ho _ (List.getElem_mem _)).is
theorem OwnQ.rd {L : List Rq} {A : Option Addr} {c n : Nat} (h : OwnQ B w (.slice A n c) L) : RdQ w A L := fun hn => by
  obtain ⟨R, e, hr, ho⟩ := h
  have hl : R.length = L.length := by rw [← e, List.length_map]
  obtain ⟨A', c', e1, _⟩ := row_form hr
  injection e1 with e1 e2 e3
  subst e1 e2 e3
  obtain ⟨g, rfl, hg, _, hc, _⟩ := row_cell hr (fun h0 => hn (List.eq_nil_of_length_eq_zero h0))
  refine ⟨g, 0, rfl, hg, fun k hk => ?_⟩
  have hq : qAt L k = pqQ (R[k]'(by omega)) := by rw [qAt_get hk]; simp [← e]
  obtain ⟨c0, c1, c2, c3⟩ := cQ_at (R := R) (k := k) (by omega)
  rw [hq]
  refine ⟨(R[k]'(by omega)).2.2.2.2, ?_, ?_, ?_, ?_, (ho _ (List.getElem_mem _)).is⟩
  · rw [Nat.zero_add]; exact hc _ _ c0
  · rw [Nat.zero_add]; exact hc _ _ c1
  · rw [Nat.zero_add]; exact hc _ _ c2
  · rw [Nat.zero_add]; exact hc _ _ c3
end
-- A DEVICE
structure Dev where
  dep : Int
  nxt : Int
  bl : List By
  ca : List Ca
  qu : List Rq
/-- a value that reads as a device -/
def DevIn (w : World) (v : Value) (D : Dev) : Prop :=
  ∃ Ab cb Ac cc Aq cq, v = .agg #[.int .i64 D.dep, .int .i64 D.nxt, .slice Ab D.bl.length cb, .slice Ac D.ca.length cc, .slice Aq D.qu.length cq] ∧ D.bl.length ≤ cb ∧ D.ca.length ≤ cc ∧ D.qu.length ≤ cq ∧ RdB w Ab D.bl ∧ RdC w Ac D.ca ∧ RdQ w Aq D.qu
theorem DevIn.below {w w' : World} {v : Value} {D : Dev} (h : DevIn w v D) (hb : Below w.heap.size w w') : DevIn w' v D := by
  obtain ⟨Ab, cb, Ac, cc, Aq, cq, e, h1, h2, h3, r1, r2, r3⟩ := h
  exact ⟨Ab, cb, Ac, cc, Aq, cq, e, h1, h2, h3, r1.below hb, r2.below hb, r3.below hb⟩
/-- a device of one's own -/
def DevOwn (B : Nat) (w : World) (v : Value) (D : Dev) : Prop :=
  ∃ vb vc vq, v = .agg #[.int .i64 D.dep, .int .i64 D.nxt, vb, vc, vq] ∧ OwnB B w vb D.bl ∧ OwnC B w vc D.ca ∧ OwnQ B w vq D.qu
theorem DevOwn.is {B : Nat} {w : World} {v : Value} {D : Dev} (h : DevOwn B w v D) : DevIn w v D := by
  obtain ⟨vb, vc, vq, rfl, hb, hc, hq⟩ := h
  obtain ⟨Ab, cb, rfl, h1⟩ := hb.form
  obtain ⟨Ac, cc, rfl, h2⟩ := hc.form
  obtain ⟨Aq, cq, rfl, h3⟩ := hq.form
  exact ⟨Ab, cb, Ac, cc, Aq, cq, rfl, h1, h2, h3, hb.rd, hc.rd, hq.rd⟩
end Go.Proofs.Ytncdilkcblakhaa.Dv
/-
  DERIVED. The plain mathematics of a device: its checks, its calls.
-/
namespace Go.Proofs.Ytncdilkcblakhaa.Dv
open Go Go.RowKit
set_option linter.unusedVariables false
def mx : Int := 1099511627776
def noP (b : By) : Bool := decide (b.length ≠ 32)
def inB (n : Nat) (b : Int) : Bool := decide (0 ≤ b ∧ b < (n : Int))
/-- the error of a request, whatever its number is -/
def reqE (n : Nat) (k b : Int) (len : Nat) : Int :=
  if k ≠ 1 ∧ k ≠ 2 ∧ k ≠ 3 then 1 else if inB n b = false ∨ (k = 3 ∧ b ≠ 0) then 2 else if (k = 2 ∧ len ≠ 32) ∨ (k ≠ 2 ∧ len ≠ 0) then 3 else 0
/-- the first index at which a test says yes -/
def firstBad (f : Nat → Int) (n : Nat) : Int := match (List.range n).find? (fun i => f i != 0) with | some i => f i | none => 0
theorem firstBad_none {f : Nat → Int} {n : Nat} (h : ∀ i, i < n → f i = 0) : firstBad f n = 0 := by
  unfold firstBad
  rw [List.find?_eq_none.2 (fun i hi => by simp [h i (List.mem_range.1 hi)])]
theorem firstBad_at {f : Nat → Int} {n k : Nat} (hk : k < n) (h : ∀ i, i < k → f i = 0) (hb : f k ≠ 0) : firstBad f n = f k := by
  unfold firstBad
  have e : (List.range n).find? (fun i => f i != 0) = some k := by
    rw [List.find?_eq_some_iff_getElem]
    refine ⟨by simpa using hb, k, by simpa using hk, by simp, fun j hj => ?_⟩
    simp [h j hj]
  rw [e]
theorem firstBad_zero {f : Nat → Int} {n : Nat} (h : firstBad f n = 0) : ∀ i, i < n → f i = 0 := by
  intro i hi
  by_cases c : ∃ k, k < n ∧ f k ≠ 0
  · have : ∃ k, (k < n ∧ f k ≠ 0) ∧ ∀ j, j < k → f j = 0 := by
      obtain ⟨k, hk⟩ := c
      induction k using Nat.strongRecOn with
      | ind k ih =>
        by_cases d : ∃ j, j < k ∧ f j ≠ 0
        · obtain ⟨j, hj, hf⟩ := d
          exact ih j hj ⟨by omega, hf⟩
        · exact ⟨k, hk, fun j hj => by
            by_cases e : f j = 0
            · exact e
            · exact absurd ⟨j, hj, e⟩ d⟩
    obtain ⟨k, ⟨hk, hf⟩, hj⟩ := this
    rw [firstBad_at hk hj hf] at h
    exact absurd h hf
  · by_cases e : f i = 0
    · exact e
    · exact absurd ⟨i, hi, e⟩ c
def blE (L : List By) : Int := firstBad (fun i => if noP (bAt L i) then 3 else 0) L.length
def coE (n : Nat) (L : List Ca) : Int := firstBad (fun i => if inB n (cAt L i).1 = false ∨ (0 < i ∧ (cAt L i).1 ≤ (cAt L (i - 1)).1) then 10 else 0) L.length
def cfE (L : List Ca) : Int := firstBad (fun i => if noP (cAt L i).2 then 3 else 0) L.length
def caE (n : Nat) (L : List Ca) : Int := if coE n L = 0 then cfE L else coE n L
def rqE (n : Nat) (q : Rq) : Int := reqE n q.2.1 q.2.2.1 q.2.2.2.length
def q1E (n : Nat) (nx : Int) (L : List Rq) (i : Nat) : Int :=
  if rqE n (qAt L i) = 0 then (if (qAt L i).1 < 0 ∨ nx ≤ (qAt L i).1 ∨ (0 < i ∧ (qAt L i).1 ≤ (qAt L (i - 1)).1) then 10 else 0) else rqE n (qAt L i)
def quE (n : Nat) (nx : Int) (L : List Rq) : Int := firstBad (q1E n nx L) L.length
def dbE (dep : Int) (n : Nat) : Bool := decide (1 ≤ dep ∧ dep ≤ 16 ∧ 1 ≤ n ∧ n ≤ 256)
/-- the error of a depth and of blocks -/
def nwE (dep : Int) (L : List By) : Int := if dbE dep L.length then blE L else 2
/-- the error of a device -/
def chk (D : Dev) : Int :=
  if D.nxt < 0 ∨ mx < D.nxt then 2 else if nwE D.dep D.bl ≠ 0 then nwE D.dep D.bl else if caE D.bl.length D.ca ≠ 0 then caE D.bl.length D.ca else if D.dep < D.qu.length then 8 else quE D.bl.length D.nxt D.qu
def zeroD : Dev := ⟨0, 0, [], [], []⟩
def sbE (D : Dev) (k b : Int) (len : Nat) : Int :=
  if chk D ≠ 0 then chk D else if reqE D.bl.length k b len ≠ 0 then reqE D.bl.length k b len else if D.nxt = mx then 9 else if D.dep ≤ D.qu.length then 8 else 0
def sbD (D : Dev) (k b : Int) (x : By) : Dev := { D with nxt := D.nxt + 1, qu := D.qu ++ [(D.nxt, k, b, x)] }
/-- the place of a block in the cache -/
def caI (L : List Ca) (b : Int) : Nat := (L.takeWhile fun c => c.1 < b).length
def caHit (L : List Ca) (b : Int) : Bool := L.any fun c => c.1 == b
def caGet (L : List Ca) (b : Int) : Option By := (L.find? fun c => c.1 == b).map Prod.snd
def cont (D : Dev) (b : Int) : By := match caGet D.ca b with | some x => x | none => bAt D.bl b.toNat
def putC : List Ca → Int → By → List Ca
  | [], b, x => [(b, x)]
  | c :: l, b, x => if c.1 < b then c :: putC l b x else if c.1 = b then (b, x) :: l else (b, x) :: c :: l
def flB : List By → List Ca → List By
  | L, [] => L
  | L, c :: r => flB (L.set c.1.toNat c.2) r
def los (D : Dev) : List Ca := D.ca ++ (D.qu.filter fun q => q.2.1 == 2).map fun q => (q.2.2.1, q.2.2.2)
def crB (picks : List Bool) : List By → List Ca → Nat → List By
  | L, [], _ => L
  | L, c :: r, i => crB picks (if picks.getD i false then L.set c.1.toNat c.2 else L) r (i + 1)
end Go.Proofs.Ytncdilkcblakhaa.Dv
namespace Go.Proofs.Ytncdilkcblakhaa.Dv
open Go.ChangeShapes Go.WideShapes Go.ChangeAt Go.RowKit Go.Joins Go.Deep
set_option linter.unusedVariables false
/-- no list is longer than a machine counts -/
structure Big (D : Dev) : Prop where
  bl : D.bl.length ≤ 9223372036854775807
  ca : D.ca.length ≤ 9223372036854775807
  qu : D.qu.length ≤ 9223372036854775807
  bb : ∀ b ∈ D.bl, b.length ≤ 9223372036854775807
  cb : ∀ c ∈ D.ca, c.2.length ≤ 9223372036854775807
  qb : ∀ q ∈ D.qu, q.2.2.2.length ≤ 9223372036854775807
section
variable {H : Type} {enc : TypeId × Value → H} {W : World} {base b0 : Nat} {v : Value} {d : DataW H} {p : List MemPlace}
end
end Go.Proofs.Ytncdilkcblakhaa.Dv
