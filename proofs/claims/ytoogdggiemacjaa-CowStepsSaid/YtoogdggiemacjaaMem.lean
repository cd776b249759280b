import Derived.Test.YtoogdggiemacjaaRows
import Derived.Test.YtoogdggiemacjaaMath
import Derived.Deep.Cut
import Derived.Deep.DeepCutAuto
import Derived.Deep.CutBlock
import Derived.Laws.Tables
import Derived.WalkKit
import Derived.WalkSpells
import Derived.WalkLawsBesides
import Derived.LoopTactic
import Derived.IntWalk
import Derived.Deep.QuietTactic
import Derived.BigQuiet
import Derived.Outline
import Derived.Below
import Derived.Deep.RegionHeld3
import Derived.Deep.RegionLaw
import Derived.Laws.StructEq
import Derived.Deep.OwnRows
import Derived.Laws.OwnMore
import Derived.Laws.Rows
import Derived.OwnWalk
import Derived.Lib.Hide
/-
  DERIVED. How lists of numbers lie in memory, to be read and of one's own.
-/
namespace Go.Proofs.Ytoogdggiemacjaa.Cw
open Go Go.RowKit
def i64r (x : Int) : Prop := -9223372036854775808 ≤ x ∧ x ≤ 9223372036854775807
set_option linter.unusedVariables false
theorem hide {p : Prop} (h : p) : Hid p := h
theorem ret_int {k : IntKind} {a b : Int} (h : a = b) : Ending.returned (.int k a) = .returned (.int k b) := by rw [h]
theorem ret_bool {a b : Bool} (h : a = b) : Ending.returned (.bool a) = .returned (.bool b) := by rw [h]
theorem bal {a w : World} (h : Below a.heap.size a w) (o : Obj) : Below a.heap.size a (w.alloc o) := h.alloc h.size o
theorem bset {a w : World} (h : Below a.heap.size a w) {p : Addr} (hp : a.heap.size ≤ p.block) (v : Value) : Below a.heap.size a (w.setCell p v) := h.setCell hp v
theorem brefl (a : World) : Below a.heap.size a a := Below.refl _ _
theorem btrans {a b c : World} (h : Below a.heap.size a b) (k : Below b.heap.size b c) : Below a.heap.size a c := h.trans (k.mono h.size)
theorem bcell {W w1 : World} (hb : Below W.heap.size W w1) : (∀ b o, b < W.heap.size → w1.cell? ⟨b, o, none⟩ = W.cell? ⟨b, o, none⟩) ∧ (∀ b o, b < W.heap.size → w1.frozen? ⟨b, o, none⟩ = W.frozen? ⟨b, o, none⟩) :=
  ⟨fun b o h => hb.cell (p := ⟨b, o, none⟩) h, fun b o h => hb.frozen (p := ⟨b, o, none⟩) h⟩
theorem below_drewN {B : Nat} {a w : World} (h : Below B a w) (n : Nat) : Below B a (w.drewN n) := ⟨h.os, h.tape, h.output, h.size, h.block⟩
theorem quiet_left {P : Program} {f : FuncId} {args : Array Value} {w : World} {n : Nat} {v : Value}
    (h : Calls P f args (w.drewN n) fun e w' => e = .returned v ∧ w.drewN n = w') : Calls P f args (w.drewN n) fun e w'' => e = .returned v ∧ ∃ m, w'' = w.drewN m :=
  h.mono fun _ _ ⟨he, hm⟩ => ⟨he, n, hm.symm⟩
theorem blk_lt {w : World} {g : Nat} {o : Obj} (hh : w.heap[g]? = some o) : g < w.heap.size := by
  rcases Nat.lt_or_ge g w.heap.size with h1 | h1
  · exact h1
  · rw [Array.getElem?_eq_none h1] at hh; cases hh
theorem alloc_size' (w : World) (o : Obj) : (w.alloc o).heap.size = w.heap.size + 1 := by simp
-- BOXES
def Box (w : World) (g : Nat) (t : TypeId) (cs : Array Value) : Prop := w.heap[g]? = some (.cells cs t (0, 0))
section
variable {w w' : World} {g : Nat} {t : TypeId} {cs : Array Value}
theorem Box.new (w : World) (t : TypeId) (cs : Array Value) : Box (w.alloc (.cells cs t)) w.heap.size t cs := heap_alloc_new w _
theorem Box.lt (h : Box w g t cs) : g < w.heap.size := blk_lt h
theorem Box.cell (h : Box w g t cs) (i : Nat) : w.cell? ⟨g, i, none⟩ = cs[i]? := cell_of_row w g i cs t (0, 0) h
theorem Box.frozen (h : Box w g t cs) (i : Nat) : w.frozen? ⟨g, i, none⟩ = false := by
  unfold Box at h
  simp [World.frozen?, h]
theorem Box.below (h : Box w g t cs) (hb : Below w.heap.size w w') : Box w' g t cs := (hb.block g (blk_lt h)).trans h
theorem Box.more (h : Box w g t cs) (o : Obj) : Box (w.alloc o) g t cs := h.below (bal (brefl _) _)
theorem Box.put (h : Box w g t cs) (i : Nat) (u : Value) : Box (w.setCell ⟨g, i, none⟩ u) g t (cs.setIfInBounds i u) := by
  unfold Box at h ⊢
  simp [World.setCell, Array.getElem?_modify, h]
theorem Box.far (h : Box w g t cs) {b i : Nat} (hne : g ≠ b) (u : Value) : Box (w.setCell ⟨b, i, none⟩ u) g t cs := (heap_setCell_other w ⟨b, i, none⟩ g u hne).trans h
theorem Box.new2 (w : World) (o : Obj) (t : TypeId) (cs : Array Value) : Box ((w.alloc o).alloc (.cells cs t)) (w.heap.size + 1) t cs := by
  have := Box.new (w.alloc o) t cs
  rwa [alloc_size'] at this
theorem Box.new3 (w : World) (o1 o2 : Obj) (t : TypeId) (cs : Array Value) : Box (((w.alloc o1).alloc o2).alloc (.cells cs t)) (w.heap.size + 2) t cs := by
  have := Box.new ((w.alloc o1).alloc o2) t cs
  rwa [alloc_size', alloc_size'] at this
theorem Box.ne {g2 : Nat} {t2 : TypeId} {cs2 : Array Value} (h : Box w g t cs) (h2 : Box w g2 t2 cs2) (hne : t ≠ t2) : g ≠ g2 := by
  rintro rfl
  unfold Box at h h2
  rw [h] at h2
  injection h2 with h2
  injection h2 with _ h3
  exact hne h3
end
-- WHAT A STEP KEEPS: all below B; and of what is there, all that is no row of the type T
structure Kp (B : Nat) (T : TypeId) (w w' : World) : Prop where
  below : Below B w w'
  keep : ∀ k, k < w.heap.size → (∀ cur, w.heap[k]? ≠ some (.cells cur T (0, 0))) → w'.heap[k]? = w.heap[k]?
section
variable {B : Nat} {T : TypeId} {w w' w2 : World}
theorem Kp.of_below (h : Below w.heap.size w w') (hB : B ≤ w.heap.size) : Kp B T w w' := ⟨h.mono hB, fun k hk _ => h.block k hk⟩
theorem Kp.refl (B : Nat) (T : TypeId) (w : World) : Kp B T w w := ⟨Below.refl _ _, fun _ _ _ => rfl⟩
theorem Kp.trans (h : Kp B T w w') (h2 : Kp B T w' w2) : Kp B T w w2 :=
  ⟨h.below.trans h2.below, fun k hk hn => (h2.keep k (Nat.lt_of_lt_of_le hk h.below.size) (fun cur e => hn cur ((h.keep k hk hn).symm.trans e))).trans (h.keep k hk hn)⟩
theorem Kp.mono {B' : Nat} (h : Kp B T w w') (hB : B' ≤ B) : Kp B' T w w' := ⟨h.below.mono hB, h.keep⟩
theorem Kp.boxset {g : Nat} {cs : Array Value} (hX : Box w g T cs) (hB : B ≤ g) (i : Nat) (u : Value) : Kp B T w (w.setCell ⟨g, i, none⟩ u) :=
  ⟨(Below.refl _ _).setCell hB u, fun k hk hn => heap_setCell_other w ⟨g, i, none⟩ k u (fun e => hn cs (by subst e; exact hX))⟩
theorem Kp.grown {base n size : Nat} {v : Value} {xs : List Value} (h : w.ownsRow base T size v n xs) (hg : w.grownBy w' v.ownBlock) (hB : B ≤ base) (hs : B ≤ w.heap.size) : Kp B T w w' := by
  refine ⟨⟨hg.os, hg.tape, hg.output, hg.size, fun k hk => hg.block k (by omega) ?_⟩, fun k hk hn => hg.block k hk ?_⟩
  · obtain ⟨_, ⟨rfl, rfl⟩ | ⟨g, cap, cur, rfl, hgb, _⟩⟩ := h
    · exact Option.some_ne_none _
    · intro e
      have : k = g := by simpa [Value.ownBlock] using e
      omega
  · obtain ⟨_, ⟨rfl, rfl⟩ | ⟨g, cap, cur, rfl, hgb, hh, _⟩⟩ := h
    · exact Option.some_ne_none _
    · intro e
      have : k = g := by simpa [Value.ownBlock] using e
      subst this
      exact hn cur hh
theorem Box.kp {g : Nat} {t : TypeId} {cs : Array Value} (h : Box w g t cs) (hk : Kp B T w w') (hne : t ≠ T) : Box w' g t cs :=
  (hk.keep g h.lt (fun cur e => by unfold Box at h; rw [h] at e; injection e with e; injection e with _ h3; exact hne h3)).trans h
theorem row_kp {base n size : Nat} {t : TypeId} {v : Value} {xs : List Value} (h : w.ownsRow base t size v n xs) (hk : Kp B T w w') (hne : t ≠ T) : w'.ownsRow base t size v n xs := by
  obtain ⟨hl, h | ⟨g, cap, cur, e, hg, hh, r⟩⟩ := h
  · exact ⟨hl, .inl h⟩
  · exact ⟨hl, .inr ⟨g, cap, cur, e, hg, Box.kp (t := t) hh hk hne, r⟩⟩
theorem row_below {base n size : Nat} {t : TypeId} {v : Value} {xs : List Value} (h : w.ownsRow base t size v n xs) (hb : Below w.heap.size w w') : w'.ownsRow base t size v n xs := by
  obtain ⟨hl, h | ⟨g, cap, cur, e, hg, hh, r⟩⟩ := h
  · exact ⟨hl, .inl h⟩
  · exact ⟨hl, .inr ⟨g, cap, cur, e, hg, (hb.block g (blk_lt hh)).trans hh, r⟩⟩
theorem row_mono {base base' n size : Nat} {t : TypeId} {v : Value} {xs : List Value} (h : w.ownsRow base t size v n xs) (hB : base' ≤ base) : w.ownsRow base' t size v n xs := by
  obtain ⟨hl, h | ⟨g, cap, cur, e, hg, r⟩⟩ := h
  · exact ⟨hl, .inl h⟩
  · exact ⟨hl, .inr ⟨g, cap, cur, e, Nat.le_trans hB hg, r⟩⟩
theorem row_form {base n size : Nat} {t : TypeId} {v : Value} {xs : List Value} (h : w.ownsRow base t size v n xs) : ∃ A c, v = .slice A n c ∧ n ≤ c := by
  obtain ⟨_, ⟨rfl, rfl⟩ | ⟨g, cap, cur, rfl, _, _, h4, _⟩⟩ := h
  · exact ⟨none, 0, rfl, Nat.le_refl _⟩
  · exact ⟨_, _, rfl, h4⟩
theorem row_cell {base n size : Nat} {t : TypeId} {A : Option Addr} {c : Nat} {xs : List Value} (h : w.ownsRow base t size (.slice A n c) n xs) (hn : n ≠ 0) : ∃ g, A = some ⟨g, 0, none⟩ ∧ g < w.heap.size ∧ base ≤ g ∧ (∀ j u, xs[j]? = some u → w.cell? ⟨g, j, none⟩ = some u) ∧ ∀ j, w.frozen? ⟨g, j, none⟩ = false := by
  obtain ⟨hl, h | ⟨g, cap, cur, e, hg, hh, h4, h5, h6, ht⟩⟩ := h
  · exact absurd h.2 hn
  · injection e with e1 _ e2
    refine ⟨g, e1, blk_lt hh, hg, fun j u hu => ?_, fun j => by simp [World.frozen?, hh]⟩
    have hj : j < n * size := by
      rcases Nat.lt_or_ge j (n * size) with h | h
      · exact h
      · rw [List.getElem?_eq_none (by omega)] at hu; cases hu
    rw [← ht, List.getElem?_take_of_lt hj] at hu
    have e2 : cur[j]? = some u := by simpa using hu
    rw [cell_of_row w g _ cur t (0, 0) hh]; exact e2
end
-- PAGES
def RdP (w : World) (A : Option Addr) (L : List Pg) : Prop :=
  L ≠ [] → ∃ b off, A = some ⟨b, off, none⟩ ∧ b < w.heap.size ∧ ∀ k, k < L.length → w.cell? ⟨b, off + k * 2, none⟩ = some (.int .i64 (pAt L k).1) ∧ w.cell? ⟨b, off + k * 2 + 1, none⟩ = some (.bool (pAt L k).2)
theorem RdP.cells {w w' : World} {A : Option Addr} {L : List Pg} (h : RdP w A L) (hb : Below w.heap.size w w') {k : Nat} (hk : k < L.length) : ∃ b off, A = some ⟨b, off, none⟩ ∧ b < w.heap.size ∧ w'.cell? ⟨b, off + k * 2, none⟩ = some (.int .i64 (pAt L k).1) ∧ w'.cell? ⟨b, off + k * 2 + 1, none⟩ = some (.bool (pAt L k).2) := by
  obtain ⟨b, off, e, hl, hc⟩ := h (by rintro rfl; simp at hk)
  obtain ⟨h0, h1⟩ := hc k hk
  exact ⟨b, off, e, hl, (hb.cell (p := ⟨b, _, none⟩) hl).trans h0, (hb.cell (p := ⟨b, _, none⟩) hl).trans h1⟩
theorem RdP.below {w w' : World} {A : Option Addr} {L : List Pg} (h : RdP w A L) (hb : Below w.heap.size w w') : RdP w' A L := fun hn => by
  obtain ⟨b, off, e, hl, hc⟩ := h hn
  refine ⟨b, off, e, Nat.lt_of_lt_of_le hl hb.size, fun k hk => ?_⟩
  obtain ⟨h0, h1⟩ := hc k hk
  exact ⟨(hb.cell (p := ⟨b, _, none⟩) hl).trans h0, (hb.cell (p := ⟨b, _, none⟩) hl).trans h1⟩
theorem RdP.nil (w : World) (A : Option Addr) : RdP w A [] := fun h => absurd rfl h
def IsP (w : World) (v : Value) (L : List Pg) : Prop := ∃ A c, v = .slice A L.length c ∧ L.length ≤ c ∧ RdP w A L
theorem IsP.below {w w' : World} {v : Value} {L : List Pg} (h : IsP w v L) (hb : Below w.heap.size w w') : IsP w' v L := by
  obtain ⟨A, c, e, hc, hr⟩ := h
  exact ⟨A, c, e, hc, hr.below hb⟩
-- FRAMES
def RdF (w : World) (A : Option Addr) (L : List Fr) : Prop :=
  L ≠ [] → ∃ b off, A = some ⟨b, off, none⟩ ∧ b < w.heap.size ∧ ∀ k, k < L.length → w.cell? ⟨b, off + k * 2, none⟩ = some (.int .i64 (fAt L k).1) ∧ w.cell? ⟨b, off + k * 2 + 1, none⟩ = some (.int .i64 (fAt L k).2)
theorem RdF.cells {w w' : World} {A : Option Addr} {L : List Fr} (h : RdF w A L) (hb : Below w.heap.size w w') {k : Nat} (hk : k < L.length) : ∃ b off, A = some ⟨b, off, none⟩ ∧ b < w.heap.size ∧ w'.cell? ⟨b, off + k * 2, none⟩ = some (.int .i64 (fAt L k).1) ∧ w'.cell? ⟨b, off + k * 2 + 1, none⟩ = some (.int .i64 (fAt L k).2) := by
  obtain ⟨b, off, e, hl, hc⟩ := h (by rintro rfl; simp at hk)
  obtain ⟨h0, h1⟩ := hc k hk
  exact ⟨b, off, e, hl, (hb.cell (p := ⟨b, _, none⟩) hl).trans h0, (hb.cell (p := ⟨b, _, none⟩) hl).trans h1⟩
theorem RdF.below {w w' : World} {A : Option Addr} {L : List Fr} (h : RdF w A L) (hb : Below w.heap.size w w') : RdF w' A L := fun hn => by
  obtain ⟨b, off, e, hl, hc⟩ := h hn
  refine ⟨b, off, e, Nat.lt_of_lt_of_le hl hb.size, fun k hk => ?_⟩
  obtain ⟨h0, h1⟩ := hc k hk
  exact ⟨(hb.cell (p := ⟨b, _, none⟩) hl).trans h0, (hb.cell (p := ⟨b, _, none⟩) hl).trans h1⟩
theorem RdF.nil (w : World) (A : Option Addr) : RdF w A [] := fun h => absurd rfl h
def IsF (w : World) (v : Value) (L : List Fr) : Prop := ∃ A c, v = .slice A L.length c ∧ L.length ≤ c ∧ RdF w A L
theorem IsF.below {w w' : World} {v : Value} {L : List Fr} (h : IsF w v L) (hb : Below w.heap.size w w') : IsF w' v L := by
  obtain ⟨A, c, e, hc, hr⟩ := h
  exact ⟨A, c, e, hc, hr.below hb⟩
-- SPACES
def RdS (w : World) (A : Option Addr) (L : List Sp) : Prop :=
  L ≠ [] → ∃ b off, A = some ⟨b, off, none⟩ ∧ b < w.heap.size ∧ ∀ k, k < L.length → ∃ v, w.cell? ⟨b, off + k * 2, none⟩ = some (.bool (sAt L k).1) ∧ w.cell? ⟨b, off + k * 2 + 1, none⟩ = some v ∧ IsP w v (sAt L k).2
theorem RdS.cells {w w' : World} {A : Option Addr} {L : List Sp} (h : RdS w A L) (hb : Below w.heap.size w w') {k : Nat} (hk : k < L.length) : ∃ b off v, A = some ⟨b, off, none⟩ ∧ b < w.heap.size ∧ w'.cell? ⟨b, off + k * 2, none⟩ = some (.bool (sAt L k).1) ∧ w'.cell? ⟨b, off + k * 2 + 1, none⟩ = some v ∧ IsP w' v (sAt L k).2 := by
  obtain ⟨b, off, e, hl, hc⟩ := h (by rintro rfl; simp at hk)
  obtain ⟨v, h1, h2, h3⟩ := hc k hk
  exact ⟨b, off, v, e, hl, (hb.cell (p := ⟨b, _, none⟩) hl).trans h1, (hb.cell (p := ⟨b, _, none⟩) hl).trans h2, h3.below hb⟩
theorem RdS.below {w w' : World} {A : Option Addr} {L : List Sp} (h : RdS w A L) (hb : Below w.heap.size w w') : RdS w' A L := fun hn => by
  obtain ⟨b, off, e, hl, hc⟩ := h hn
  refine ⟨b, off, e, Nat.lt_of_lt_of_le hl hb.size, fun k hk => ?_⟩
  obtain ⟨v, h1, h2, h3⟩ := hc k hk
  exact ⟨v, (hb.cell (p := ⟨b, _, none⟩) hl).trans h1, (hb.cell (p := ⟨b, _, none⟩) hl).trans h2, h3.below hb⟩
-- THE MACHINE
def cwA (M : Cow) (As : Option Addr) (cs : Nat) (Af : Option Addr) (cf : Nat) : Array Value := #[.int .i64 M.sz, .slice As M.sp.length cs, .slice Af M.fr.length cf, .int .i64 M.cp]
/-- a value that reads as a machine -/
structure CwIn (w : World) (M : Cow) (As : Option Addr) (cs : Nat) (Af : Option Addr) (cf : Nat) : Prop where
  hs : M.sp.length ≤ cs
  hf : M.fr.length ≤ cf
  rs : RdS w As M.sp
  rf : RdF w Af M.fr
theorem CwIn.below {w w' : World} {M : Cow} {As Af : Option Addr} {cs cf : Nat} (h : CwIn w M As cs Af cf) (hb : Below w.heap.size w w') : CwIn w' M As cs Af cf := ⟨h.hs, h.hf, h.rs.below hb, h.rf.below hb⟩
/-- no list is longer than a machine counts -/
structure Big (M : Cow) : Prop where
  sp : M.sp.length ≤ 9223372036854775807
  fr : M.fr.length ≤ 9223372036854775807
  pg : ∀ k, k < M.sp.length → (sAt M.sp k).2.length ≤ 9223372036854775807
theorem info47 : (Try.prog.info? 3).map (fun i => (i.zero, i.size, i.bytes)) = some (some (.int .i64 0), 1, 8) := by kernel_rfl
theorem below_grown {B n size : Nat} {t : TypeId} {v : Value} {xs : List Value} {w w' : World} (h : w.ownsRow B t size v n xs) (hg : w.grownBy w' v.ownBlock) (hs : B ≤ w.heap.size) : Below B w w' := (Kp.grown h hg (Nat.le_refl B) hs).below
theorem box4 {w : World} {g : Nat} {t : TypeId} {x0 x1 x2 x3 : Value} (h : Box w g t #[x0, x1, x2, x3]) : w.cell? ⟨g, 0, none⟩ = some x0 ∧ w.cell? ⟨g, 1, none⟩ = some x1 ∧ w.cell? ⟨g, 2, none⟩ = some x2 ∧ w.cell? ⟨g, 3, none⟩ = some x3 := ⟨h.cell 0, h.cell 1, h.cell 2, h.cell 3⟩
theorem box2 {w : World} {g : Nat} {t : TypeId} {x0 x1 : Value} (h : Box w g t #[x0, x1]) : w.cell? ⟨g, 0, none⟩ = some x0 ∧ w.cell? ⟨g, 1, none⟩ = some x1 := ⟨h.cell 0, h.cell 1⟩
end Go.Proofs.Ytoogdggiemacjaa.Cw
