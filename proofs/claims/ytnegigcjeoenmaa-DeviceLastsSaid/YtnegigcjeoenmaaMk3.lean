import Derived.Test.YtnegigcjeoenmaaMk2
namespace Go.Proofs.Ytnegigcjeoenmaa.Dv
open Go Go.RowKit
set_option linter.unusedVariables false
/-- what stays as it was in wz while a region appends to v and stores into the box bo -/
structure Kz (wz : World) (v : Value) (bo : Nat) (W : World) : Prop where
  size : wz.heap.size ≤ W.heap.size
  keep : ∀ k, k < wz.heap.size → k ≠ bo → some k ≠ v.ownBlock → W.heap[k]? = wz.heap[k]?
section
variable {wz W W' : World} {v : Value} {bo : Nat}
theorem Kz.refl (wz : World) (v : Value) (bo : Nat) : Kz wz v bo wz := ⟨Nat.le_refl _, fun _ _ _ _ => rfl⟩
theorem Kz.drew (h : Kz wz v bo W) : Kz wz v bo W.drew := ⟨h.size, h.keep⟩
theorem Kz.below (h : Kz wz v bo W) (hb : Below W.heap.size W W') : Kz wz v bo W' := ⟨Nat.le_trans h.size hb.size, fun k hk h1 h2 => (hb.block k (Nat.lt_of_lt_of_le hk h.size)).trans (h.keep k hk h1 h2)⟩
theorem Kz.below' (h : Kz wz v bo W) (hb : Below W.drew.heap.size W.drew W') : Kz wz v bo W' := h.drew.below hb
theorem Kz.alloc (h : Kz wz v bo W) (o : Obj) : Kz wz v bo (W.alloc o) := h.below (bal (brefl _) o)
theorem Kz.grown (h : Kz wz v bo W) (hg : W.grownBy W' v.ownBlock) : Kz wz v bo W' := ⟨Nat.le_trans h.size hg.size, fun k hk h1 h2 => (hg.block k (Nat.lt_of_lt_of_le hk h.size) h2).trans (h.keep k hk h1 h2)⟩
theorem Kz.set (h : Kz wz v bo W) (i : Nat) (u : Value) : Kz wz v bo (W.setCell ⟨bo, i, none⟩ u) := ⟨by simpa [World.setCell] using h.size, fun k hk h1 h2 => (heap_setCell_other W ⟨bo, i, none⟩ k u h1).trans (h.keep k hk h1 h2)⟩
theorem Kz.cell (h : Kz wz v bo W) {k i : Nat} {x : Value} (hc : wz.cell? ⟨k, i, none⟩ = some x) (hk : k < wz.heap.size) (h1 : k ≠ bo) (h2 : some k ≠ v.ownBlock) : W.cell? ⟨k, i, none⟩ = some x :=
  (World.cell?_of_block (w := wz) (h.keep k hk h1 h2)).trans hc
end
theorem row_own_lt {base n size : Nat} {t : TypeId} {v : Value} {xs : List Value} {w : World} (h : w.ownsRow base t size v n xs) {k : Nat} (hk : w.heap.size ≤ k) : some k ≠ v.ownBlock := by
  obtain ⟨_, ⟨rfl, rfl⟩ | ⟨g, cap, cur, rfl, hgb, hh, _⟩⟩ := h
  · exact Option.some_ne_none _
  · intro e
    have : k = g := by simpa [Value.ownBlock] using e
    have := blk_lt hh
    omega
theorem row_own_ge {base n size : Nat} {t : TypeId} {v : Value} {xs : List Value} {w : World} (h : w.ownsRow base t size v n xs) {k : Nat} (hk : k < base) : some k ≠ v.ownBlock := by
  obtain ⟨_, ⟨rfl, rfl⟩ | ⟨g, cap, cur, rfl, hgb, hh, _⟩⟩ := h
  · exact Option.some_ne_none _
  · intro e
    have : k = g := by simpa [Value.ownBlock] using e
    omega
theorem row_own_box {base n size : Nat} {t t2 : TypeId} {v : Value} {xs : List Value} {w : World} (h : w.ownsRow base t size v n xs) {k : Nat} {cs : Array Value} (hX : Box w k t2 cs) (hne : t2 ≠ t) : some k ≠ v.ownBlock := by
  obtain ⟨_, ⟨rfl, rfl⟩ | ⟨g, cap, cur, rfl, hgb, hh, _⟩⟩ := h
  · exact Option.some_ne_none _
  · intro e
    have : k = g := by simpa [Value.ownBlock] using e
    subst this
    exact hX.ne (h2 := hh) hne rfl
/-- the state of a copy of a device that is under way: the source's box, the result's, and the copy's -/
structure Cl (w : World) (bs br bo : Nat) (src zer : Array Value) (d n : Int) (vb vc vq : Value) (LB : List By) (LC : List Ca) (LQ : List Rq) (W : World) : Prop where
  below : Below w.heap.size w W
  src : Box W bs 28 src
  res : Box W br 28 zer
  out : Box W bo 28 #[.int .i64 d, .int .i64 n, vb, vc, vq]
  ob : OwnB w.heap.size W vb LB
  oc : OwnC w.heap.size W vc LC
  oq : OwnQ w.heap.size W vq LQ
section
variable {w W W' : World} {bs br bo : Nat} {src zer : Array Value} {d n : Int} {vb vc vq : Value} {LB : List By} {LC : List Ca} {LQ : List Rq}
theorem Cl.on (h : Cl w bs br bo src zer d n vb vc vq LB LC LQ W) (hb : Below W.heap.size W W') : Cl w bs br bo src zer d n vb vc vq LB LC LQ W' :=
  ⟨btrans h.below hb, h.src.below hb, h.res.below hb, h.out.below hb, h.ob.below hb, h.oc.below hb, h.oq.below hb⟩
theorem Cl.on' (h : Cl w bs br bo src zer d n vb vc vq LB LC LQ W) (hb : Below W.drew.heap.size W.drew W') : Cl w bs br bo src zer d n vb vc vq LB LC LQ W' := h.on (btrans (below_drewN (brefl W) 1) hb)
theorem Cl.alloc (h : Cl w bs br bo src zer d n vb vc vq LB LC LQ W) (o : Obj) : Cl w bs br bo src zer d n vb vc vq LB LC LQ (W.alloc o) := h.on (bal (brefl _) o)
theorem Cl.gb (h : Cl w bs br bo src zer d n vb vc vq LB LC LQ W) (hk : Kp w.heap.size 35 W W') : Box W' bo 28 #[.int .i64 d, .int .i64 n, vb, vc, vq] := h.out.kp hk (by decide)
theorem Cl.gc (h : Cl w bs br bo src zer d n vb vc vq LB LC LQ W) (hk : Kp w.heap.size 64 W W') : Box W' bo 28 #[.int .i64 d, .int .i64 n, vb, vc, vq] := h.out.kp hk (by decide)
theorem Cl.gq (h : Cl w bs br bo src zer d n vb vc vq LB LC LQ W) (hk : Kp w.heap.size 39 W W') : Box W' bo 28 #[.int .i64 d, .int .i64 n, vb, vc, vq] := h.out.kp hk (by decide)
/-- a block is appended -/
theorem Cl.pushB (h : Cl w bs br bo src zer d n vb vc vq LB LC LQ W) (hos : bs ≠ bo) (hor : br ≠ bo) (hwo : w.heap.size ≤ bo) {u v4 : Value} {l : By} {R : List PB} {W4 : World} (hR : R.map Prod.fst = LB) (hro : ∀ r ∈ R, OwnBy W r.2 r.1) (hrow : W.ownsRow w.heap.size 35 1 vb LB.length (cB R)) (hu : OwnBy W u l)
    (hown : W4.ownsRow w.heap.size 35 1 v4 (LB.length + 1) (cB R ++ [u])) (hg : W.grownBy W4 vb.ownBlock) : Cl w bs br bo src zer d n v4 vc vq (LB ++ [l]) LC LQ (W4.setCell ⟨bo, 2, none⟩ v4) := by
  have hk := kp_grown hrow hg h.below.size
  have hl : R.length = LB.length := by rw [← hR, List.length_map]
  have ho := h.gb hk
  have hk2 : Kp w.heap.size 28 W4 (W4.setCell ⟨bo, 2, none⟩ v4) := Kp.boxset ho hwo 2 v4
  have hp := OwnB.push hro hu hl hrow hown hk
  rw [hR] at hp
  exact ⟨(h.below.trans hk.below).setCell hwo v4, (h.src.kp hk (by decide)).far hos v4, (h.res.kp hk (by decide)).far hor v4, ho.put 2 v4, hp.kp hk2 (by decide) (by decide), (h.oc.kp hk (by decide) (by decide)).kp hk2 (by decide) (by decide), (h.oq.kp hk (by decide) (by decide)).kp hk2 (by decide) (by decide)⟩
theorem Cl.pushC (h : Cl w bs br bo src zer d n vb vc vq LB LC LQ W) (hos : bs ≠ bo) (hor : br ≠ bo) (hwo : w.heap.size ≤ bo) {u v4 : Value} {z : Int} {l : By} {R : List PC} {W4 : World} (hR : R.map pcC = LC) (hro : ∀ r ∈ R, OwnBy W r.2.2 r.2.1) (hrow : W.ownsRow w.heap.size 64 2 vc LC.length (cC R)) (hu : OwnBy W u l)
    (hown : W4.ownsRow w.heap.size 64 2 v4 (LC.length + 1) (cC R ++ [.int .i64 z, u])) (hg : W.grownBy W4 vc.ownBlock) : Cl w bs br bo src zer d n vb v4 vq LB (LC ++ [(z, l)]) LQ (W4.setCell ⟨bo, 3, none⟩ v4) := by
  have hk := kp_grown hrow hg h.below.size
  have hl : R.length = LC.length := by rw [← hR, List.length_map]
  have ho := h.gc hk
  have hk2 : Kp w.heap.size 28 W4 (W4.setCell ⟨bo, 3, none⟩ v4) := Kp.boxset ho hwo 3 v4
  have hp := OwnC.push hro hu hl hown hk
  rw [hR] at hp
  exact ⟨(h.below.trans hk.below).setCell hwo v4, (h.src.kp hk (by decide)).far hos v4, (h.res.kp hk (by decide)).far hor v4, ho.put 3 v4, (h.ob.kp hk (by decide) (by decide)).kp hk2 (by decide) (by decide), hp.kp hk2 (by decide) (by decide), (h.oq.kp hk (by decide) (by decide)).kp hk2 (by decide) (by decide)⟩
theorem Cl.pushQ (h : Cl w bs br bo src zer d n vb vc vq LB LC LQ W) (hos : bs ≠ bo) (hor : br ≠ bo) (hwo : w.heap.size ≤ bo) {u v4 : Value} {z0 z1 z2 : Int} {l : By} {R : List PQ} {W4 : World} (hR : R.map pqQ = LQ) (hro : ∀ r ∈ R, OwnBy W r.2.2.2.2 r.2.2.2.1) (hrow : W.ownsRow w.heap.size 39 4 vq LQ.length (cQ R)) (hu : OwnBy W u l)
    (hown : W4.ownsRow w.heap.size 39 4 v4 (LQ.length + 1) (cQ R ++ [.int .i64 z0, .int .i64 z1, .int .i64 z2, u])) (hg : W.grownBy W4 vq.ownBlock) : Cl w bs br bo src zer d n vb vc v4 LB LC (LQ ++ [(z0, z1, z2, l)]) (W4.setCell ⟨bo, 4, none⟩ v4) := by
  have hk := kp_grown hrow hg h.below.size
  have hl : R.length = LQ.length := by rw [← hR, List.length_map]
  have ho := h.gq hk
  have hk2 : Kp w.heap.size 28 W4 (W4.setCell ⟨bo, 4, none⟩ v4) := Kp.boxset ho hwo 4 v4
  have hp := OwnQ.push hro hu hl hown hk
  rw [hR] at hp
  exact ⟨(h.below.trans hk.below).setCell hwo v4, (h.src.kp hk (by decide)).far hos v4, (h.res.kp hk (by decide)).far hor v4, ho.put 4 v4, (h.ob.kp hk (by decide) (by decide)).kp hk2 (by decide) (by decide), (h.oc.kp hk (by decide) (by decide)).kp hk2 (by decide) (by decide), hp.kp hk2 (by decide) (by decide)⟩
end
theorem cell_row (w : World) (cs : Array Value) (t : TypeId) : ∀ j u, cs.toList[j]? = some u → (w.alloc (.cells cs t)).cell? ((⟨w.heap.size, 0, none⟩ : Addr).add j) = some u := by
  intro j u hu
  rw [add_at', Nat.zero_add, (Box.new w t cs).cell]
  simpa using hu
/-- the whole device is stored and handed back -/
theorem Box.set5 {W : World} {g : Nat} {t : TypeId} {y0 y1 y2 y3 y4 : Value} (h : Box W g t #[y0, y1, y2, y3, y4]) (x0 x1 x2 x3 x4 : Value) : Box (((((W.setCell ⟨g, 0, none⟩ x0).setCell ⟨g, 1, none⟩ x1).setCell ⟨g, 2, none⟩ x2).setCell ⟨g, 3, none⟩ x3).setCell ⟨g, 4, none⟩ x4) g t #[x0, x1, x2, x3, x4] :=
  ((((h.put 0 x0).put 1 x1).put 2 x2).put 3 x3).put 4 x4
theorem kp_set5 {B : Nat} {W : World} {g : Nat} {y0 y1 y2 y3 y4 : Value} {t : TypeId} (h : Box W g t #[y0, y1, y2, y3, y4]) (hB : B ≤ g) (x0 x1 x2 x3 x4 : Value) : Kp B t W (((((W.setCell ⟨g, 0, none⟩ x0).setCell ⟨g, 1, none⟩ x1).setCell ⟨g, 2, none⟩ x2).setCell ⟨g, 3, none⟩ x3).setCell ⟨g, 4, none⟩ x4) :=
  ((((Kp.boxset h hB 0 x0).trans (Kp.boxset (h.put 0 x0) hB 1 x1)).trans (Kp.boxset ((h.put 0 x0).put 1 x1) hB 2 x2)).trans (Kp.boxset (((h.put 0 x0).put 1 x1).put 2 x2) hB 3 x3)).trans (Kp.boxset ((((h.put 0 x0).put 1 x1).put 2 x2).put 3 x3) hB 4 x4)
/-- a device in a call's own memory, kept -/
theorem DevOwn.below {B : Nat} {w w' : World} {v : Value} {D : Dev} (h : DevOwn B w v D) (hb : Below w.heap.size w w') : DevOwn B w' v D := by
  obtain ⟨vb, vc, vq, e, h1, h2, h3⟩ := h
  exact ⟨vb, vc, vq, e, h1.below hb, h2.below hb, h3.below hb⟩
theorem DevOwn.mono {B B' : Nat} {w : World} {v : Value} {D : Dev} (h : DevOwn B w v D) (hB : B' ≤ B) : DevOwn B' w v D := by
  obtain ⟨vb, vc, vq, e, h1, h2, h3⟩ := h
  exact ⟨vb, vc, vq, e, h1.mono hB, h2.mono hB, h3.mono hB⟩
theorem DevOwn.kp {B B' : Nat} {w w' : World} {v : Value} {D : Dev} (h : DevOwn B w v D) (hk : Kp B' 28 w w') : DevOwn B w' v D := by
  obtain ⟨vb, vc, vq, e, h1, h2, h3⟩ := h
  exact ⟨vb, vc, vq, e, h1.kp hk (by decide) (by decide), h2.kp hk (by decide) (by decide), h3.kp hk (by decide) (by decide)⟩
/-- what a call leaves that hands back a device of its own -/
def DvR (D : Dev) (w : World) (e : Ending) (w' : World) : Prop := ∃ v, e = .returned v ∧ DevOwn w.heap.size w' v D ∧ Below w.heap.size w w'
theorem ret_d {fn : Func} {a : Act} {W : World} {g k : Nat} {x0 x1 x2 x3 x4 : Value} {Q : Ending → World → Prop} (hr : fn.results = #[.cell k 28]) (h2 : a.tmps.getD k undef = .pointer (some ⟨g, 0, none⟩)) (hd : a.defers = [])
    (hE : Box W g 28 #[x0, x1, x2, x3, x4]) (hq : Q (.returned (.agg #[x0, x1, x2, x3, x4])) W) : bodyPost Try.prog fn Q .ret a W := by
  have c0 := hE.cell 0
  have c1 := hE.cell 1
  have c2 := hE.cell 2
  have c3 := hE.cell 3
  have c4 := hE.cell 4
  simp at c0 c1 c2 c3 c4
  simp only [Array.getD_eq_getD_getElem?] at h2
  exact bodyPost_ret (v := .agg #[x0, x1, x2, x3, x4]) (by simp [results, hr, h2, go_sem, c0, c1, c2, c3, c4]) hd hq
end Go.Proofs.Ytnegigcjeoenmaa.Dv
