import Derived.Test.YtnegigcjeoenmaaIn1
namespace Go.Proofs.Ytnegigcjeoenmaa.Dv
open Go Go.RowKit
set_option linter.unusedVariables false
/-- a device of one's own behind a pointer -/
def DevAt (B : Nat) (W : World) (g : Nat) (D : Dev) : Prop := ∃ vb vc vq, Box W g 28 #[.int .i64 D.dep, .int .i64 D.nxt, vb, vc, vq] ∧ OwnB B W vb D.bl ∧ OwnC B W vc D.ca ∧ OwnQ B W vq D.qu
/-- a request of one's own behind a pointer -/
def ReqAt (W : World) (h : Nat) (q : Rq) : Prop := ∃ u, Box W h 39 #[.int .i64 q.1, .int .i64 q.2.1, .int .i64 q.2.2.1, u] ∧ OwnBy W u q.2.2.2
/-- all but box g, and rows of blocks and of cached blocks, is as it was -/
structure KpG (B g : Nat) (w w' : World) : Prop where
  below : Below B w w'
  keep : ∀ k, k < w.heap.size → k ≠ g → (∀ cur, w.heap[k]? ≠ some (.cells cur 64 (0, 0))) → (∀ cur, w.heap[k]? ≠ some (.cells cur 35 (0, 0))) → w'.heap[k]? = w.heap[k]?
section
variable {B g : Nat} {w w' w2 : World}
theorem KpG.of_below (h : Below w.heap.size w w') (hB : B ≤ w.heap.size) : KpG B g w w' := ⟨h.mono hB, fun k hk _ _ _ => h.block k hk⟩
theorem KpG.of_kp64 (h : Kp B 64 w w') : KpG B g w w' := ⟨h.below, fun k hk _ h1 _ => h.keep k hk h1⟩
theorem KpG.of_kp35 (h : Kp B 35 w w') : KpG B g w w' := ⟨h.below, fun k hk _ _ h1 => h.keep k hk h1⟩
theorem KpG.trans (h : KpG B g w w') (h2 : KpG B g w' w2) : KpG B g w w2 :=
  ⟨h.below.trans h2.below, fun k hk hne n1 n2 => (h2.keep k (Nat.lt_of_lt_of_le hk h.below.size) hne (fun cur e => n1 cur ((h.keep k hk hne n1 n2).symm.trans e)) (fun cur e => n2 cur ((h.keep k hk hne n1 n2).symm.trans e))).trans (h.keep k hk hne n1 n2)⟩
theorem KpG.set (w : World) (hB : B ≤ g) (i : Nat) (u : Value) : KpG B g w (w.setCell ⟨g, i, none⟩ u) := ⟨(Below.refl _ _).setCell hB u, fun k hk hne _ _ => heap_setCell_other w ⟨g, i, none⟩ k u hne⟩
theorem Box.kpg {k : Nat} {t : TypeId} {cs : Array Value} (h : Box w k t cs) (hk : KpG B g w w') (hne : k ≠ g) (h1 : t ≠ 64) (h2 : t ≠ 35) : Box w' k t cs :=
  (hk.keep k h.lt hne (fun cur e => by unfold Box at h; rw [h] at e; injection e with e; injection e with _ h3; exact h1 h3) (fun cur e => by unfold Box at h; rw [h] at e; injection e with e; injection e with _ h3; exact h2 h3)).trans h
theorem OwnBy.kpg {v : Value} {l : By} {t : TypeId} {cs : Array Value} (h : OwnBy w v l) (hk : KpG B g w w') (hX : Box w g 28 cs) : OwnBy w' v l := by
  obtain ⟨A, c, e, hc, h⟩ := h
  refine ⟨A, c, e, hc, fun hn => ?_⟩
  obtain ⟨b, off, cur, e, hh, ht⟩ := h hn
  have hbg : b ≠ g := by
    rintro rfl
    have : Box w b 5 cur := hh
    exact absurd rfl (this.ne hX (by decide))
  exact ⟨b, off, cur, e, Box.kpg (t := 5) hh hk hbg (by decide) (by decide), ht⟩
theorem ReqAt.kpg {h : Nat} {q : Rq} {cs : Array Value} (hr : ReqAt w h q) (hk : KpG B g w w') (hX : Box w g 28 cs) : ReqAt w' h q := by
  obtain ⟨u, hb, ho⟩ := hr
  exact ⟨u, hb.kpg hk (hb.ne hX (by decide)) (by decide) (by decide), ho.kpg (t := 28) hk hX⟩
theorem DevAt.below {D : Dev} (h : DevAt B w g D) (hb : Below w.heap.size w w') : DevAt B w' g D := by
  obtain ⟨vb, vc, vq, h1, h2, h3, h4⟩ := h
  exact ⟨vb, vc, vq, h1.below hb, h2.below hb, h3.below hb, h4.below hb⟩
theorem ReqAt.below {q : Rq} {h : Nat} (hr : ReqAt w h q) (hb : Below w.heap.size w w') : ReqAt w' h q := by
  obtain ⟨u, h1, h2⟩ := hr
  exact ⟨u, h1.below hb, h2.below hb⟩
end
/-- what a call leaves that turns a device behind a pointer -/
def TurnR (B g : Nat) (D : Dev) (w : World) (e : Ending) (w' : World) : Prop := e = .returned (.tuple #[]) ∧ DevAt B w' g D ∧ KpG B g w w'
set_option maxHeartbeats 2000000 in
theorem put_end (B g : Nat) (D : Dev) (b : Int) (u : Value) (x : By) (w : World) (hd : DevAt B w g D) (hBg : B ≤ g) (hu : OwnBy w u x) (ha : Asc D.ca) (hl : D.ca.length ≤ 1000) (hm : hitP D.ca b = false) (he : caP D.ca b = D.ca.length) :
    Calls Try.prog 63 #[.pointer (some ⟨g, 0, none⟩), .int .i64 b, u] w (TurnR B g { D with ca := D.ca ++ [(b, x)] } w) := by
  obtain ⟨vb, vc, vq, hX, ob, oc, oq⟩ := hd
  obtain ⟨E1, g1, rfl, _⟩ := ob.form
  obtain ⟨E2, g2, rfl, _⟩ := oc.form
  obtain ⟨E3, g3, rfl, _⟩ := oq.form
  obtain ⟨Au, cu, rfl⟩ := hu.form
  have hgw := hX.lt
  have X := hide hX
  have OB := hide ob
  have OC := hide oc
  have OQ := hide oq
  have HU := hide hu
  have FC := hide (find_any D.dep D.nxt (.slice E1 D.bl.length g1) (.slice E3 D.qu.length g3) E2 D.ca g2 b w oc.rd hl ha)
  rw [hm, he] at FC
  obtain ⟨x0, x1, x2, x3, x4⟩ := box5_cells (W' := w) hX
  clear hX ob oc oq hu ha hm he
  go_enter Try.func63, Try.ntmps63
  go_wp2_with fail
  refine FC.out.mono ?_
  rintro e w1 ⟨rfl, hb⟩
  have KW := hide hb
  have HU1 := hide (HU.out.below hb)
  have OB1 := hide (OB.out.below hb)
  have OC1 := hide (OC.out.below hb)
  have OQ1 := hide (OQ.out.below hb)
  have X1 := hide (X.out.below hb)
  have hgw1 := X1.out.lt
  clear hb x0 x1 x2 x3 x4
  have x3 := X1.out.cell 3
  simp at x3
  have NB := hide (Box.new w1 64 #[.int .i64 b, .slice Au x.length cu])
  have hB1 : B ≤ (w1.alloc (.cells #[.int .i64 b, .slice Au x.length cu] 64)).heap.size := by simp; omega
  obtain ⟨R, hR, hrow, hro⟩ := (OC1.out.below (bal (brefl w1) (.cells #[.int .i64 b, .slice Au x.length cu] 64)))
  have IE := hide (insert_end B E2 D.ca.length g2 w1.heap.size (cC R) b (.slice Au x.length cu) _ hrow hB1 hl ⟨_, _, _, rfl⟩ NB.out)
  have HR := hide hR
  have HRO := hide hro
  have HROW := hide hrow
  clear hR hro hrow hB1
  go_wp2_with fail
  refine IE.out.mono ?_
  rintro e w4 ⟨v4, rfl, hown, hg⟩
  have hl4 : R.length = D.ca.length := by rw [← HR.out, List.length_map]
  have KP := hide (kp_grown HROW.out hg (by simp; omega))
  have PU := hide (OwnC.push (z := b) HRO.out (HU1.out.below (bal (brefl w1) _)) hl4 hown KP.out)
  rw [HR.out] at PU
  obtain ⟨A4, c4, rfl, _⟩ := row_form hown
  have X4 := hide ((X1.out.more (.cells #[.int .i64 b, .slice Au x.length cu] 64)).kp KP.out (by decide))
  have OB4 := hide ((OB1.out.below (bal (brefl w1) (.cells #[.int .i64 b, .slice Au x.length cu] 64))).kp KP.out (by decide) (by decide))
  have OQ4 := hide ((OQ1.out.below (bal (brefl w1) (.cells #[.int .i64 b, .slice Au x.length cu] 64))).kp KP.out (by decide) (by decide))
  have y3 := X4.out.cell 3
  have f3 := X4.out.frozen 3
  simp at y3
  clear hown hg x3 hl4
  go_wp2
  go_end0
  have KS := hide (Kp.boxset (B := B) X4.out hBg 3 (.slice A4 (D.ca.length + 1) c4))
  refine ⟨rfl, ⟨_, _, _, X4.out.put 3 _, OB4.out.kp KS.out (by decide) (by decide), PU.out.kp KS.out (by decide) (by decide), OQ4.out.kp KS.out (by decide) (by decide)⟩, ?_⟩
  exact ((KpG.of_below (btrans KW.out (bal (brefl w1) _)) (by omega)).trans (KpG.of_kp64 KP.out)).trans (KpG.set _ hBg 3 _)
end Go.Proofs.Ytnegigcjeoenmaa.Dv
