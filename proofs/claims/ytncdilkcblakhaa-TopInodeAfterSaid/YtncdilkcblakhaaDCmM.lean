import Derived.Test.YtncdilkcblakhaaDInM
import Derived.Deep.DeepCutAuto
namespace Go.Proofs.Ytncdilkcblakhaa.Dv
open Go Go.RowKit
set_option linter.unusedVariables false
/-- a device of one's own behind a pointer -/
def DevAt (B : Nat) (W : World) (g : Nat) (D : Dev) : Prop := ∃ vb vc vq, Box W g 57 #[.int .i64 D.dep, .int .i64 D.nxt, vb, vc, vq] ∧ OwnB B W vb D.bl ∧ OwnC B W vc D.ca ∧ OwnQ B W vq D.qu
/-- a request of one's own behind a pointer -/
def ReqAt (W : World) (h : Nat) (q : Rq) : Prop := ∃ u, Box W h 67 #[.int .i64 q.1, .int .i64 q.2.1, .int .i64 q.2.2.1, u] ∧ OwnBy W u q.2.2.2
/-- all but box g, and rows of blocks and of cached blocks, is as it was -/
structure KpG (B g : Nat) (w w' : World) : Prop where
  below : Below B w w'
  keep : ∀ k, k < w.heap.size → k ≠ g → (∀ cur, w.heap[k]? ≠ some (.cells cur 89 (0, 0))) → (∀ cur, w.heap[k]? ≠ some (.cells cur 23 (0, 0))) → w'.heap[k]? = w.heap[k]?
section
variable {B g : Nat} {w w' w2 : World}
theorem KpG.of_below (h : Below w.heap.size w w') (hB : B ≤ w.heap.size) : KpG B g w w' := ⟨h.mono hB, fun k hk _ _ _ => h.block k hk⟩
theorem KpG.of_kp64 (h : Kp B 89 w w') : KpG B g w w' := ⟨h.below, fun k hk _ h1 _ => h.keep k hk h1⟩
theorem KpG.of_kp35 (h : Kp B 23 w w') : KpG B g w w' := ⟨h.below, fun k hk _ _ h1 => h.keep k hk h1⟩
theorem KpG.trans (h : KpG B g w w') (h2 : KpG B g w' w2) : KpG B g w w2 :=
  ⟨h.below.trans h2.below, fun k hk hne n1 n2 => (h2.keep k (Nat.lt_of_lt_of_le hk h.below.size) hne (fun cur e => n1 cur ((h.keep k hk hne n1 n2).symm.trans e)) (fun cur e => n2 cur ((h.keep k hk hne n1 n2).symm.trans e))).trans (h.keep k hk hne n1 n2)⟩
theorem KpG.set (w : World) (hB : B ≤ g) (i : Nat) (u : Value) : KpG B g w (w.setCell ⟨g, i, none⟩ u) := ⟨(Below.refl _ _).setCell hB u, fun k hk hne _ _ => heap_setCell_other w ⟨g, i, none⟩ k u hne⟩
theorem Box.kpg {k : Nat} {t : TypeId} {cs : Array Value} (h : Box w k t cs) (hk : KpG B g w w') (hne : k ≠ g) (h1 : t ≠ 89) (h2 : t ≠ 23) : Box w' k t cs :=
  (hk.keep k h.lt hne (fun cur e => by unfold Box at h; rw [h] at e; injection e with e; injection e with _ h3; exact h1 h3) (fun cur e => by unfold Box at h; rw [h] at e; injection e with e; injection e with _ h3; exact h2 h3)).trans h
theorem OwnBy.kpg {v : Value} {l : By} {t : TypeId} {cs : Array Value} (h : OwnBy w v l) (hk : KpG B g w w') (hX : Box w g 57 cs) : OwnBy w' v l := by
  obtain ⟨A, c, e, hc, h⟩ := h
  refine ⟨A, c, e, hc, fun hn => ?_⟩
  obtain ⟨b, off, cur, e, hh, ht⟩ := h hn
  have hbg : b ≠ g := by
    rintro rfl
    have : Box w b 5 cur := hh
    exact absurd rfl (this.ne hX (by decide))
  exact ⟨b, off, cur, e, Box.kpg (t := 5) hh hk hbg (by decide) (by decide), ht⟩
theorem ReqAt.kpg {h : Nat} {q : Rq} {cs : Array Value} (hr : ReqAt w h q) (hk : KpG B g w w') (hX : Box w g 57 cs) : ReqAt w' h q := by
  obtain ⟨u, hb, ho⟩ := hr
  exact ⟨u, hb.kpg hk (hb.ne hX (by decide)) (by decide) (by decide), ho.kpg (t := 57) hk hX⟩
theorem DevAt.below {D : Dev} (h : DevAt B w g D) (hb : Below w.heap.size w w') : DevAt B w' g D := by
  obtain ⟨vb, vc, vq, h1, h2, h3, h4⟩ := h
  exact ⟨vb, vc, vq, h1.below hb, h2.below hb, h3.below hb, h4.below hb⟩
theorem ReqAt.below {q : Rq} {h : Nat} (hr : ReqAt w h q) (hb : Below w.heap.size w w') : ReqAt w' h q := by
  obtain ⟨u, h1, h2⟩ := hr
  exact ⟨u, h1.below hb, h2.below hb⟩
end
/-- what a call leaves that turns a device behind a pointer -/
def TurnR (B g : Nat) (D : Dev) (w : World) (e : Ending) (w' : World) : Prop := e = .returned (.tuple #[]) ∧ DevAt B w' g D ∧ KpG B g w w'
set_option maxHeartbeats 2000000 in
theorem put_end (B g : Nat) (D : Dev) (b : Int) (u : Value) (x : By) (w : World) (hd : DevAt B w g D) (hBg : B ≤ g) (hu : OwnBy w u x) (ha : Asc D.ca) (hl : D.ca.length ≤ 1000) (hm : hitP D.ca b = false) (he : caP D.ca b = D.ca.length) :
    Calls Try.prog 61 #[.pointer (some ⟨g, 0, none⟩), .int .i64 b, u] w (TurnR B g { D with ca := D.ca ++ [(b, x)] } w) := by
  obtain ⟨vb, vc, vq, hX, ob, oc, oq⟩ := hd
  obtain ⟨E1, g1, rfl, _⟩ := ob.form
  obtain ⟨E2, g2, rfl, _⟩ := oc.form
  obtain ⟨E3, g3, rfl, _⟩ := oq.form
  obtain ⟨Au, cu, rfl⟩ := hu.form
  have hgw := hX.lt
  have X := hide hX
  have OB := hide ob
  have OC := hide oc
  have OQ := hide oq
  have HU := hide hu
  have FC := hide (find_any D.dep D.nxt (.slice E1 D.bl.length g1) (.slice E3 D.qu.length g3) E2 D.ca g2 b w oc.rd hl ha)
  rw [hm, he] at FC
  obtain ⟨x0, x1, x2, x3, x4⟩ := box5_cells (W' := w) hX
  clear hX ob oc oq hu ha hm he
  go_enter Try.func61, Try.ntmps61
  go_wp2_with fail
  refine FC.out.mono ?_
  rintro e w1 ⟨rfl, hb⟩
  have KW := hide hb
  have HU1 := hide (HU.out.below hb)
  have OB1 := hide (OB.out.below hb)
  have OC1 := hide (OC.out.below hb)
  have OQ1 := hide (OQ.out.below hb)
  have X1 := hide (X.out.below hb)
  have hgw1 := X1.out.lt
  clear hb x0 x1 x2 x3 x4
  have x3 := X1.out.cell 3
  simp at x3
  have NB := hide (Box.new w1 89 #[.int .i64 b, .slice Au x.length cu])
  have hB1 : B ≤ (w1.alloc (.cells #[.int .i64 b, .slice Au x.length cu] 89)).heap.size := by simp; omega
  obtain ⟨R, hR, hrow, hro⟩ := (OC1.out.below (bal (brefl w1) (.cells #[.int .i64 b, .slice Au x.length cu] 89)))
  have IE := hide (insert_end B E2 D.ca.length g2 w1.heap.size (cC R) b (.slice Au x.length cu) _ hrow hB1 hl ⟨_, _, _, rfl⟩ NB.out)
  have HR := hide hR
  have HRO := hide hro
  have HROW := hide hrow
  clear hR hro hrow hB1
  go_wp2_with fail
  refine IE.out.mono ?_
  rintro e w4 ⟨v4, rfl, hown, hg⟩
  have hl4 : R.length = D.ca.length := by rw [← HR.out, List.length_map]
  have KP := hide (kp_grown HROW.out hg (by simp; omega))
  have PU := hide (OwnC.push (z := b) HRO.out (HU1.out.below (bal (brefl w1) _)) hl4 hown KP.out)
  rw [HR.out] at PU
  obtain ⟨A4, c4, rfl, _⟩ := row_form hown
  have X4 := hide ((X1.out.more (.cells #[.int .i64 b, .slice Au x.length cu] 89)).kp KP.out (by decide))
  have OB4 := hide ((OB1.out.below (bal (brefl w1) (.cells #[.int .i64 b, .slice Au x.length cu] 89))).kp KP.out (by decide) (by decide))
  have OQ4 := hide ((OQ1.out.below (bal (brefl w1) (.cells #[.int .i64 b, .slice Au x.length cu] 89))).kp KP.out (by decide) (by decide))
  have y3 := X4.out.cell 3
  have f3 := X4.out.frozen 3
  simp at y3
  clear hown hg x3 hl4
  go_wp2
  go_end0
  have KS := hide (Kp.boxset (B := B) X4.out hBg 3 (.slice A4 (D.ca.length + 1) c4))
  refine ⟨rfl, ⟨_, _, _, X4.out.put 3 _, OB4.out.kp KS.out (by decide) (by decide), PU.out.kp KS.out (by decide) (by decide), OQ4.out.kp KS.out (by decide) (by decide)⟩, ?_⟩
  exact ((KpG.of_below (btrans KW.out (bal (brefl w1) _)) (by omega)).trans (KpG.of_kp64 KP.out)).trans (KpG.set _ hBg 3 _)
end Go.Proofs.Ytncdilkcblakhaa.Dv
namespace Go.Proofs.Ytncdilkcblakhaa.Dv
open Go Go.RowKit
set_option linter.unusedVariables false
theorem grown_none {w w' : World} {o : Option Nat} (h : w.grownBy w' none) : w.grownBy w' o := ⟨h.os, h.tape, h.output, h.size, fun k hk _ => h.block k hk (Option.some_ne_none _)⟩
theorem insert_mid (B : Nat) (A : Option Addr) (n c nb i : Nat) (xs : List Value) (z : Int) (u : Value) (w : World) (ho : w.ownsRow B 89 2 (.slice A n c) n xs) (hB : B ≤ w.heap.size) (hi : i < n) (hn : n ≤ 1000) (h1 : ∀ v ∈ xs, v.oneCell' = true) (hu : u.oneCell' = true) (hX : Box w nb 89 #[.int .i64 z, u]) (hne : some nb ≠ (Value.slice A n c).ownBlock) :
    Calls Try.prog 69 #[.slice A n c, .int .i64 i, .slice (some ⟨nb, 0, none⟩) 1 1] w fun e w' => ∃ v', e = .returned v' ∧ w'.ownsRow B 89 2 v' (n + 1) (xs.take (i * 2) ++ [.int .i64 z, u] ++ xs.drop (i * 2)) ∧ w.grownBy w' (Value.slice A n c).ownBlock := by
  obtain ⟨hlen, h0 | ⟨g, cap, cur, e, hgB, hh, h4, h5, h6, ht⟩⟩ := ho
  · omega
  injection e with e1 _ e2
  subst e1 e2
  have hnl : (xs.take (i * 2) ++ [Value.int IntKind.i64 z, u] ++ xs.drop (i * 2)).length = (n + 1) * 2 := by
    simp only [List.length_append, List.length_take, List.length_drop, List.length_cons, List.length_nil, hlen]; omega
  by_cases hr : n + 1 ≤ c
  · refine (insert_room g n c nb i xs cur z u w hX hh (fun e => hne (by rw [e]; rfl)) hi hr h5 hn h6 ht hlen h1 hu).mono ?_
    rintro e w' ⟨rfl, cur', hb, hs, hf, hg⟩
    exact ⟨_, rfl, ⟨hnl, .inr ⟨g, c, cur', rfl, hgB, hb, hr, h5, hs, hf⟩⟩, hg⟩
  · refine (insert_grow g n c nb i xs cur z u w hX hh hi h4 (by omega) hn ht hlen h1 hu).mono ?_
    rintro e w' ⟨G, rfl, hG1, hG2, cur', hb, hs, hf, hg⟩
    exact ⟨_, rfl, ⟨hnl, .inr ⟨_, G, cur', rfl, hB, hb, hG1, hG2, hs, hf⟩⟩, grown_none hg⟩
theorem cC_take : ∀ (R : List PC) (k : Nat), (cC R).take (k * 2) = cC (R.take k)
  | _, 0 => by simp [cC]
  | [], k + 1 => by simp [cC]
  | r :: R, k + 1 => by
    rw [show (k + 1) * 2 = k * 2 + 2 by omega]
    simp only [cC, List.take_succ_cons, cC_take R k]
theorem cC_drop : ∀ (R : List PC) (k : Nat), (cC R).drop (k * 2) = cC (R.drop k)
  | _, 0 => by simp
  | [], k + 1 => by simp [cC]
  | r :: R, k + 1 => by
    rw [show (k + 1) * 2 = k * 2 + 2 by omega]
    simp only [cC, List.drop_succ_cons, cC_drop R k]
theorem cC_set : ∀ (R : List PC) (k : Nat) (x : By) (u : Value) (h : k < R.length), cC (R.set k ((R[k]).1, x, u)) = (cC R).set (k * 2 + 1) u
  | r :: R, 0, x, u, _ => rfl
  | r :: R, k + 1, x, u, h => by
    rw [show (k + 1) * 2 + 1 = (k * 2 + 1) + 2 by omega]
    simp only [List.set_cons_succ, cC, List.getElem_cons_succ, cC_set R k x u (by simpa using h)]
theorem caP_le : ∀ (L : List Ca) (b : Int), caP L b ≤ L.length
  | [], b => Nat.le_refl _
  | c :: L, b => by
    have := caP_le L b
    unfold caP
    split <;> simp <;> omega
/-- the cache with a block in it -/
def putD (L : List Ca) (b : Int) (x : By) : List Ca := if hitP L b then L.set (caP L b) (b, x) else L.take (caP L b) ++ (b, x) :: L.drop (caP L b)
theorem OwnC.one {B : Nat} {w : World} {R : List PC} (ho : ∀ r ∈ R, OwnBy w r.2.2 r.2.1) : ∀ v ∈ cC R, v.oneCell' = true := cC_one fun r hr => ⟨r.2.1, (ho r hr).form⟩
theorem OwnC.put {B : Nat} {w : World} {v u : Value} {L : List Ca} {i : Nat} {x : By} (h : OwnC B w v L) (hi : i < L.length) (hu : OwnBy w u x) :
    ∃ g c, v = .slice (some ⟨g, 0, none⟩) L.length c ∧ L.length ≤ c ∧ B ≤ g ∧ (∃ y, w.cell? ⟨g, i * 2 + 1, none⟩ = some y) ∧ w.frozen? ⟨g, i * 2 + 1, none⟩ = false ∧ Kp B 89 w (w.setCell ⟨g, i * 2 + 1, none⟩ u) ∧ OwnC B (w.setCell ⟨g, i * 2 + 1, none⟩ u) v (L.set i ((cAt L i).1, x)) := by
  obtain ⟨R, e, hr, ho⟩ := h
  have hl : R.length = L.length := by rw [← e, List.length_map]
  obtain ⟨hlen, h0 | ⟨g, cap, cur, rfl, hgB, hh, h4, h5, h6, ht⟩⟩ := hr
  · omega
  have hX : Box w g 89 cur := hh
  have hk : Kp B 89 w (w.setCell ⟨g, i * 2 + 1, none⟩ u) := Kp.boxset hX hgB (i * 2 + 1) u
  have hc : (cAt L i).1 = (R[i]'(by omega)).1 := by rw [cAt_get hi]; simp only [← e]; rw [List.getElem_map]; rfl
  refine ⟨g, cap, rfl, h4, hgB, ?_, hX.frozen _, hk, R.set i ((R[i]'(by omega)).1, x, u), by rw [List.map_set, e, hc]; rfl, ?_, ?_⟩
  · have := hX.cell (i * 2 + 1)
    rw [Array.getElem?_eq_getElem (by omega)] at this
    exact ⟨_, this⟩
  · refine ⟨by rw [cC_length, List.length_set, List.length_set, hl], .inr ⟨g, cap, cur.setIfInBounds (i * 2 + 1) u, by rw [List.length_set], hgB, hX.put _ u, by rw [List.length_set]; exact h4, h5, by simpa using h6, ?_⟩⟩
    rw [List.length_set, Array.toList_setIfInBounds, List.take_set, ht, cC_set _ _ _ _ (by omega)]
  · intro r hr
    rcases List.mem_or_eq_of_mem_set hr with h | h
    · exact (ho r h).kp hk (by decide)
    · rw [h]; exact hu.kp hk (by decide)
/-- a block is inserted into a row of one's own -/
theorem OwnC.ins {B n i : Nat} {w w' : World} {v' u : Value} {z : Int} {l : By} {R : List PC} (ho : ∀ r ∈ R, OwnBy w r.2.2 r.2.1) (hu : OwnBy w u l) (hn : R.length = n) (hown : w'.ownsRow B 89 2 v' (n + 1) ((cC R).take (i * 2) ++ [.int .i64 z, u] ++ (cC R).drop (i * 2))) (hi : i ≤ n) (hk : Kp B 89 w w') :
    OwnC B w' v' ((R.map pcC).take i ++ (z, l) :: (R.map pcC).drop i) := by
  refine ⟨R.take i ++ (z, l, u) :: R.drop i, by simp [pcC, List.map_take, List.map_drop], ?_, fun r hr => ?_⟩
  · rw [cC_append, cC, ← cC_take, ← cC_drop]
    rw [show ((R.map pcC).take i ++ (z, l) :: (R.map pcC).drop i).length = n + 1 by simp [hn]; omega]
    simpa using hown
  · rcases List.mem_append.1 hr with h | h
    · exact (ho r (List.mem_of_mem_take h)).kp hk (by decide)
    · rcases List.mem_cons.1 h with h | h
      · rw [h]; exact hu.kp hk (by decide)
      · exact (ho r (List.mem_of_mem_drop h)).kp hk (by decide)
set_option maxHeartbeats 1000000 in
set_option maxRecDepth 100000 in
theorem put_mid (B g : Nat) (D : Dev) (b : Int) (u : Value) (x : By) (w : World) (hd : DevAt B w g D) (hBg : B ≤ g) (hBw : B ≤ w.heap.size) (hu : OwnBy w u x) (ha : Asc D.ca) (hl : D.ca.length ≤ 1000) (hm : hitP D.ca b = false) (hp : caP D.ca b < D.ca.length) :
    Calls Try.prog 61 #[.pointer (some ⟨g, 0, none⟩), .int .i64 b, u] w (TurnR B g { D with ca := D.ca.take (caP D.ca b) ++ (b, x) :: D.ca.drop (caP D.ca b) } w) := by
  obtain ⟨vb, vc, vq, hX, ob, oc, oq⟩ := hd
  obtain ⟨E1, g1, rfl, _⟩ := ob.form
  obtain ⟨E2, g2, rfl, hcap⟩ := oc.form
  obtain ⟨E3, g3, rfl, _⟩ := oq.form
  obtain ⟨Au, cu, rfl⟩ := hu.form
  have hgw := hX.lt
  have X := hide hX
  have OB := hide ob
  have OC := hide oc
  have OQ := hide oq
  have HU := hide hu
  have FC := hide (find_any D.dep D.nxt (.slice E1 D.bl.length g1) (.slice E3 D.qu.length g3) E2 D.ca g2 b w oc.rd hl ha)
  rw [hm] at FC
  generalize caP D.ca b = p at *
  obtain ⟨x0, x1, x2, x3, x4⟩ := box5_cells (W' := w) hX
  clear hX ob oc oq hu ha hm
  go_enter Try.func61, Try.ntmps61
  go_wp2_with fail
  refine FC.out.mono ?_
  rintro e w1 ⟨rfl, hb⟩
  have KW := hide hb
  have HU1 := hide (HU.out.below hb)
  have OB1 := hide (OB.out.below hb)
  have OC1 := hide (OC.out.below hb)
  have OQ1 := hide (OQ.out.below hb)
  have X1 := hide (X.out.below hb)
  have hgw1 := X1.out.lt
  have hw1 := hb.size
  clear hb x0 x1 x2 x3 x4
  have x3 := X1.out.cell 3
  simp at x3
  have NB := hide (Box.new w1 89 #[.int .i64 b, .slice Au x.length cu])
  have hB1 : B ≤ (w1.alloc (.cells #[.int .i64 b, .slice Au x.length cu] 89)).heap.size := by simp; omega
  obtain ⟨R, hR, hrow, hro⟩ := (OC1.out.below (bal (brefl w1) (.cells #[.int .i64 b, .slice Au x.length cu] 89)))
  have IE := hide (insert_mid B E2 D.ca.length g2 w1.heap.size p (cC R) b (.slice Au x.length cu) _ hrow hB1 hp hl (OwnC.one (B := B) hro) rfl NB.out (by
    obtain ⟨R1, _, hrow1, _⟩ := OC1.out
    exact row_own_lt hrow1 (Nat.le_refl _)))
  have HR := hide hR
  have HRO := hide hro
  have HROW := hide hrow
  clear hR hro hrow hB1
  go_wp2_with fail
  refine IE.out.mono ?_
  rintro e w4 ⟨v4, rfl, hown, hg⟩
  have hl4 : R.length = D.ca.length := by rw [← HR.out, List.length_map]
  have KP := hide (kp_grown HROW.out hg (by simp; omega))
  have PU := hide (OwnC.ins (z := b) HRO.out (HU1.out.below (bal (brefl w1) _)) hl4 hown (by omega) KP.out)
  rw [HR.out] at PU
  obtain ⟨A4, c4, rfl, _⟩ := row_form hown
  have X4 := hide ((X1.out.more (.cells #[.int .i64 b, .slice Au x.length cu] 89)).kp KP.out (by decide))
  have OB4 := hide ((OB1.out.below (bal (brefl w1) (.cells #[.int .i64 b, .slice Au x.length cu] 89))).kp KP.out (by decide) (by decide))
  have OQ4 := hide ((OQ1.out.below (bal (brefl w1) (.cells #[.int .i64 b, .slice Au x.length cu] 89))).kp KP.out (by decide) (by decide))
  have y3 := X4.out.cell 3
  have f3 := X4.out.frozen 3
  simp at y3
  clear hown hg x3 hl4
  go_wp2
  go_end0
  have KS := hide (Kp.boxset (B := B) X4.out hBg 3 (.slice A4 (D.ca.length + 1) c4))
  refine ⟨rfl, ⟨_, _, _, X4.out.put 3 _, OB4.out.kp KS.out (by decide) (by decide), PU.out.kp KS.out (by decide) (by decide), OQ4.out.kp KS.out (by decide) (by decide)⟩, ?_⟩
  exact ((KpG.of_below (btrans KW.out (bal (brefl w1) _)) (by omega)).trans (KpG.of_kp64 KP.out)).trans (KpG.set _ hBg 3 _)
set_option maxHeartbeats 1000000 in
set_option maxRecDepth 100000 in
theorem put_hit (B g : Nat) (D : Dev) (b : Int) (u : Value) (x : By) (w : World) (hd : DevAt B w g D) (hBg : B ≤ g) (hBw : B ≤ w.heap.size) (hu : OwnBy w u x) (ha : Asc D.ca) (hl : D.ca.length ≤ 1000) (hm : hitP D.ca b = true) :
    Calls Try.prog 61 #[.pointer (some ⟨g, 0, none⟩), .int .i64 b, u] w (TurnR B g { D with ca := D.ca.set (caP D.ca b) (b, x) } w) := by
  obtain ⟨vb, vc, vq, hX, ob, oc, oq⟩ := hd
  obtain ⟨E1, g1, rfl, _⟩ := ob.form
  obtain ⟨E2, g2, rfl, hcap⟩ := oc.form
  obtain ⟨E3, g3, rfl, _⟩ := oq.form
  obtain ⟨Au, cu, rfl⟩ := hu.form
  have hgw := hX.lt
  have X := hide hX
  have OB := hide ob
  have OC := hide oc
  have OQ := hide oq
  have HU := hide hu
  have FC := hide (find_any D.dep D.nxt (.slice E1 D.bl.length g1) (.slice E3 D.qu.length g3) E2 D.ca g2 b w oc.rd hl ha)
  have hp := hitP_lt hm
  have hcb : (cAt D.ca (caP D.ca b)).1 = b := by unfold hitP at hm; exact (of_decide_eq_true hm).2
  rw [hm] at FC
  generalize caP D.ca b = p at *
  obtain ⟨x0, x1, x2, x3, x4⟩ := box5_cells (W' := w) hX
  have HCB := hide hcb
  clear hX ob oc oq hu ha hm hcb
  go_enter Try.func61, Try.ntmps61
  go_wp2_with fail
  refine FC.out.mono ?_
  rintro e w1 ⟨rfl, hb⟩
  have KW := hide hb
  have HU1 := hide (HU.out.below hb)
  have OB1 := hide (OB.out.below hb)
  have OC1 := hide (OC.out.below hb)
  have OQ1 := hide (OQ.out.below hb)
  have X1 := hide (X.out.below hb)
  have hw1 := hb.size
  clear hb x0 x1 x2 x3 x4
  have x3 := X1.out.cell 3
  simp at x3
  obtain ⟨gc, cc, hv, _, hgB, ⟨y, hy⟩, hfr, hkp, hoc⟩ := OC1.out.put hp HU1.out
  injection hv with hv1 hv2 hv3
  subst hv1 hv3
  have KP := hide hkp
  have PU := hide hoc
  rw [HCB.out] at PU
  have hp0 : (0 : Int) ≤ (p : Int) := by omega
  have hp1 : (p : Int) < (D.ca.length : Int) := by omega
  clear hkp hoc hv2 hgB
  go_wp2
  go_end0
  refine ⟨rfl, ⟨_, _, _, X1.out.kp KP.out (by decide), OB1.out.kp KP.out (by decide) (by decide), PU.out, OQ1.out.kp KP.out (by decide) (by decide)⟩, ?_⟩
  exact (KpG.of_below KW.out (by omega)).trans (KpG.of_kp64 KP.out)
theorem put_any (B g : Nat) (D : Dev) (b : Int) (u : Value) (x : By) (w : World) (hd : DevAt B w g D) (hBg : B ≤ g) (hBw : B ≤ w.heap.size) (hu : OwnBy w u x) (ha : Asc D.ca) (hl : D.ca.length ≤ 1000) :
    Calls Try.prog 61 #[.pointer (some ⟨g, 0, none⟩), .int .i64 b, u] w (TurnR B g { D with ca := putD D.ca b x } w) := by
  unfold putD
  by_cases hm : hitP D.ca b = true
  · rw [if_pos hm]; exact put_hit B g D b u x w hd hBg hBw hu ha hl hm
  · rw [if_neg hm]
    have hm : hitP D.ca b = false := by simpa using hm
    have hle := caP_le D.ca b
    by_cases hp : caP D.ca b < D.ca.length
    · exact put_mid B g D b u x w hd hBg hBw hu ha hl hm hp
    · have he : caP D.ca b = D.ca.length := by omega
      have := put_end B g D b u x w hd hBg hu ha hl hm he
      rw [he, List.take_length, List.drop_length]
      exact this
end Go.Proofs.Ytncdilkcblakhaa.Dv
namespace Go.Proofs.Ytncdilkcblakhaa.Dv
open Go Go.RowKit
set_option linter.unusedVariables false
/-- all but one block is as it was -/
structure KpB (hh : Nat) (w w' : World) : Prop where
  size : w.heap.size ≤ w'.heap.size
  keep : ∀ k, k < w.heap.size → k ≠ hh → w'.heap[k]? = w.heap[k]?
section
variable {hh : Nat} {w w' w2 : World}
theorem KpB.trans (h : KpB hh w w') (h2 : KpB hh w' w2) : KpB hh w w2 := ⟨Nat.le_trans h.size h2.size, fun k hk hn => (h2.keep k (Nat.lt_of_lt_of_le hk h.size) hn).trans (h.keep k hk hn)⟩
theorem KpB.set (w : World) (hh i : Nat) (u : Value) : KpB hh w (w.setCell ⟨hh, i, none⟩ u) := ⟨by simp [World.setCell], fun k hk hn => heap_setCell_other w ⟨hh, i, none⟩ k u hn⟩
theorem KpB.set4 (w : World) (hh : Nat) (x0 x1 x2 x3 : Value) : KpB hh w ((((w.setCell ⟨hh, 0, none⟩ x0).setCell ⟨hh, 1, none⟩ x1).setCell ⟨hh, 2, none⟩ x2).setCell ⟨hh, 3, none⟩ x3) := (((KpB.set w hh 0 x0).trans (KpB.set _ hh 1 x1)).trans (KpB.set _ hh 2 x2)).trans (KpB.set _ hh 3 x3)
theorem KpB.of_grown {g : Nat} (h : w.grownBy w' (some g)) : KpB g w w' := ⟨h.size, fun k hk hn => h.block k hk (fun e => hn (by injection e))⟩
theorem Box.kb {k : Nat} {t : TypeId} {cs : Array Value} (h : Box w k t cs) (hk : KpB hh w w') (hne : k ≠ hh) : Box w' k t cs := (hk.keep k h.lt hne).trans h
theorem row_kb {base n size : Nat} {t : TypeId} {v : Value} {xs : List Value} (h : w.ownsRow base t size v n xs) (hk : KpB hh w w') (hne : some hh ≠ v.ownBlock) : w'.ownsRow base t size v n xs := by
  obtain ⟨hl, h | ⟨g, cap, cur, e, hg, hx, r⟩⟩ := h
  · exact ⟨hl, .inl h⟩
  · exact ⟨hl, .inr ⟨g, cap, cur, e, hg, Box.kb (t := t) hx hk (fun e2 => hne (by subst e; rw [e2]; rfl)), r⟩⟩
theorem OwnBy.kb {v : Value} {l : By} {t : TypeId} {cs : Array Value} (h : OwnBy w v l) (hk : KpB hh w w') (hX : Box w hh t cs) (ht : t ≠ 5) : OwnBy w' v l := by
  obtain ⟨A, c, e, hc, h⟩ := h
  refine ⟨A, c, e, hc, fun hn => ?_⟩
  obtain ⟨b, off, cur, e, hx, hy⟩ := h hn
  have hbg : b ≠ hh := by
    rintro rfl
    have : Box w b 5 cur := hx
    exact absurd rfl (this.ne hX (fun e => ht e.symm))
  exact ⟨b, off, cur, e, Box.kb (t := 5) hx hk hbg, hy⟩
theorem OwnB.kb {B : Nat} {v : Value} {L : List By} {t : TypeId} {cs : Array Value} (h : OwnB B w v L) (hk : KpB hh w w') (hX : Box w hh t cs) (ht : t ≠ 5) (ht2 : t ≠ 23) : OwnB B w' v L := by
  obtain ⟨R, e, hr, ho⟩ := h
  exact ⟨R, e, row_kb hr hk (row_own_box hr hX ht2), fun r hm => (ho r hm).kb hk hX ht⟩
theorem OwnC.kb {B : Nat} {v : Value} {L : List Ca} {t : TypeId} {cs : Array Value} (h : OwnC B w v L) (hk : KpB hh w w') (hX : Box w hh t cs) (ht : t ≠ 5) (ht2 : t ≠ 89) : OwnC B w' v L := by
  obtain ⟨R, e, hr, ho⟩ := h
  exact ⟨R, e, row_kb hr hk (row_own_box hr hX ht2), fun r hm => (ho r hm).kb hk hX ht⟩
theorem OwnQ.kb {B : Nat} {v : Value} {L : List Rq} {t : TypeId} {cs : Array Value} (h : OwnQ B w v L) (hk : KpB hh w w') (hX : Box w hh t cs) (ht : t ≠ 5) (hne : some hh ≠ v.ownBlock) : OwnQ B w' v L := by
  obtain ⟨R, e, hr, ho⟩ := h
  exact ⟨R, e, row_kb hr hk hne, fun r hm => (ho r hm).kb hk hX ht⟩
theorem below_set4 {B : Nat} {w0 : World} {x0 x1 x2 x3 : Value} (h : Below B w0 w) (hB : B ≤ hh) : Below B w0 ((((w.setCell ⟨hh, 0, none⟩ x0).setCell ⟨hh, 1, none⟩ x1).setCell ⟨hh, 2, none⟩ x2).setCell ⟨hh, 3, none⟩ x3) :=
  (((h.setCell hB x0).setCell hB x1).setCell hB x2).setCell hB x3
end
theorem box4_cells {W : World} {g : Nat} {t : TypeId} {x0 x1 x2 x3 : Value} (h : Box W g t #[x0, x1, x2, x3]) : W.cell? ⟨g, 0, none⟩ = some x0 ∧ W.cell? ⟨g, 1, none⟩ = some x1 ∧ W.cell? ⟨g, 2, none⟩ = some x2 ∧ W.cell? ⟨g, 3, none⟩ = some x3 := ⟨h.cell 0, h.cell 1, h.cell 2, h.cell 3⟩
/-- a copied device and a copied request, each behind a pointer -/
structure Cq (w1 : World) (D : Dev) (q : Rq) (g h : Nat) (W : World) : Prop where
  below : Below w1.heap.size w1 W
  hg : w1.heap.size ≤ g
  hh : w1.heap.size ≤ h
  dev : ∃ vb vc vq, Box W g 57 #[.int .i64 D.dep, .int .i64 D.nxt, vb, vc, vq] ∧ OwnB w1.heap.size W vb D.bl ∧ OwnC w1.heap.size W vc D.ca ∧ OwnQ w1.heap.size W vq D.qu ∧ some h ≠ vq.ownBlock
  req : ReqAt W h q
end Go.Proofs.Ytncdilkcblakhaa.Dv
