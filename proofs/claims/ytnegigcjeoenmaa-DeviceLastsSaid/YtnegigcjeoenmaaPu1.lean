import Derived.Test.YtnegigcjeoenmaaIn3
import Derived.Test.YtnegigcjeoenmaaCo1
namespace Go.Proofs.Ytnegigcjeoenmaa.Dv
open Go Go.RowKit
set_option linter.unusedVariables false
theorem grown_none {w w' : World} {o : Option Nat} (h : w.grownBy w' none) : w.grownBy w' o := ⟨h.os, h.tape, h.output, h.size, fun k hk _ => h.block k hk (Option.some_ne_none _)⟩
theorem insert_mid (B : Nat) (A : Option Addr) (n c nb i : Nat) (xs : List Value) (z : Int) (u : Value) (w : World) (ho : w.ownsRow B 64 2 (.slice A n c) n xs) (hB : B ≤ w.heap.size) (hi : i < n) (hn : n ≤ 1000) (h1 : ∀ v ∈ xs, v.oneCell' = true) (hu : u.oneCell' = true) (hX : Box w nb 64 #[.int .i64 z, u]) (hne : some nb ≠ (Value.slice A n c).ownBlock) :
    Calls Try.prog 69 #[.slice A n c, .int .i64 i, .slice (some ⟨nb, 0, none⟩) 1 1] w fun e w' => ∃ v', e = .returned v' ∧ w'.ownsRow B 64 2 v' (n + 1) (xs.take (i * 2) ++ [.int .i64 z, u] ++ xs.drop (i * 2)) ∧ w.grownBy w' (Value.slice A n c).ownBlock := by
  obtain ⟨hlen, h0 | ⟨g, cap, cur, e, hgB, hh, h4, h5, h6, ht⟩⟩ := ho
  · omega
  injection e with e1 _ e2
  subst e1 e2
  have hnl : (xs.take (i * 2) ++ [Value.int IntKind.i64 z, u] ++ xs.drop (i * 2)).length = (n + 1) * 2 := by
    simp only [List.length_append, List.length_take, List.length_drop, List.length_cons, List.length_nil, hlen]; omega
  by_cases hr : n + 1 ≤ c
  · refine (insert_room g n c nb i xs cur z u w hX hh (fun e => hne (by rw [e]; rfl)) hi hr h5 hn h6 ht hlen h1 hu).mono ?_
    rintro e w' ⟨rfl, cur', hb, hs, hf, hg⟩
    exact ⟨_, rfl, ⟨hnl, .inr ⟨g, c, cur', rfl, hgB, hb, hr, h5, hs, hf⟩⟩, hg⟩
  · refine (insert_grow g n c nb i xs cur z u w hX hh hi h4 (by omega) hn ht hlen h1 hu).mono ?_
    rintro e w' ⟨G, rfl, hG1, hG2, cur', hb, hs, hf, hg⟩
    exact ⟨_, rfl, ⟨hnl, .inr ⟨_, G, cur', rfl, hB, hb, hG1, hG2, hs, hf⟩⟩, grown_none hg⟩
theorem cC_take : ∀ (R : List PC) (k : Nat), (cC R).take (k * 2) = cC (R.take k)
  | _, 0 => by simp [cC]
  | [], k + 1 => by simp [cC]
  | r :: R, k + 1 => by
    rw [show (k + 1) * 2 = k * 2 + 2 by omega]
    simp only [cC, List.take_succ_cons, cC_take R k]
theorem cC_drop : ∀ (R : List PC) (k : Nat), (cC R).drop (k * 2) = cC (R.drop k)
  | _, 0 => by simp
  | [], k + 1 => by simp [cC]
  | r :: R, k + 1 => by
    rw [show (k + 1) * 2 = k * 2 + 2 by omega]
    simp only [cC, List.drop_succ_cons, cC_drop R k]
theorem cC_set : ∀ (R : List PC) (k : Nat) (x : By) (u : Value) (h : k < R.length), cC (R.set k ((R[k]).1, x, u)) = (cC R).set (k * 2 + 1) u
  | r :: R, 0, x, u, _ => rfl
  | r :: R, k + 1, x, u, h => by
    rw [show (k + 1) * 2 + 1 = (k * 2 + 1) + 2 by omega]
    simp only [List.set_cons_succ, cC, List.getElem_cons_succ, cC_set R k x u (by simpa using h)]
theorem caP_le : ∀ (L : List Ca) (b : Int), caP L b ≤ L.length
  | [], b => Nat.le_refl _
  | c :: L, b => by
    have := caP_le L b
    unfold caP
    split <;> simp <;> omega
/-- the cache with a block in it -/
def putD (L : List Ca) (b : Int) (x : By) : List Ca := if hitP L b then L.set (caP L b) (b, x) else L.take (caP L b) ++ (b, x) :: L.drop (caP L b)
theorem OwnC.one {B : Nat} {w : World} {R : List PC} (ho : ∀ r ∈ R, OwnBy w r.2.2 r.2.1) : ∀ v ∈ cC R, v.oneCell' = true := cC_one fun r hr => ⟨r.2.1, (ho r hr).form⟩
theorem OwnC.put {B : Nat} {w : World} {v u : Value} {L : List Ca} {i : Nat} {x : By} (h : OwnC B w v L) (hi : i < L.length) (hu : OwnBy w u x) :
    ∃ g c, v = .slice (some ⟨g, 0, none⟩) L.length c ∧ L.length ≤ c ∧ B ≤ g ∧ (∃ y, w.cell? ⟨g, i * 2 + 1, none⟩ = some y) ∧ w.frozen? ⟨g, i * 2 + 1, none⟩ = false ∧ Kp B 64 w (w.setCell ⟨g, i * 2 + 1, none⟩ u) ∧ OwnC B (w.setCell ⟨g, i * 2 + 1, none⟩ u) v (L.set i ((cAt L i).1, x)) := by
  obtain ⟨R, e, hr, ho⟩ := h
  have hl : R.length = L.length := by rw [← e, List.length_map]
  obtain ⟨hlen, h0 | ⟨g, cap, cur, rfl, hgB, hh, h4, h5, h6, ht⟩⟩ := hr
  · omega
  have hX : Box w g 64 cur := hh
  have hk : Kp B 64 w (w.setCell ⟨g, i * 2 + 1, none⟩ u) := Kp.boxset hX hgB (i * 2 + 1) u
  have hc : (cAt L i).1 = (R[i]'(by omega)).1 := by rw [cAt_get hi]; simp only [← e]; rw [List.getElem_map]; rfl
  refine ⟨g, cap, rfl, h4, hgB, ?_, hX.frozen _, hk, R.set i ((R[i]'(by omega)).1, x, u), by rw [List.map_set, e, hc]; rfl, ?_, ?_⟩
  · have := hX.cell (i * 2 + 1)
    rw [Array.getElem?_eq_getElem (by omega)] at this
    exact ⟨_, this⟩
  · refine ⟨by rw [cC_length, List.length_set, List.length_set, hl], .inr ⟨g, cap, cur.setIfInBounds (i * 2 + 1) u, by rw [List.length_set], hgB, hX.put _ u, by rw [List.length_set]; exact h4, h5, by simpa using h6, ?_⟩⟩
    rw [List.length_set, Array.toList_setIfInBounds, List.take_set, ht, cC_set _ _ _ _ (by omega)]
  · intro r hr
    rcases List.mem_or_eq_of_mem_set hr with h | h
    · exact (ho r h).kp hk (by decide)
    · rw [h]; exact hu.kp hk (by decide)
/-- a block is inserted into a row of one's own -/
theorem OwnC.ins {B n i : Nat} {w w' : World} {v' u : Value} {z : Int} {l : By} {R : List PC} (ho : ∀ r ∈ R, OwnBy w r.2.2 r.2.1) (hu : OwnBy w u l) (hn : R.length = n) (hown : w'.ownsRow B 64 2 v' (n + 1) ((cC R).take (i * 2) ++ [.int .i64 z, u] ++ (cC R).drop (i * 2))) (hi : i ≤ n) (hk : Kp B 64 w w') :
    OwnC B w' v' ((R.map pcC).take i ++ (z, l) :: (R.map pcC).drop i) := by
  refine ⟨R.take i ++ (z, l, u) :: R.drop i, by simp [pcC, List.map_take, List.map_drop], ?_, fun r hr => ?_⟩
  · rw [cC_append, cC, ← cC_take, ← cC_drop]
    rw [show ((R.map pcC).take i ++ (z, l) :: (R.map pcC).drop i).length = n + 1 by simp [hn]; omega]
    simpa using hown
  · rcases List.mem_append.1 hr with h | h
    · exact (ho r (List.mem_of_mem_take h)).kp hk (by decide)
    · rcases List.mem_cons.1 h with h | h
      · rw [h]; exact hu.kp hk (by decide)
      · exact (ho r (List.mem_of_mem_drop h)).kp hk (by decide)
set_option maxHeartbeats 1000000 in
set_option maxRecDepth 100000 in
theorem put_mid (B g : Nat) (D : Dev) (b : Int) (u : Value) (x : By) (w : World) (hd : DevAt B w g D) (hBg : B ≤ g) (hBw : B ≤ w.heap.size) (hu : OwnBy w u x) (ha : Asc D.ca) (hl : D.ca.length ≤ 1000) (hm : hitP D.ca b = false) (hp : caP D.ca b < D.ca.length) :
    Calls Try.prog 63 #[.pointer (some ⟨g, 0, none⟩), .int .i64 b, u] w (TurnR B g { D with ca := D.ca.take (caP D.ca b) ++ (b, x) :: D.ca.drop (caP D.ca b) } w) := by
  obtain ⟨vb, vc, vq, hX, ob, oc, oq⟩ := hd
  obtain ⟨E1, g1, rfl, _⟩ := ob.form
  obtain ⟨E2, g2, rfl, hcap⟩ := oc.form
  obtain ⟨E3, g3, rfl, _⟩ := oq.form
  obtain ⟨Au, cu, rfl⟩ := hu.form
  have hgw := hX.lt
  have X := hide hX
  have OB := hide ob
  have OC := hide oc
  have OQ := hide oq
  have HU := hide hu
  have FC := hide (find_any D.dep D.nxt (.slice E1 D.bl.length g1) (.slice E3 D.qu.length g3) E2 D.ca g2 b w oc.rd hl ha)
  rw [hm] at FC
  generalize caP D.ca b = p at *
  obtain ⟨x0, x1, x2, x3, x4⟩ := box5_cells (W' := w) hX
  clear hX ob oc oq hu ha hm
  go_enter Try.func63, Try.ntmps63
  go_wp2_with fail
  refine FC.out.mono ?_
  rintro e w1 ⟨rfl, hb⟩
  have KW := hide hb
  have HU1 := hide (HU.out.below hb)
  have OB1 := hide (OB.out.below hb)
  have OC1 := hide (OC.out.below hb)
  have OQ1 := hide (OQ.out.below hb)
  have X1 := hide (X.out.below hb)
  have hgw1 := X1.out.lt
  have hw1 := hb.size
  clear hb x0 x1 x2 x3 x4
  have x3 := X1.out.cell 3
  simp at x3
  have NB := hide (Box.new w1 64 #[.int .i64 b, .slice Au x.length cu])
  have hB1 : B ≤ (w1.alloc (.cells #[.int .i64 b, .slice Au x.length cu] 64)).heap.size := by simp; omega
  obtain ⟨R, hR, hrow, hro⟩ := (OC1.out.below (bal (brefl w1) (.cells #[.int .i64 b, .slice Au x.length cu] 64)))
  have IE := hide (insert_mid B E2 D.ca.length g2 w1.heap.size p (cC R) b (.slice Au x.length cu) _ hrow hB1 hp hl (OwnC.one (B := B) hro) rfl NB.out (by
    obtain ⟨R1, _, hrow1, _⟩ := OC1.out
    exact row_own_lt hrow1 (Nat.le_refl _)))
  have HR := hide hR
  have HRO := hide hro
  have HROW := hide hrow
  clear hR hro hrow hB1
  go_wp2_with fail
  refine IE.out.mono ?_
  rintro e w4 ⟨v4, rfl, hown, hg⟩
  have hl4 : R.length = D.ca.length := by rw [← HR.out, List.length_map]
  have KP := hide (kp_grown HROW.out hg (by simp; omega))
  have PU := hide (OwnC.ins (z := b) HRO.out (HU1.out.below (bal (brefl w1) _)) hl4 hown (by omega) KP.out)
  rw [HR.out] at PU
  obtain ⟨A4, c4, rfl, _⟩ := row_form hown
  have X4 := hide ((X1.out.more (.cells #[.int .i64 b, .slice Au x.length cu] 64)).kp KP.out (by decide))
  have OB4 := hide ((OB1.out.below (bal (brefl w1) (.cells #[.int .i64 b, .slice Au x.length cu] 64))).kp KP.out (by decide) (by decide))
  have OQ4 := hide ((OQ1.out.below (bal (brefl w1) (.cells #[.int .i64 b, .slice Au x.length cu] 64))).kp KP.out (by decide) (by decide))
  have y3 := X4.out.cell 3
  have f3 := X4.out.frozen 3
  simp at y3
  clear hown hg x3 hl4
  go_wp2
  go_end0
  have KS := hide (Kp.boxset (B := B) X4.out hBg 3 (.slice A4 (D.ca.length + 1) c4))
  refine ⟨rfl, ⟨_, _, _, X4.out.put 3 _, OB4.out.kp KS.out (by decide) (by decide), PU.out.kp KS.out (by decide) (by decide), OQ4.out.kp KS.out (by decide) (by decide)⟩, ?_⟩
  exact ((KpG.of_below (btrans KW.out (bal (brefl w1) _)) (by omega)).trans (KpG.of_kp64 KP.out)).trans (KpG.set _ hBg 3 _)
set_option maxHeartbeats 1000000 in
set_option maxRecDepth 100000 in
theorem put_hit (B g : Nat) (D : Dev) (b : Int) (u : Value) (x : By) (w : World) (hd : DevAt B w g D) (hBg : B ≤ g) (hBw : B ≤ w.heap.size) (hu : OwnBy w u x) (ha : Asc D.ca) (hl : D.ca.length ≤ 1000) (hm : hitP D.ca b = true) :
    Calls Try.prog 63 #[.pointer (some ⟨g, 0, none⟩), .int .i64 b, u] w (TurnR B g { D with ca := D.ca.set (caP D.ca b) (b, x) } w) := by
  obtain ⟨vb, vc, vq, hX, ob, oc, oq⟩ := hd
  obtain ⟨E1, g1, rfl, _⟩ := ob.form
  obtain ⟨E2, g2, rfl, hcap⟩ := oc.form
  obtain ⟨E3, g3, rfl, _⟩ := oq.form
  obtain ⟨Au, cu, rfl⟩ := hu.form
  have hgw := hX.lt
  have X := hide hX
  have OB := hide ob
  have OC := hide oc
  have OQ := hide oq
  have HU := hide hu
  have FC := hide (find_any D.dep D.nxt (.slice E1 D.bl.length g1) (.slice E3 D.qu.length g3) E2 D.ca g2 b w oc.rd hl ha)
  have hp := hitP_lt hm
  have hcb : (cAt D.ca (caP D.ca b)).1 = b := by unfold hitP at hm; exact (of_decide_eq_true hm).2
  rw [hm] at FC
  generalize caP D.ca b = p at *
  obtain ⟨x0, x1, x2, x3, x4⟩ := box5_cells (W' := w) hX
  have HCB := hide hcb
  clear hX ob oc oq hu ha hm hcb
  go_enter Try.func63, Try.ntmps63
  go_wp2_with fail
  refine FC.out.mono ?_
  rintro e w1 ⟨rfl, hb⟩
  have KW := hide hb
  have HU1 := hide (HU.out.below hb)
  have OB1 := hide (OB.out.below hb)
  have OC1 := hide (OC.out.below hb)
  have OQ1 := hide (OQ.out.below hb)
  have X1 := hide (X.out.below hb)
  have hw1 := hb.size
  clear hb x0 x1 x2 x3 x4
  have x3 := X1.out.cell 3
  simp at x3
  obtain ⟨gc, cc, hv, _, hgB, ⟨y, hy⟩, hfr, hkp, hoc⟩ := OC1.out.put hp HU1.out
  injection hv with hv1 hv2 hv3
  subst hv1 hv3
  have KP := hide hkp
  have PU := hide hoc
  rw [HCB.out] at PU
  have hp0 : (0 : Int) ≤ (p : Int) := by omega
  have hp1 : (p : Int) < (D.ca.length : Int) := by omega
  clear hkp hoc hv2 hgB
  go_wp2
  go_end0
  refine ⟨rfl, ⟨_, _, _, X1.out.kp KP.out (by decide), OB1.out.kp KP.out (by decide) (by decide), PU.out, OQ1.out.kp KP.out (by decide) (by decide)⟩, ?_⟩
  exact (KpG.of_below KW.out (by omega)).trans (KpG.of_kp64 KP.out)
theorem put_any (B g : Nat) (D : Dev) (b : Int) (u : Value) (x : By) (w : World) (hd : DevAt B w g D) (hBg : B ≤ g) (hBw : B ≤ w.heap.size) (hu : OwnBy w u x) (ha : Asc D.ca) (hl : D.ca.length ≤ 1000) :
    Calls Try.prog 63 #[.pointer (some ⟨g, 0, none⟩), .int .i64 b, u] w (TurnR B g { D with ca := putD D.ca b x } w) := by
  unfold putD
  by_cases hm : hitP D.ca b = true
  · rw [if_pos hm]; exact put_hit B g D b u x w hd hBg hBw hu ha hl hm
  · rw [if_neg hm]
    have hm : hitP D.ca b = false := by simpa using hm
    have hle := caP_le D.ca b
    by_cases hp : caP D.ca b < D.ca.length
    · exact put_mid B g D b u x w hd hBg hBw hu ha hl hm hp
    · have he : caP D.ca b = D.ca.length := by omega
      have := put_end B g D b u x w hd hBg hu ha hl hm he
      rw [he, List.take_length, List.drop_length]
      exact this
end Go.Proofs.Ytnegigcjeoenmaa.Dv
