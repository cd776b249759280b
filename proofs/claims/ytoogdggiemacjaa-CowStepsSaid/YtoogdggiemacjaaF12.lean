import Derived.Test.YtoogdggiemacjaaF11
namespace Go.Proofs.Ytoogdggiemacjaa.Cw
open Go Go.RowKit
set_option linter.unusedVariables false
set_option linter.unusedSimpArgs false
theorem OwM.pcell {B : Nat} {w : World} {M : Cow} {As : Option Addr} {cs cf gf gp c : Nat} {T : Tb} (h : OwM B w M As cs (some ⟨gf, 0, none⟩) cf T) {n : Nat} (hn : n < M.sp.length) (hv : (tAt T n).2 = .slice (some ⟨gp, 0, none⟩) (sAt M.sp n).2.length c) (i j : Nat) (u : Value) : (w.setCell ⟨gf, i, none⟩ u).cell? ⟨gp, j, none⟩ = w.cell? ⟨gp, j, none⟩ := by
  have r := h.pg n hn
  rw [hv] at r
  obtain ⟨_, cur, hb⟩ := row_box r
  obtain ⟨_, cur2, hb2⟩ := row_box h.fr
  rw [(hb.far (hb.ne hb2 (by decide)) u).cell j, hb.cell j]
def inG (M : Cow) (n m : Nat) : Prop := 0 ≤ (pAt (sAt M.sp n).2 m).1 ∧ (fAt M.fr (pAt (sAt M.sp n).2 m).1.toNat).1 = 1
instance (M : Cow) (n m : Nat) : Decidable (inG M n m) := by unfold inG; infer_instance
/-- the first free frame -/
def frI (L : List Fr) : Option Nat := L.findIdx? (fun f => f.1 == 0)
theorem frI_some {L : List Fr} {k : Nat} (h : frI L = some k) : k < L.length ∧ (fAt L k).1 = 0 ∧ ∀ j, j < k → (fAt L j).1 ≠ 0 := by
  obtain ⟨h1, h2, h3⟩ := List.findIdx?_eq_some_iff_getElem.1 h
  refine ⟨h1, by rw [fAt_get h1]; simpa using h2, fun j hj => ?_⟩
  rw [fAt_get (by omega)]
  simpa using h3 j hj
theorem frI_none {L : List Fr} (h : frI L = none) : ∀ j, j < L.length → (fAt L j).1 ≠ 0 := by
  intro j hj
  have := List.findIdx?_eq_none_iff.1 h _ (fAt_mem hj)
  simpa using this
def lessG (M : Cow) (f : Int) : Cow := if f < 0 then M else Cow.setF { M with cp := if 1048576 < M.cp + 1 then 1048576 else M.cp + 1 } f.toNat ((fAt M.fr f.toNat).1 - 1, (fAt M.fr f.toNat).2)
def wrM (M : Cow) (n m : Nat) (x : Int) : Cow × Int :=
  if inG M n m then ((M.setP n m ((pAt (sAt M.sp n).2 m).1, true)).setF (pAt (sAt M.sp n).2 m).1.toNat (1, x), 0)
  else match frI M.fr with
    | none => (zeroM, 16)
    | some k => (((lessG M (pAt (sAt M.sp n).2 m).1).setP n m ((k : Int), true)).setF k (1, x), 0)
def wrG1 (M : Cow) (s p x : Int) : Cow × Int := if cpE M s p ≠ 0 then (zeroM, cpE M s p) else wrM M s.toNat p.toNat x
set_option maxRecDepth 100000 in
set_option maxHeartbeats 32000000 in
theorem write_any (M : Cow) (As Af : Option Addr) (cs cf : Nat) (s p x : Int) (w : World) (h : CwIn w M As cs Af cf) (hB : Big M) : Calls Try.prog 27 #[.agg (cwA M As cs Af cf), .int .i64 s, .int .i64 p, .int .i64 x] w (Res w (wrG1 M s p x).1 (wrG1 M s p x).2) := by
  have PA := hide (page_at (M := M) (s := s) (p := p))
  have E0 := hide (fun hn : cpE M s p ≠ 0 => show wrG1 M s p x = (zeroM, cpE M s p) from if_pos hn)
  have E1 := hide (fun hn : cpE M s p = 0 => show wrG1 M s p x = wrM M s.toNat p.toNat x from if_neg (fun g => g hn))
  unfold Res
  obtain ⟨W0, hW0⟩ : ∃ W0, W0 = (w.alloc (.cells (cwA M As cs Af cf) 28)).alloc (.cells #[.int .i64 0, .slice none 0 0, .slice none 0 0, .int .i64 0] 28) := ⟨_, rfl⟩
  have K := hide (show Below w.heap.size w W0 by rw [hW0]; exact bal (bal (brefl w) _) _)
  have X := hide (show Box W0 w.heap.size 28 (cwA M As cs Af cf) by rw [hW0]; exact (Box.new w 28 _).more _)
  have Y := hide (show Box W0 (w.heap.size + 1) 28 #[.int .i64 0, .slice none 0 0, .slice none 0 0, .int .i64 0] by rw [hW0]; exact Box.new2 _ _ _ _)
  have IN := hide h
  have CK := hide (fun w' => fun hb : Below w.heap.size w w' => cpage_any M As Af cs cf s p w' (h.below hb) hB)
  have CL := hide (fun w' => fun hb : Below w.heap.size w w' => clone_any M As Af cs cf w' (h.below hb))
  clear h hB
  unfold cwA at X hW0 CK CL ⊢
  generalize cpE M s p = ec at *
  go_enter Try.func27, Try.ntmps27
  go_upto_region 1 with fail
  rw [← hW0]
  clear hW0
  obtain ⟨g2, hg2⟩ : ∃ g, g = w.heap.size + 1 := ⟨_, rfl⟩
  obtain ⟨g, hg⟩ : ∃ g, g = w.heap.size := ⟨_, rfl⟩
  have GN := hide (show g ≠ g2 by omega)
  have GG := hide (show w.heap.size ≤ g ∧ w.heap.size ≤ g2 by omega)
  rw [← hg2, ← hg]
  rw [← hg2] at Y
  rw [← hg] at X
  clear hg2 hg
  obtain ⟨x0, x1, x2, x3⟩ := box4 X.out
  go_wp2_with fail
  refine (CK.out _ K.out).mono ?_
  rintro e w1 ⟨rfl, hb⟩
  replace X := hide (X.out.below hb)
  replace Y := hide (Y.out.below hb)
  replace K := hide (btrans K.out hb)
  clear hb x0 x1 x2 x3 CK
  obtain ⟨x0, x1, x2, x3⟩ := box4 X.out
  by_cases h1 : ec = 0
  case neg =>
    have E := hide (E0.out h1)
    obtain ⟨y0, y1, y2, y3⟩ := box4 Y.out
    have z0 := Y.out.frozen 0
    have z1 := Y.out.frozen 1
    have z2 := Y.out.frozen 2
    have z3 := Y.out.frozen 3
    go_wp2
    have KK := kp4 Y.out GG.out.2 (.int .i64 0) (.slice none 0 0) (.slice none 0 0) (.int .i64 0)
    refine ret_c2 Try.results27 rfl rfl rfl (box4s Y.out) ⟨none, 0, none, 0, ?_, ?_, K.out.trans KK.below⟩
    · rw [E.out]; rfl
    · rw [E.out]; exact zero_in _
  case pos =>
    obtain ⟨n, m, rfl, rfl, hn, hm, hl, hz, hg, hsz, hfm, hst, -⟩ := PA.out h1
    subst h1
    have E := hide (E1.out rfl)
    rw [Int.toNat_natCast, Int.toNat_natCast] at E
    have HSZ := hide hsz
    have HPL := hide (plen hsz hfm)
    have HCB := hide (cbound hsz hfm hst)
    have l1 : M.sp.length ≤ 8 := hsz.2.1.2
    have l2 := HPL.out n hn
    have l3 : M.fr.length ≤ 256 := hsz.2.2.1.2
    have l4 : 0 ≤ M.cp ∧ M.cp ≤ 1048576 := hsz.2.2.2
    have L4 := hide l4
    clear E0 E1 PA hst hfm hsz hl hz l4
    go_wp2_with fail
    refine (CL.out _ K.out HSZ.out HPL.out).mono ?_
    rintro e w2 ⟨As2, cs2, Af2, cf2, T, rfl, hO, hb⟩
    replace X := hide (X.out.below hb)
    replace Y := hide (Y.out.below hb)
    have GS := hide (show g2 < w2.heap.size from Y.out.lt)
    have GB := hide (show w.heap.size ≤ w1.heap.size from K.out.size)
    replace K := hide (btrans K.out hb)
    have O := hide hO
    clear hO hb x0 x1 x2 x3 CL
    have M3 := bal (brefl w2) (.cells #[.int .i64 M.sz, .slice As2 M.sp.length cs2, .slice Af2 M.fr.length cf2, .int .i64 M.cp] 28)
    have V := hide (Box.new w2 28 #[.int .i64 M.sz, .slice As2 M.sp.length cs2, .slice Af2 M.fr.length cf2, .int .i64 M.cp])
    replace X := hide (X.out.below M3)
    replace Y := hide (Y.out.below M3)
    replace O := hide (O.out.below M3)
    replace K := hide (btrans K.out M3)
    clear M3
    go_upto_region 5 with fail
    obtain ⟨g3, hg3⟩ : ∃ g, g = w2.heap.size := ⟨_, rfl⟩
    have G3 := hide (show g2 ≠ g3 by have := GS.out; omega)
    have G4 := hide (show w.heap.size ≤ g3 by have := GS.out; have := GG.out.2; omega)
    rw [← hg3] at V ⊢
    clear hg3
    generalize w2.alloc (.cells #[.int .i64 M.sz, .slice As2 M.sp.length cs2, .slice Af2 M.fr.length cf2, .int .i64 M.cp] 28) = w3 at *
    replace O := hide (O.out.mono1 GB.out)
    clear X
    obtain ⟨gs, eA, _, _, _, s1, _⟩ := O.out.space hn
    obtain ⟨gp, cp2, ev, _, _, p0, p1, zp⟩ := O.out.page hn hm
    obtain ⟨gf, eF, _⟩ := O.out.frame (k := 0) (by have := HSZ.out.2.2.1.1; omega)
    subst eA eF
    rw [ev] at s1
    have EV := hide ev
    clear ev zp
    obtain ⟨ln, hln⟩ : ∃ ln, ln = (sAt M.sp n).2.length := ⟨_, rfl⟩
    have HLN := hide hln
    rw [← hln] at hm l2 s1
    clear hln
    have n0 : (0 : Int) ≤ (n : Int) := by omega
    have m0 : (0 : Int) ≤ (m : Int) := by omega
    have n1 : (n : Int) < (M.sp.length : Int) := by omega
    have m1 : (m : Int) < (ln : Int) := by omega
    have hpf : (pAt (sAt M.sp n).2 m).1 < 0 ∨ (0 ≤ (pAt (sAt M.sp n).2 m).1 ∧ (pAt (sAt M.sp n).2 m).1 < M.fr.length) := by
      rcases hg with e | e
      · left; rw [e]; decide
      · right; exact e
    clear hg
    obtain ⟨v0, v1, v2, v3⟩ := box4 V.out
    obtain ⟨f, hf⟩ : ∃ f, f = (pAt (sAt M.sp n).2 m).1 := ⟨_, rfl⟩
    have FEQ := hide hf.symm
    rw [← hf] at p0 hpf
    clear hf
    go_upto_region 6 with fail
    clear s1
    by_cases h0 : f < 0
    · have NI := hide (show ¬ inG M n m from fun hi => by have := hi.1; rw [FEQ.out] at this; omega)
      have h0b : ¬ (0 : Int) ≤ f := by omega
      have h0c : decide ((0 : Int) ≤ f) = false := decide_eq_false h0b
      refine wp_region_noPanic ?_
      refine wp_region_held_drew (S := (fun W => W.cell? ⟨gp, m * 2, none⟩ = some (.int .i64 f))) (by kernel_rfl) ?_ (fun hHeld => ?_)
      · exact p0
      refine wpAnyH_take (i := 0) (oi := ⟨some 32, _, _, _, _, _⟩) (v := ?_) rfl (by kernel_rfl) (by kernel_rfl) (by kernel_rfl) (fun _ _ _ h => h) (Or.inl ⟨by kernel_rfl, ?_⟩) (by assumption) ?_
      rotate_left 1
      · (intro w hSw; (try dsimp only at hSw); go_simp) <;> (with_reducible rfl)
      (try simp only [Act.put, List.setIfInBounds_toArray, List.set_cons_succ, List.set_cons_zero])
      refine wpAnyH_take (i := 1) (oi := ⟨some 33, _, _, _, _, _⟩) (v := ?_) rfl (by kernel_rfl) (by kernel_rfl) (by kernel_rfl) (fun _ _ _ h => h) (Or.inl ⟨by kernel_rfl, ?_⟩) (by assumption) ?_
      rotate_left 1
      · (intro w hSw; (try dsimp only at hSw); go_simp) <;> (with_reducible rfl)
      (try simp only [Act.put, List.setIfInBounds_toArray, List.set_cons_succ, List.set_cons_zero])
      refine wpAnyH_take (i := 2) (oi := ⟨some 34, _, _, _, _, _⟩) (v := ?_) rfl (by kernel_rfl) (by kernel_rfl) (by kernel_rfl) (fun _ _ _ h => h) (Or.inl ⟨by kernel_rfl, ?_⟩) (by assumption) ?_
      rotate_left 1
      · (intro w hSw; (try dsimp only at hSw); go_simp) <;> (with_reducible rfl)
      (try simp only [Act.put, List.setIfInBounds_toArray, List.set_cons_succ, List.set_cons_zero])
      refine wpAnyH_take (i := 3) (oi := ⟨some 35, _, _, _, _, _⟩) (v := ?_) rfl (by kernel_rfl) (by kernel_rfl) (by kernel_rfl) (fun _ _ _ h => h) (Or.inl ⟨by kernel_rfl, ?_⟩) (by assumption) ?_
      rotate_left 1
      · (intro w hSw; (try dsimp only at hSw); go_simp) <;> (with_reducible rfl)
      (try simp only [Act.put, List.setIfInBounds_toArray, List.set_cons_succ, List.set_cons_zero])
      refine wpAnyH_take (i := 4) (oi := ⟨some 36, _, _, _, _, _⟩) (v := ?_) rfl (by kernel_rfl) (by kernel_rfl) (by kernel_rfl) (fun _ _ _ h => h) (Or.inl ⟨by kernel_rfl, ?_⟩) (by assumption) ?_
      rotate_left 1
      · (intro w hSw; (try dsimp only at hSw); go_simp) <;> (with_reducible rfl)
      (try simp only [Act.put, List.setIfInBounds_toArray, List.set_cons_succ, List.set_cons_zero])
      refine wpAnyH_take (i := 5) (oi := ⟨some 37, _, _, _, _, _⟩) (v := ?_) rfl (by kernel_rfl) (by kernel_rfl) (by kernel_rfl) (fun _ _ _ h => h) (Or.inl ⟨by kernel_rfl, ?_⟩) (by assumption) ?_
      rotate_left 1
      · (intro w hSw; (try dsimp only at hSw); go_simp) <;> (with_reducible rfl)
      (try simp only [Act.put, List.setIfInBounds_toArray, List.set_cons_succ, List.set_cons_zero])
      refine wpAnyH_take (i := 6) (oi := ⟨some 38, _, _, _, _, _⟩) (v := undef) rfl (by kernel_rfl) (by kernel_rfl) (by kernel_rfl) (fun _ _ _ h => h) (Or.inr ⟨by kernel_rfl, rfl⟩) (by assumption) ?_
      (try simp only [Act.put, List.setIfInBounds_toArray, List.set_cons_succ, List.set_cons_zero])
      refine wpAnyH_take (i := 7) (oi := ⟨some 39, _, _, _, _, _⟩) (v := undef) rfl (by kernel_rfl) (by kernel_rfl) (by kernel_rfl) (fun _ _ _ h => h) (Or.inr ⟨by kernel_rfl, rfl⟩) (by assumption) ?_
      (try simp only [Act.put, List.setIfInBounds_toArray, List.set_cons_succ, List.set_cons_zero])
      refine wpAnyH_take (i := 8) (oi := ⟨some 40, _, _, _, _, _⟩) (v := undef) rfl (by kernel_rfl) (by kernel_rfl) (by kernel_rfl) (fun _ _ _ h => h) (Or.inr ⟨by kernel_rfl, rfl⟩) (by assumption) ?_
      (try simp only [Act.put, List.setIfInBounds_toArray, List.set_cons_succ, List.set_cons_zero])
      refine wpAnyH_take (i := 9) (oi := ⟨some 41, _, _, _, _, _⟩) (v := undef) rfl (by kernel_rfl) (by kernel_rfl) (by kernel_rfl) (fun _ _ _ h => h) (Or.inr ⟨by kernel_rfl, rfl⟩) (by assumption) ?_
      (try simp only [Act.put, List.setIfInBounds_toArray, List.set_cons_succ, List.set_cons_zero])
      refine wpAnyH_take (i := 10) (oi := ⟨some 42, _, _, _, _, _⟩) (v := undef) rfl (by kernel_rfl) (by kernel_rfl) (by kernel_rfl) (fun _ _ _ h => h) (Or.inr ⟨by kernel_rfl, rfl⟩) (by assumption) ?_
      (try simp only [Act.put, List.setIfInBounds_toArray, List.set_cons_succ, List.set_cons_zero])
      refine wpAnyH_take (i := 11) (oi := ⟨some 43, _, _, _, _, _⟩) (v := undef) rfl (by kernel_rfl) (by kernel_rfl) (by kernel_rfl) (fun _ _ _ h => h) (Or.inr ⟨by kernel_rfl, rfl⟩) (by assumption) ?_
      (try simp only [Act.put, List.setIfInBounds_toArray, List.set_cons_succ, List.set_cons_zero])
      refine wpAnyH_take (i := 12) (oi := ⟨some 44, _, _, _, _, _⟩) (v := undef) rfl (by kernel_rfl) (by kernel_rfl) (by kernel_rfl) (fun _ _ _ h => h) (Or.inr ⟨by kernel_rfl, rfl⟩) (by assumption) ?_
      (try simp only [Act.put, List.setIfInBounds_toArray, List.set_cons_succ, List.set_cons_zero])
      refine wpAnyH_take (i := 13) (oi := ⟨some 45, _, _, _, _, _⟩) (v := undef) rfl (by kernel_rfl) (by kernel_rfl) (by kernel_rfl) (fun _ _ _ h => h) (Or.inr ⟨by kernel_rfl, rfl⟩) (by assumption) ?_
      (try simp only [Act.put, List.setIfInBounds_toArray, List.set_cons_succ, List.set_cons_zero])
      refine wpAnyH_take (i := 14) (oi := ⟨some 46, _, _, _, _, _⟩) (v := undef) rfl (by kernel_rfl) (by kernel_rfl) (by kernel_rfl) (fun _ _ _ h => h) (Or.inr ⟨by kernel_rfl, rfl⟩) (by assumption) ?_
      (try simp only [Act.put, List.setIfInBounds_toArray, List.set_cons_succ, List.set_cons_zero])
      refine wpAnyH_take (i := 15) (oi := ⟨some 47, _, _, _, _, _⟩) (v := undef) rfl (by kernel_rfl) (by kernel_rfl) (by kernel_rfl) (fun _ _ _ h => h) (Or.inr ⟨by kernel_rfl, rfl⟩) (by assumption) ?_
      (try simp only [Act.put, List.setIfInBounds_toArray, List.set_cons_succ, List.set_cons_zero])
      refine wpAnyH_take (i := 16) (oi := ⟨some 48, _, _, _, _, _⟩) (v := ?_) rfl (by kernel_rfl) (by kernel_rfl) (by kernel_rfl) (fun _ _ _ h => h) (Or.inl ⟨by kernel_rfl, ?_⟩) (by assumption) ?_
      rotate_left 1
      · (intro w hSw; (try dsimp only at hSw); go_simp) <;> (with_reducible rfl)
      (try simp only [Act.put, List.setIfInBounds_toArray, List.set_cons_succ, List.set_cons_zero])
      refine wpAnyH_done (by kernel_rfl) ?_ _
      refine NoPanic.normal ?_
      replace O := hide (O.out.below (below_drewN (brefl w3) 1))
      replace V := hide (V.out.below (below_drewN (brefl w3) 1))
      replace Y := hide (Y.out.below (below_drewN (brefl w3) 1))
      replace K := hide (btrans K.out (below_drewN (brefl w3) 1))
      change Hid (OwM _ w3.drew _ _ _ _ _ _) at O
      change Hid (Box w3.drew _ _ _) at V
      change Hid (Box w3.drew _ _ _) at Y
      change Hid (Below _ _ w3.drew) at K

      change World.cell? w3.drew _ = _ at p0
      change World.cell? w3.drew _ = _ at p1
      change World.cell? w3.drew _ = _ at v0
      change World.cell? w3.drew _ = _ at v1
      change World.cell? w3.drew _ = _ at v2
      change World.cell? w3.drew _ = _ at v3
      generalize w3.drew = w4 at *
      clear p0 p1 v0 v1 v3
      rcases hfr : frI M.fr with _ | k
      · have HN := hide (frI_none hfr)
        have E := hide (E.out.trans (show wrM M n m x = (zeroM, 16) by unfold wrM; rw [if_neg NI.out, hfr]))
        have RF := hide (O.out.toIn.rf)
        have LL : M.fr.length ≤ 1000 := by omega
        clear hfr
        go_wp2_with fail
        refine (idx_miss _ M.fr cf2 _ RF.out LL HN.out).mono ?_
        rintro e w6 ⟨rfl, hb⟩
        replace O := hide (O.out.below hb)
        replace V := hide (V.out.below hb)
        replace Y := hide (Y.out.below hb)
        replace K := hide (btrans K.out hb)
        clear hb v2 LL
        obtain ⟨y0, y1, y2, y3⟩ := box4 Y.out
        have z0 := Y.out.frozen 0
        have z1 := Y.out.frozen 1
        have z2 := Y.out.frozen 2
        have z3 := Y.out.frozen 3
        go_wp2
        refine ret_c2 Try.results27 rfl rfl rfl (box4s Y.out) ⟨none, 0, none, 0, ?_, ?_, K.out.trans (kp4 Y.out GG.out.2 _ _ _ _).below⟩
        · rw [E.out]; rfl
        · rw [E.out]; exact zero_in _
      · obtain ⟨kl, k0, kb⟩ := frI_some hfr
        have FL := hide kl
        have E := hide (E.out.trans (show wrM M n m x = (((lessG M (pAt (sAt M.sp n).2 m).1).setP n m ((k : Int), true)).setF k (1, x), 0) by unfold wrM; rw [if_neg NI.out, hfr]))
        have RF := hide (O.out.toIn.rf)
        have KZ := hide k0
        have KB := hide kb
        have LL : M.fr.length ≤ 1000 := by omega
        have kk0 : (0 : Int) ≤ (k : Int) := by omega
        have kk1 : (k : Int) < (M.fr.length : Int) := by omega
        clear hfr k0 kb
        go_wp2_with fail
        refine (idx_hit _ M.fr cf2 k _ RF.out LL kl KZ.out KB.out).mono ?_
        rintro e w6 ⟨rfl, hb⟩
        replace O := hide (O.out.below hb)
        replace V := hide (V.out.below hb)
        replace Y := hide (Y.out.below hb)
        replace K := hide (btrans K.out hb)
        clear hb v2 LL
        obtain ⟨v0, v1, v2, v3⟩ := box4 V.out
        obtain ⟨gp2, cp3, ev2, _, _, p0, p1, zp⟩ := O.out.page hn (by rw [← HLN.out]; exact hm)
        have eg : gp = gp2 := by
          have := EV.out.symm.trans ev2
          injection this with this; injection this with this; injection this with this
        subst eg
        rw [FEQ.out] at p0
        clear zp ev2
        have E := hide (E.out.trans (show (((lessG M (pAt (sAt M.sp n).2 m).1).setP n m ((k : Int), true)).setF k (1, x), (0 : Int)) = ((M.setP n m ((k : Int), true)).setF k (1, x), 0) by rw [FEQ.out]; unfold lessG; rw [if_pos h0]))
        go_upto_region 16 with fail
        have NN := hide (show n < (M).sp.length from hn)
        have MM := hide (show m < (sAt (M).sp n).2.length from (by rw [← HLN.out]; exact hm : m < (sAt M.sp n).2.length))
        have EV2 := hide (show (tAt T n).2 = .slice (some ⟨gp, 0, none⟩) (sAt (M).sp n).2.length cp2 from EV.out)
        have KK2 := hide (show k < ((M).setP n m ((k : Int), true)).fr.length from (FL.out : k < (M).fr.length))
        clear v0 v1 v2 v3
        obtain ⟨gp2, cp3, ev2, _, _, p0, p1, zp⟩ := O.out.page (n := n) (m := m) NN.out MM.out
        have eg : gp = gp2 := by
          have := EV2.out.symm.trans ev2
          injection this with this; injection this with this; injection this with this
        subst eg
        have zp0 := zp (m * 2)
        have zp1 := zp (m * 2 + 1)
        clear zp ev2
        have ON := hide (O.out.setPP (n := n) (m := m) NN.out MM.out EV2.out (k : Int) true)
        have SN := hide (O.out.sideP2 (n := n) (m := m) NN.out MM.out EV2.out (k : Int) true)
        have VN := hide (SN.out.box _ _ V.out)
        have YN := hide (SN.out.box _ _ Y.out)
        have KN := hide (K.out.trans SN.out.below)
        go_upto_region 17 with fail
        clear O V Y K SN
        have O := ON
        have V := VN
        have Y := YN
        have K := KN
        clear ON VN YN KN
        clear p0 p1 zp0 zp1
        generalize World.setCell _ ⟨gp, m * 2 + 1, none⟩ (.bool true) = wy at *
        obtain ⟨gf3, egf, _, _, f0, f1, zf⟩ := O.out.frame (k := k) KK2.out
        injection egf with egf; injection egf with egf
        subst egf
        have zf0 := zf (k * 2)
        have zf1 := zf (k * 2 + 1)
        clear zf
        obtain ⟨v0, v1, v2, v3⟩ := box4 V.out
        have ON := hide (O.out.setFF (k := k) KK2.out 1 x)
        have SN := hide (O.out.sideF2 (k := k) KK2.out 1 x)
        have VN := hide (SN.out.box _ _ V.out)
        have YN := hide (SN.out.box _ _ Y.out)
        have KN := hide (K.out.trans SN.out.below)
        go_upto_region 18 with fail
        clear f0 f1 zf0 zf1
        clear O V Y K SN
        have O := ON
        have V := VN
        have Y := YN
        have K := KN
        clear ON VN YN KN
        generalize World.setCell _ ⟨gf, k * 2 + 1, none⟩ (.int .i64 x) = wx at *
        have p0 := trivial
        have p1 := trivial
        have EC := hide (show cwA (((M).setP n m ((k : Int), true)).setF k (1, x)) (some ⟨gs, 0, none⟩) cs2 (some ⟨gf, 0, none⟩) cf2 = cwA (M) (some ⟨gs, 0, none⟩) cs2 (some ⟨gf, 0, none⟩) cf2 from (cwA_setF _ _ _ _ _ _ _).trans (cwA_setP _ _ _ _ _ _ _ _))
        clear p0 p1 v1 v2 v3 v0
        obtain ⟨v0, v1, v2, v3⟩ := box4 V.out
        obtain ⟨y0, y1, y2, y3⟩ := box4 Y.out
        have z0 := Y.out.frozen 0
        have z1 := Y.out.frozen 1
        have z2 := Y.out.frozen 2
        have z3 := Y.out.frozen 3
        go_wp2
        refine ret_c2 Try.results27 rfl rfl rfl (box4s Y.out) ⟨some ⟨gs, 0, none⟩, cs2, some ⟨gf, 0, none⟩, cf2, ?_, ?_, K.out.trans (kp4 Y.out GG.out.2 _ _ _ _).below⟩
        · rw [E.out]
          have e := EC.out
          unfold cwA at e
          rw [e]; rfl
        · rw [E.out]; exact (O.out.setCells4 Y.out GG.out.2 _ _ _ _).toIn
    · obtain ⟨q, rfl⟩ := Int.eq_ofNat_of_zero_le (show 0 ≤ f by omega)
      have hq : q < M.fr.length := by omega
      have q0 : (0 : Int) ≤ (q : Int) := by omega
      have q1 : (q : Int) < (M.fr.length : Int) := by omega
      obtain ⟨gf2, egf, _, _, f0, f1, zf⟩ := O.out.frame hq
      injection egf with egf; injection egf with egf
      subst egf
      have CB := HCB.out q hq
      obtain ⟨c, hc⟩ : ∃ c, c = (fAt M.fr q).1 := ⟨_, rfl⟩
      have CEQ := hide hc.symm
      rw [← hc] at f0 CB
      clear hc zf f1
      by_cases h2 : c = 1
      · subst h2
        have E := hide (E.out.trans (show wrM M n m x = ((M.setP n m ((q : Int), true)).setF q (1, x), 0) by
          unfold wrM
          rw [if_pos ⟨by rw [FEQ.out]; omega, by rw [FEQ.out, Int.toNat_natCast]; exact CEQ.out⟩, FEQ.out, Int.toNat_natCast]))
        refine wp_region_noPanic ?_
        refine wp_region_held_drew (S := (fun W => W.cell? ⟨gp, m * 2, none⟩ = some (.int .i64 (q : Int)) ∧ W.cell? ⟨g3, 2, none⟩ = some (.slice (some ⟨gf, 0, none⟩) M.fr.length cf2) ∧ W.cell? ⟨gf, q * 2, none⟩ = some (.int .i64 1))) (by kernel_rfl) ?_ (fun hHeld => ?_)
        · exact ⟨p0, v2, f0⟩
        refine wpAnyH_take (i := 0) (oi := ⟨some 32, _, _, _, _, _⟩) (v := ?_) rfl (by kernel_rfl) (by kernel_rfl) (by kernel_rfl) (fun _ _ _ h => h) (Or.inl ⟨by kernel_rfl, ?_⟩) (by assumption) ?_
        rotate_left 1
        · (intro w hSw; (try dsimp only at hSw); go_simp) <;> (with_reducible rfl)
        (try simp only [Act.put, List.setIfInBounds_toArray, List.set_cons_succ, List.set_cons_zero])
        refine wpAnyH_take (i := 1) (oi := ⟨some 33, _, _, _, _, _⟩) (v := ?_) rfl (by kernel_rfl) (by kernel_rfl) (by kernel_rfl) (fun _ _ _ h => h) (Or.inl ⟨by kernel_rfl, ?_⟩) (by assumption) ?_
        rotate_left 1
        · (intro w hSw; (try dsimp only at hSw); go_simp) <;> (with_reducible rfl)
        (try simp only [Act.put, List.setIfInBounds_toArray, List.set_cons_succ, List.set_cons_zero])
        refine wpAnyH_take (i := 2) (oi := ⟨some 34, _, _, _, _, _⟩) (v := ?_) rfl (by kernel_rfl) (by kernel_rfl) (by kernel_rfl) (fun _ _ _ h => h) (Or.inl ⟨by kernel_rfl, ?_⟩) (by assumption) ?_
        rotate_left 1
        · (intro w hSw; (try dsimp only at hSw); go_simp) <;> (with_reducible rfl)
        (try simp only [Act.put, List.setIfInBounds_toArray, List.set_cons_succ, List.set_cons_zero])
        refine wpAnyH_take (i := 3) (oi := ⟨some 35, _, _, _, _, _⟩) (v := ?_) rfl (by kernel_rfl) (by kernel_rfl) (by kernel_rfl) (fun _ _ _ h => h) (Or.inl ⟨by kernel_rfl, ?_⟩) (by assumption) ?_
        rotate_left 1
        · (intro w hSw; (try dsimp only at hSw); go_simp) <;> (with_reducible rfl)
        (try simp only [Act.put, List.setIfInBounds_toArray, List.set_cons_succ, List.set_cons_zero])
        refine wpAnyH_take (i := 4) (oi := ⟨some 36, _, _, _, _, _⟩) (v := ?_) rfl (by kernel_rfl) (by kernel_rfl) (by kernel_rfl) (fun _ _ _ h => h) (Or.inl ⟨by kernel_rfl, ?_⟩) (by assumption) ?_
        rotate_left 1
        · (intro w hSw; (try dsimp only at hSw); go_simp) <;> (with_reducible rfl)
        (try simp only [Act.put, List.setIfInBounds_toArray, List.set_cons_succ, List.set_cons_zero])
        refine wpAnyH_take (i := 5) (oi := ⟨some 37, _, _, _, _, _⟩) (v := ?_) rfl (by kernel_rfl) (by kernel_rfl) (by kernel_rfl) (fun _ _ _ h => h) (Or.inl ⟨by kernel_rfl, ?_⟩) (by assumption) ?_
        rotate_left 1
        · (intro w hSw; (try dsimp only at hSw); go_simp) <;> (with_reducible rfl)
        (try simp only [Act.put, List.setIfInBounds_toArray, List.set_cons_succ, List.set_cons_zero])
        refine wpAnyH_take (i := 6) (oi := ⟨some 38, _, _, _, _, _⟩) (v := ?_) rfl (by kernel_rfl) (by kernel_rfl) (by kernel_rfl) (fun _ _ _ h => h) (Or.inl ⟨by kernel_rfl, ?_⟩) (by assumption) ?_
        rotate_left 1
        · (intro w hSw; (try dsimp only at hSw); go_simp) <;> (with_reducible rfl)
        (try simp only [Act.put, List.setIfInBounds_toArray, List.set_cons_succ, List.set_cons_zero])
        refine wpAnyH_take (i := 7) (oi := ⟨some 39, _, _, _, _, _⟩) (v := ?_) rfl (by kernel_rfl) (by kernel_rfl) (by kernel_rfl) (fun _ _ _ h => h) (Or.inl ⟨by kernel_rfl, ?_⟩) (by assumption) ?_
        rotate_left 1
        · (intro w hSw; (try dsimp only at hSw); go_simp) <;> (with_reducible rfl)
        (try simp only [Act.put, List.setIfInBounds_toArray, List.set_cons_succ, List.set_cons_zero])
        refine wpAnyH_take (i := 8) (oi := ⟨some 40, _, _, _, _, _⟩) (v := ?_) rfl (by kernel_rfl) (by kernel_rfl) (by kernel_rfl) (fun _ _ _ h => h) (Or.inl ⟨by kernel_rfl, ?_⟩) (by assumption) ?_
        rotate_left 1
        · (intro w hSw; (try dsimp only at hSw); go_simp) <;> (with_reducible rfl)
        (try simp only [Act.put, List.setIfInBounds_toArray, List.set_cons_succ, List.set_cons_zero])
        refine wpAnyH_take (i := 9) (oi := ⟨some 41, _, _, _, _, _⟩) (v := ?_) rfl (by kernel_rfl) (by kernel_rfl) (by kernel_rfl) (fun _ _ _ h => h) (Or.inl ⟨by kernel_rfl, ?_⟩) (by assumption) ?_
        rotate_left 1
        · (intro w hSw; (try dsimp only at hSw); go_simp) <;> (with_reducible rfl)
        (try simp only [Act.put, List.setIfInBounds_toArray, List.set_cons_succ, List.set_cons_zero])
        refine wpAnyH_take (i := 10) (oi := ⟨some 42, _, _, _, _, _⟩) (v := ?_) rfl (by kernel_rfl) (by kernel_rfl) (by kernel_rfl) (fun _ _ _ h => h) (Or.inl ⟨by kernel_rfl, ?_⟩) (by assumption) ?_
        rotate_left 1
        · (intro w hSw; (try dsimp only at hSw); go_simp) <;> (with_reducible rfl)
        (try simp only [Act.put, List.setIfInBounds_toArray, List.set_cons_succ, List.set_cons_zero])
        refine wpAnyH_take (i := 11) (oi := ⟨some 43, _, _, _, _, _⟩) (v := ?_) rfl (by kernel_rfl) (by kernel_rfl) (by kernel_rfl) (fun _ _ _ h => h) (Or.inl ⟨by kernel_rfl, ?_⟩) (by assumption) ?_
        rotate_left 1
        · (intro w hSw; (try dsimp only at hSw); go_simp) <;> (with_reducible rfl)
        (try simp only [Act.put, List.setIfInBounds_toArray, List.set_cons_succ, List.set_cons_zero])
        refine wpAnyH_take (i := 12) (oi := ⟨some 44, _, _, _, _, _⟩) (v := ?_) rfl (by kernel_rfl) (by kernel_rfl) (by kernel_rfl) (fun _ _ _ h => h) (Or.inl ⟨by kernel_rfl, ?_⟩) (by assumption) ?_
        rotate_left 1
        · (intro w hSw; (try dsimp only at hSw); go_simp) <;> (with_reducible rfl)
        (try simp only [Act.put, List.setIfInBounds_toArray, List.set_cons_succ, List.set_cons_zero])
        refine wpAnyH_take (i := 13) (oi := ⟨some 45, _, _, _, _, _⟩) (v := ?_) rfl (by kernel_rfl) (by kernel_rfl) (by kernel_rfl) (fun _ _ _ h => h) (Or.inl ⟨by kernel_rfl, ?_⟩) (by assumption) ?_
        rotate_left 1
        · (intro w hSw; (try dsimp only at hSw); go_simp) <;> (with_reducible rfl)
        (try simp only [Act.put, List.setIfInBounds_toArray, List.set_cons_succ, List.set_cons_zero])
        refine wpAnyH_take (i := 14) (oi := ⟨some 46, _, _, _, _, _⟩) (v := ?_) rfl (by kernel_rfl) (by kernel_rfl) (by kernel_rfl) (fun _ _ _ h => h) (Or.inl ⟨by kernel_rfl, ?_⟩) (by assumption) ?_
        rotate_left 1
        · (intro w hSw; (try dsimp only at hSw); go_simp) <;> (with_reducible rfl)
        (try simp only [Act.put, List.setIfInBounds_toArray, List.set_cons_succ, List.set_cons_zero])
        refine wpAnyH_take (i := 15) (oi := ⟨some 47, _, _, _, _, _⟩) (v := ?_) rfl (by kernel_rfl) (by kernel_rfl) (by kernel_rfl) (fun _ _ _ h => h) (Or.inl ⟨by kernel_rfl, ?_⟩) (by assumption) ?_
        rotate_left 1
        · (intro w hSw; (try dsimp only at hSw); go_simp) <;> (with_reducible rfl)
        (try simp only [Act.put, List.setIfInBounds_toArray, List.set_cons_succ, List.set_cons_zero])
        refine wpAnyH_take (i := 16) (oi := ⟨some 48, _, _, _, _, _⟩) (v := ?_) rfl (by kernel_rfl) (by kernel_rfl) (by kernel_rfl) (fun _ _ _ h => h) (Or.inl ⟨by kernel_rfl, ?_⟩) (by assumption) ?_
        rotate_left 1
        · (intro w hSw; (try dsimp only at hSw); go_simp) <;> (with_reducible rfl)
        (try simp only [Act.put, List.setIfInBounds_toArray, List.set_cons_succ, List.set_cons_zero])
        refine wpAnyH_done (by kernel_rfl) ?_ _
        refine NoPanic.normal ?_
        replace O := hide (O.out.below (below_drewN (brefl w3) 1))
        replace V := hide (V.out.below (below_drewN (brefl w3) 1))
        replace Y := hide (Y.out.below (below_drewN (brefl w3) 1))
        replace K := hide (btrans K.out (below_drewN (brefl w3) 1))
        change Hid (OwM _ w3.drew _ _ _ _ _ _) at O
        change Hid (Box w3.drew _ _ _) at V
        change Hid (Box w3.drew _ _ _) at Y
        change Hid (Below _ _ w3.drew) at K

        change World.cell? w3.drew _ = _ at p0
        change World.cell? w3.drew _ = _ at p1
        generalize w3.drew = w4 at *
        clear v0 v1 v2 v3 f0
        obtain ⟨gp2, cp3, ev2, _, _, _, _, zp⟩ := O.out.page hn (by rw [← HLN.out]; exact hm)
        have eg : gp = gp2 := by
          have := EV.out.symm.trans ev2
          injection this with this; injection this with this; injection this with this
        subst eg
        have zp1 := zp (m * 2 + 1)
        clear zp ev2
        have ON := hide (O.out.setP1 (n := n) (m := m) hn (by rw [← HLN.out]; exact hm) EV.out true)
        have SN := hide (O.out.sideP (n := n) hn EV.out (m * 2 + 1) (.bool true))
        have VN := hide (SN.out.box _ _ V.out)
        have YN := hide (SN.out.box _ _ Y.out)
        have KN := hide (K.out.trans SN.out.below)
        go_upto_region 8 with fail
        clear O V Y K SN
        have O := ON
        have V := VN
        have Y := YN
        have K := KN
        clear ON VN YN KN

        clear p0 p1 zp1
        generalize World.setCell _ ⟨gp, m * 2 + 1, none⟩ (.bool true) = w5 at *
        rw [FEQ.out] at O
        have e5 := setP_at hn m ((q : Int), true)
        obtain ⟨gp2, cp3, ev2, _, _, p0, p1, zp⟩ := O.out.page (n := n) (m := m) (by rw [setP_len]; exact hn) (by rw [e5]; simp only [List.length_set]; rw [← HLN.out]; exact hm)
        have eg : gp = gp2 := by
          rw [e5] at ev2
          have := EV.out.symm.trans ev2
          injection this with this; injection this with this; injection this with this
        subst eg
        rw [e5] at p0
        simp only [pAt_set (show m < (sAt M.sp n).2.length by rw [← HLN.out]; exact hm), if_pos] at p0
        have EVP := hide (show (tAt T n).2 = .slice (some ⟨gp, 0, none⟩) (sAt (M.setP n m ((q : Int), true)).sp n).2.length cp3 from by rw [e5]; rw [e5] at ev2; exact ev2)
        clear zp ev2 p1 e5
        obtain ⟨gf2, egf, _, _, _, _, zf⟩ := O.out.frame (k := q) hq
        injection egf with egf; injection egf with egf
        subst egf
        have zf1 := zf (q * 2 + 1)
        clear zf
        obtain ⟨v0, v1, v2, v3⟩ := box4 V.out
        refine wp_region_noPanic ?_
        refine wp_region_held_drew (S := (fun W => W.cell? ⟨g3, 2, none⟩ = some (.slice (some ⟨gf, 0, none⟩) M.fr.length cf2) ∧ W.cell? ⟨gp, m * 2, none⟩ = some (.int .i64 (q : Int)))) (by kernel_rfl) ?_ (fun hHeld => ?_)
        · first | exact ⟨v2, p0⟩ | exact KS.out
        replace O := hide (O.out.below (below_drewN (brefl w5) 1))
        replace V := hide (V.out.below (below_drewN (brefl w5) 1))
        replace Y := hide (Y.out.below (below_drewN (brefl w5) 1))
        replace K := hide (btrans K.out (below_drewN (brefl w5) 1))
        change Hid (OwM _ w5.drew _ _ _ _ _ _) at O
        change Hid (Box w5.drew _ _ _) at V
        change Hid (Box w5.drew _ _ _) at Y
        change Hid (Below _ _ w5.drew) at K
        change World.cell? w5.drew _ = _ at p0
        change World.cell? w5.drew _ = _ at v2
        clear v0 v1 v3 zf1
        generalize w5.drew = w6 at *
        obtain ⟨gf2, egf, _, _, f0, f1, zf⟩ := O.out.frame (k := q) hq
        injection egf with egf; injection egf with egf
        subst egf
        have zf1 := zf (q * 2 + 1)
        clear zf f0
        have ON := hide (show OwM w.heap.size (w6.setCell ⟨gf, q * 2 + 1, none⟩ (.int .i64 x)) ((M.setP n m ((q : Int), true)).setF q (1, x)) (some ⟨gs, 0, none⟩) cs2 (some ⟨gf, 0, none⟩) cf2 T by
          have t := O.out.setF1 (k := q) hq x
          rw [show (fAt (M.setP n m ((q : Int), true)).fr q).1 = 1 from CEQ.out] at t
          exact t)
        have SN := hide (O.out.sideF (q * 2 + 1) (.int .i64 x))
        have VN := hide (SN.out.box _ _ V.out)
        have YN := hide (SN.out.box _ _ Y.out)
        have KN := hide (K.out.trans SN.out.below)
        have KS := hide (And.intro (VN.out.cell 2) ((O.out.pcell (n := n) (gp := gp) (by rw [setP_len]; exact hn) EVP.out (q * 2 + 1) (m * 2) (.int .i64 x)).trans p0))

        refine wpAnyH_take (i := 0) (oi := ⟨some 52, _, _, _, _, _⟩) (v := ?_) rfl (by kernel_rfl) (by kernel_rfl) (by kernel_rfl) (fun _ _ _ h => h) (Or.inl ⟨by kernel_rfl, ?_⟩) (by assumption) ?_
        rotate_left 1
        · (intro w hSw; (try dsimp only at hSw); go_simp) <;> (with_reducible rfl)
        (try simp only [Act.put, List.setIfInBounds_toArray, List.set_cons_succ, List.set_cons_zero])
        refine wpAnyH_take (i := 1) (oi := ⟨some 53, _, _, _, _, _⟩) (v := ?_) rfl (by kernel_rfl) (by kernel_rfl) (by kernel_rfl) (fun _ _ _ h => h) (Or.inl ⟨by kernel_rfl, ?_⟩) (by assumption) ?_
        rotate_left 1
        · (intro w hSw; (try dsimp only at hSw); go_simp) <;> (with_reducible rfl)
        (try simp only [Act.put, List.setIfInBounds_toArray, List.set_cons_succ, List.set_cons_zero])
        refine wpAnyH_take (i := 2) (oi := ⟨some 54, _, _, _, _, _⟩) (v := ?_) rfl (by kernel_rfl) (by kernel_rfl) (by kernel_rfl) (fun _ _ _ h => h) (Or.inl ⟨by kernel_rfl, ?_⟩) (by assumption) ?_
        rotate_left 1
        · (intro w hSw; (try dsimp only at hSw); go_simp) <;> (with_reducible rfl)
        (try simp only [Act.put, List.setIfInBounds_toArray, List.set_cons_succ, List.set_cons_zero])
        refine wpAnyH_take (i := 3) (oi := ⟨some 55, _, _, _, _, _⟩) (v := ?_) rfl (by kernel_rfl) (by kernel_rfl) (by kernel_rfl) (fun _ _ _ h => h) (Or.inl ⟨by kernel_rfl, ?_⟩) (by assumption) ?_
        rotate_left 1
        · (intro w hSw; (try dsimp only at hSw); go_simp) <;> (with_reducible rfl)
        (try simp only [Act.put, List.setIfInBounds_toArray, List.set_cons_succ, List.set_cons_zero])
        refine wpAnyH_take (i := 4) (oi := ⟨some 56, _, _, _, _, _⟩) (v := ?_) rfl (by kernel_rfl) (by kernel_rfl) (by kernel_rfl) (fun _ _ _ h => h) (Or.inl ⟨by kernel_rfl, ?_⟩) (by assumption) ?_
        rotate_left 1
        · (intro w hSw; (try dsimp only at hSw); go_simp) <;> (with_reducible rfl)
        (try simp only [Act.put, List.setIfInBounds_toArray, List.set_cons_succ, List.set_cons_zero])
        refine wpAnyH_take (i := 5) (oi := ⟨some 57, _, _, _, _, _⟩) (v := ?_) rfl (by kernel_rfl) (by kernel_rfl) (by kernel_rfl) (fun _ _ _ h => h) (Or.inl ⟨by kernel_rfl, ?_⟩) (by assumption) ?_
        rotate_left 1
        · (intro w hSw; (try dsimp only at hSw); go_simp) <;> (with_reducible rfl)
        (try simp only [Act.put, List.setIfInBounds_toArray, List.set_cons_succ, List.set_cons_zero])
        refine wpAnyH_take (i := 6) (oi := ⟨some 58, _, _, _, _, _⟩) (v := ?_) rfl (by kernel_rfl) (by kernel_rfl) (by kernel_rfl) (fun _ _ _ h => h) (Or.inl ⟨by kernel_rfl, ?_⟩) (by assumption) ?_
        rotate_left 1
        · (intro w hSw; (try dsimp only at hSw); go_simp) <;> (with_reducible rfl)
        (try simp only [Act.put, List.setIfInBounds_toArray, List.set_cons_succ, List.set_cons_zero])
        refine wpAnyH_take (i := 7) (oi := ⟨some 59, _, _, _, _, _⟩) (v := ?_) rfl (by kernel_rfl) (by kernel_rfl) (by kernel_rfl) (fun _ _ _ h => h) (Or.inl ⟨by kernel_rfl, ?_⟩) (by assumption) ?_
        rotate_left 1
        · (intro w hSw; (try dsimp only at hSw); go_simp) <;> (with_reducible rfl)
        (try simp only [Act.put, List.setIfInBounds_toArray, List.set_cons_succ, List.set_cons_zero])
        refine wpAnyH_take (i := 8) (oi := ⟨some 60, _, _, _, _, _⟩) (v := ?_) rfl (by kernel_rfl) (by kernel_rfl) (by kernel_rfl) (fun _ _ _ h => h) (Or.inl ⟨by kernel_rfl, ?_⟩) (by assumption) ?_
        rotate_left 1
        · (intro w hSw; (try dsimp only at hSw); go_simp) <;> (with_reducible rfl)
        (try simp only [Act.put, List.setIfInBounds_toArray, List.set_cons_succ, List.set_cons_zero])
        refine wpAnyH_ready (rs := [9]) (by kernel_rfl) (by simp) ?_
        refine AllReadyH.cons (o := _) rfl (fun K' hK => ?_) AllReadyH.nil
        go_simp
        refine hK.out _ _ ?_ (fun hHeld => ?_)
        · first | exact ⟨v2, p0⟩ | exact KS.out
        clear hK K'
        (try simp only [Act.put, List.setIfInBounds_toArray, List.set_cons_succ, List.set_cons_zero])
        refine wpAnyH_done (by kernel_rfl) ?_ _
        refine NoPanic.normal ?_
        clear O V Y K SN
        have O := ON
        have V := VN
        have Y := YN
        have K := KN
        clear ON VN YN KN
        clear p0 v2 zf1 f1
        generalize World.setCell _ ⟨gf, q * 2 + 1, none⟩ (.int .i64 x) = wx at *
        have p0 := trivial
        have p1 := trivial
        have v0 := trivial
        have v1 := trivial
        have v2 := trivial
        have v3 := trivial
        have EC := hide (show cwA ((M.setP n m ((q : Int), true)).setF q (1, x)) (some ⟨gs, 0, none⟩) cs2 (some ⟨gf, 0, none⟩) cf2 = cwA M (some ⟨gs, 0, none⟩) cs2 (some ⟨gf, 0, none⟩) cf2 from (cwA_setF _ _ _ _ _ _ _).trans (cwA_setP _ _ _ _ _ _ _ _))
        clear p0 p1 v1 v2 v3 v0
        obtain ⟨v0, v1, v2, v3⟩ := box4 V.out
        obtain ⟨y0, y1, y2, y3⟩ := box4 Y.out
        have z0 := Y.out.frozen 0
        have z1 := Y.out.frozen 1
        have z2 := Y.out.frozen 2
        have z3 := Y.out.frozen 3
        go_wp2
        refine ret_c2 Try.results27 rfl rfl rfl (box4s Y.out) ⟨some ⟨gs, 0, none⟩, cs2, some ⟨gf, 0, none⟩, cf2, ?_, ?_, K.out.trans (kp4 Y.out GG.out.2 _ _ _ _).below⟩
        · rw [E.out]
          have e := EC.out
          unfold cwA at e
          rw [e]; rfl
        · rw [E.out]; exact (O.out.setCells4 Y.out GG.out.2 _ _ _ _).toIn
      · have NI := hide (show ¬ inG M n m from fun hi => by have := hi.2; rw [FEQ.out, Int.toNat_natCast, CEQ.out] at this; exact h2 this)
        have hb2 : (c == 1) = false := by simpa using h2
        refine wp_region_noPanic ?_
        refine wp_region_held_drew (S := (fun W => W.cell? ⟨gp, m * 2, none⟩ = some (.int .i64 (q : Int)) ∧ W.cell? ⟨g3, 2, none⟩ = some (.slice (some ⟨gf, 0, none⟩) M.fr.length cf2) ∧ W.cell? ⟨gf, q * 2, none⟩ = some (.int .i64 c))) (by kernel_rfl) ?_ (fun hHeld => ?_)
        · exact ⟨p0, v2, f0⟩
        refine wpAnyH_take (i := 0) (oi := ⟨some 32, _, _, _, _, _⟩) (v := ?_) rfl (by kernel_rfl) (by kernel_rfl) (by kernel_rfl) (fun _ _ _ h => h) (Or.inl ⟨by kernel_rfl, ?_⟩) (by assumption) ?_
        rotate_left 1
        · (intro w hSw; (try dsimp only at hSw); go_simp) <;> (with_reducible rfl)
        (try simp only [Act.put, List.setIfInBounds_toArray, List.set_cons_succ, List.set_cons_zero])
        refine wpAnyH_take (i := 1) (oi := ⟨some 33, _, _, _, _, _⟩) (v := ?_) rfl (by kernel_rfl) (by kernel_rfl) (by kernel_rfl) (fun _ _ _ h => h) (Or.inl ⟨by kernel_rfl, ?_⟩) (by assumption) ?_
        rotate_left 1
        · (intro w hSw; (try dsimp only at hSw); go_simp) <;> (with_reducible rfl)
        (try simp only [Act.put, List.setIfInBounds_toArray, List.set_cons_succ, List.set_cons_zero])
        refine wpAnyH_take (i := 2) (oi := ⟨some 34, _, _, _, _, _⟩) (v := ?_) rfl (by kernel_rfl) (by kernel_rfl) (by kernel_rfl) (fun _ _ _ h => h) (Or.inl ⟨by kernel_rfl, ?_⟩) (by assumption) ?_
        rotate_left 1
        · (intro w hSw; (try dsimp only at hSw); go_simp) <;> (with_reducible rfl)
        (try simp only [Act.put, List.setIfInBounds_toArray, List.set_cons_succ, List.set_cons_zero])
        refine wpAnyH_take (i := 3) (oi := ⟨some 35, _, _, _, _, _⟩) (v := ?_) rfl (by kernel_rfl) (by kernel_rfl) (by kernel_rfl) (fun _ _ _ h => h) (Or.inl ⟨by kernel_rfl, ?_⟩) (by assumption) ?_
        rotate_left 1
        · (intro w hSw; (try dsimp only at hSw); go_simp) <;> (with_reducible rfl)
        (try simp only [Act.put, List.setIfInBounds_toArray, List.set_cons_succ, List.set_cons_zero])
        refine wpAnyH_take (i := 4) (oi := ⟨some 36, _, _, _, _, _⟩) (v := ?_) rfl (by kernel_rfl) (by kernel_rfl) (by kernel_rfl) (fun _ _ _ h => h) (Or.inl ⟨by kernel_rfl, ?_⟩) (by assumption) ?_
        rotate_left 1
        · (intro w hSw; (try dsimp only at hSw); go_simp) <;> (with_reducible rfl)
        (try simp only [Act.put, List.setIfInBounds_toArray, List.set_cons_succ, List.set_cons_zero])
        refine wpAnyH_take (i := 5) (oi := ⟨some 37, _, _, _, _, _⟩) (v := ?_) rfl (by kernel_rfl) (by kernel_rfl) (by kernel_rfl) (fun _ _ _ h => h) (Or.inl ⟨by kernel_rfl, ?_⟩) (by assumption) ?_
        rotate_left 1
        · (intro w hSw; (try dsimp only at hSw); go_simp) <;> (with_reducible rfl)
        (try simp only [Act.put, List.setIfInBounds_toArray, List.set_cons_succ, List.set_cons_zero])
        refine wpAnyH_take (i := 6) (oi := ⟨some 38, _, _, _, _, _⟩) (v := ?_) rfl (by kernel_rfl) (by kernel_rfl) (by kernel_rfl) (fun _ _ _ h => h) (Or.inl ⟨by kernel_rfl, ?_⟩) (by assumption) ?_
        rotate_left 1
        · (intro w hSw; (try dsimp only at hSw); go_simp) <;> (with_reducible rfl)
        (try simp only [Act.put, List.setIfInBounds_toArray, List.set_cons_succ, List.set_cons_zero])
        refine wpAnyH_take (i := 7) (oi := ⟨some 39, _, _, _, _, _⟩) (v := ?_) rfl (by kernel_rfl) (by kernel_rfl) (by kernel_rfl) (fun _ _ _ h => h) (Or.inl ⟨by kernel_rfl, ?_⟩) (by assumption) ?_
        rotate_left 1
        · (intro w hSw; (try dsimp only at hSw); go_simp) <;> (with_reducible rfl)
        (try simp only [Act.put, List.setIfInBounds_toArray, List.set_cons_succ, List.set_cons_zero])
        refine wpAnyH_take (i := 8) (oi := ⟨some 40, _, _, _, _, _⟩) (v := ?_) rfl (by kernel_rfl) (by kernel_rfl) (by kernel_rfl) (fun _ _ _ h => h) (Or.inl ⟨by kernel_rfl, ?_⟩) (by assumption) ?_
        rotate_left 1
        · (intro w hSw; (try dsimp only at hSw); go_simp) <;> (with_reducible rfl)
        (try simp only [Act.put, List.setIfInBounds_toArray, List.set_cons_succ, List.set_cons_zero])
        refine wpAnyH_take (i := 9) (oi := ⟨some 41, _, _, _, _, _⟩) (v := ?_) rfl (by kernel_rfl) (by kernel_rfl) (by kernel_rfl) (fun _ _ _ h => h) (Or.inl ⟨by kernel_rfl, ?_⟩) (by assumption) ?_
        rotate_left 1
        · (intro w hSw; (try dsimp only at hSw); go_simp) <;> (with_reducible rfl)
        (try simp only [Act.put, List.setIfInBounds_toArray, List.set_cons_succ, List.set_cons_zero])
        refine wpAnyH_take (i := 10) (oi := ⟨some 42, _, _, _, _, _⟩) (v := ?_) rfl (by kernel_rfl) (by kernel_rfl) (by kernel_rfl) (fun _ _ _ h => h) (Or.inl ⟨by kernel_rfl, ?_⟩) (by assumption) ?_
        rotate_left 1
        · (intro w hSw; (try dsimp only at hSw); go_simp) <;> (with_reducible rfl)
        (try simp only [Act.put, List.setIfInBounds_toArray, List.set_cons_succ, List.set_cons_zero])
        refine wpAnyH_take (i := 11) (oi := ⟨some 43, _, _, _, _, _⟩) (v := ?_) rfl (by kernel_rfl) (by kernel_rfl) (by kernel_rfl) (fun _ _ _ h => h) (Or.inl ⟨by kernel_rfl, ?_⟩) (by assumption) ?_
        rotate_left 1
        · (intro w hSw; (try dsimp only at hSw); go_simp) <;> (with_reducible rfl)
        (try simp only [Act.put, List.setIfInBounds_toArray, List.set_cons_succ, List.set_cons_zero])
        refine wpAnyH_take (i := 12) (oi := ⟨some 44, _, _, _, _, _⟩) (v := ?_) rfl (by kernel_rfl) (by kernel_rfl) (by kernel_rfl) (fun _ _ _ h => h) (Or.inl ⟨by kernel_rfl, ?_⟩) (by assumption) ?_
        rotate_left 1
        · (intro w hSw; (try dsimp only at hSw); go_simp) <;> (with_reducible rfl)
        (try simp only [Act.put, List.setIfInBounds_toArray, List.set_cons_succ, List.set_cons_zero])
        refine wpAnyH_take (i := 13) (oi := ⟨some 45, _, _, _, _, _⟩) (v := ?_) rfl (by kernel_rfl) (by kernel_rfl) (by kernel_rfl) (fun _ _ _ h => h) (Or.inl ⟨by kernel_rfl, ?_⟩) (by assumption) ?_
        rotate_left 1
        · (intro w hSw; (try dsimp only at hSw); go_simp) <;> (with_reducible rfl)
        (try simp only [Act.put, List.setIfInBounds_toArray, List.set_cons_succ, List.set_cons_zero])
        refine wpAnyH_take (i := 14) (oi := ⟨some 46, _, _, _, _, _⟩) (v := ?_) rfl (by kernel_rfl) (by kernel_rfl) (by kernel_rfl) (fun _ _ _ h => h) (Or.inl ⟨by kernel_rfl, ?_⟩) (by assumption) ?_
        rotate_left 1
        · (intro w hSw; (try dsimp only at hSw); go_simp) <;> (with_reducible rfl)
        (try simp only [Act.put, List.setIfInBounds_toArray, List.set_cons_succ, List.set_cons_zero])
        refine wpAnyH_take (i := 15) (oi := ⟨some 47, _, _, _, _, _⟩) (v := ?_) rfl (by kernel_rfl) (by kernel_rfl) (by kernel_rfl) (fun _ _ _ h => h) (Or.inl ⟨by kernel_rfl, ?_⟩) (by assumption) ?_
        rotate_left 1
        · (intro w hSw; (try dsimp only at hSw); go_simp) <;> (with_reducible rfl)
        (try simp only [Act.put, List.setIfInBounds_toArray, List.set_cons_succ, List.set_cons_zero])
        refine wpAnyH_take (i := 16) (oi := ⟨some 48, _, _, _, _, _⟩) (v := ?_) rfl (by kernel_rfl) (by kernel_rfl) (by kernel_rfl) (fun _ _ _ h => h) (Or.inl ⟨by kernel_rfl, ?_⟩) (by assumption) ?_
        rotate_left 1
        · (intro w hSw; (try dsimp only at hSw); go_simp) <;> (with_reducible rfl)
        (try simp only [Act.put, List.setIfInBounds_toArray, List.set_cons_succ, List.set_cons_zero])
        refine wpAnyH_done (by kernel_rfl) ?_ _
        refine NoPanic.normal ?_
        replace O := hide (O.out.below (below_drewN (brefl w3) 1))
        replace V := hide (V.out.below (below_drewN (brefl w3) 1))
        replace Y := hide (Y.out.below (below_drewN (brefl w3) 1))
        replace K := hide (btrans K.out (below_drewN (brefl w3) 1))
        change Hid (OwM _ w3.drew _ _ _ _ _ _) at O
        change Hid (Box w3.drew _ _ _) at V
        change Hid (Box w3.drew _ _ _) at Y
        change Hid (Below _ _ w3.drew) at K

        change World.cell? w3.drew _ = _ at p0
        change World.cell? w3.drew _ = _ at p1
        change World.cell? w3.drew _ = _ at v0
        change World.cell? w3.drew _ = _ at v1
        change World.cell? w3.drew _ = _ at v2
        change World.cell? w3.drew _ = _ at v3
        generalize w3.drew = w4 at *
        clear f0 hb2 h2
        clear p0 p1 v0 v1 v3
        rcases hfr : frI M.fr with _ | k
        · have HN := hide (frI_none hfr)
          have E := hide (E.out.trans (show wrM M n m x = (zeroM, 16) by unfold wrM; rw [if_neg NI.out, hfr]))
          have RF := hide (O.out.toIn.rf)
          have LL : M.fr.length ≤ 1000 := by omega
          clear hfr
          go_wp2_with fail
          refine (idx_miss _ M.fr cf2 _ RF.out LL HN.out).mono ?_
          rintro e w6 ⟨rfl, hb⟩
          replace O := hide (O.out.below hb)
          replace V := hide (V.out.below hb)
          replace Y := hide (Y.out.below hb)
          replace K := hide (btrans K.out hb)
          clear hb v2 LL
          obtain ⟨y0, y1, y2, y3⟩ := box4 Y.out
          have z0 := Y.out.frozen 0
          have z1 := Y.out.frozen 1
          have z2 := Y.out.frozen 2
          have z3 := Y.out.frozen 3
          go_wp2
          refine ret_c2 Try.results27 rfl rfl rfl (box4s Y.out) ⟨none, 0, none, 0, ?_, ?_, K.out.trans (kp4 Y.out GG.out.2 _ _ _ _).below⟩
          · rw [E.out]; rfl
          · rw [E.out]; exact zero_in _
        · obtain ⟨kl, k0, kb⟩ := frI_some hfr
          have FL := hide kl
          have E := hide (E.out.trans (show wrM M n m x = (((lessG M (pAt (sAt M.sp n).2 m).1).setP n m ((k : Int), true)).setF k (1, x), 0) by unfold wrM; rw [if_neg NI.out, hfr]))
          have RF := hide (O.out.toIn.rf)
          have KZ := hide k0
          have KB := hide kb
          have LL : M.fr.length ≤ 1000 := by omega
          have kk0 : (0 : Int) ≤ (k : Int) := by omega
          have kk1 : (k : Int) < (M.fr.length : Int) := by omega
          clear hfr k0 kb
          go_wp2_with fail
          refine (idx_hit _ M.fr cf2 k _ RF.out LL kl KZ.out KB.out).mono ?_
          rintro e w6 ⟨rfl, hb⟩
          replace O := hide (O.out.below hb)
          replace V := hide (V.out.below hb)
          replace Y := hide (Y.out.below hb)
          replace K := hide (btrans K.out hb)
          clear hb v2 LL
          obtain ⟨v0, v1, v2, v3⟩ := box4 V.out
          obtain ⟨gp2, cp3, ev2, _, _, p0, p1, zp⟩ := O.out.page hn (by rw [← HLN.out]; exact hm)
          have eg : gp = gp2 := by
            have := EV.out.symm.trans ev2
            injection this with this; injection this with this; injection this with this
          subst eg
          rw [FEQ.out] at p0
          clear zp ev2
          have E := hide (E.out.trans (show (((lessG M (pAt (sAt M.sp n).2 m).1).setP n m ((k : Int), true)).setF k (1, x), (0 : Int)) = (((Cow.setF { M with cp := if 1048576 < M.cp + 1 then 1048576 else M.cp + 1 } q ((fAt M.fr q).1 - 1, (fAt M.fr q).2)).setP n m ((k : Int), true)).setF k (1, x), 0) by rw [FEQ.out]; unfold lessG; rw [if_neg (by omega), Int.toNat_natCast]))
          rw [CEQ.out] at E
          go_upto_region 14 with fail
          refine wp_region_noPanic ?_
          refine wp_region_held_drew (S := (fun W => W.cell? ⟨g3, 2, none⟩ = some (.slice (some ⟨gf, 0, none⟩) M.fr.length cf2) ∧ W.cell? ⟨gp, m * 2, none⟩ = some (.int .i64 (q : Int)))) (by kernel_rfl) ?_ (fun hHeld => ?_)
          · first | exact ⟨v2, p0⟩ | exact KS.out
          replace O := hide (O.out.below (below_drewN (brefl w6) 1))
          replace V := hide (V.out.below (below_drewN (brefl w6) 1))
          replace Y := hide (Y.out.below (below_drewN (brefl w6) 1))
          replace K := hide (btrans K.out (below_drewN (brefl w6) 1))
          change Hid (OwM _ w6.drew _ _ _ _ _ _) at O
          change Hid (Box w6.drew _ _ _) at V
          change Hid (Box w6.drew _ _ _) at Y
          change Hid (Below _ _ w6.drew) at K
          change World.cell? w6.drew _ = _ at p0
          change World.cell? w6.drew _ = _ at v2
          clear v0 v1 v3 p1
          generalize w6.drew = w7 at *
          obtain ⟨gf2, egf, _, _, f0, f1, zf⟩ := O.out.frame (k := q) hq
          injection egf with egf; injection egf with egf
          subst egf
          rw [CEQ.out] at f0
          have zf0 := zf (q * 2)
          clear zf f1
          have ON := hide (O.out.setF0 hq (c - 1))
          have SN := hide (O.out.sideF (q * 2) (.int .i64 (c - 1)))
          have VN := hide (SN.out.box _ _ V.out)
          have YN := hide (SN.out.box _ _ Y.out)
          have KN := hide (K.out.trans SN.out.below)
          have KS := hide (And.intro (VN.out.cell 2) ((O.out.pcell (n := n) (gp := gp) hn EV.out (q * 2) (m * 2) (.int .i64 (c - 1))).trans p0))
          have wc : IntKind.i64.wrap (c - 1) = c - 1 := by rw [IntKind.wrap_i64]; omega

          refine wpAnyH_take (i := 0) (oi := ⟨some 73, _, _, _, _, _⟩) (v := ?_) rfl (by kernel_rfl) (by kernel_rfl) (by kernel_rfl) (fun _ _ _ h => h) (Or.inl ⟨by kernel_rfl, ?_⟩) (by assumption) ?_
          rotate_left 1
          · (intro w hSw; (try dsimp only at hSw); go_simp) <;> (with_reducible rfl)
          (try simp only [Act.put, List.setIfInBounds_toArray, List.set_cons_succ, List.set_cons_zero])
          refine wpAnyH_take (i := 1) (oi := ⟨some 74, _, _, _, _, _⟩) (v := ?_) rfl (by kernel_rfl) (by kernel_rfl) (by kernel_rfl) (fun _ _ _ h => h) (Or.inl ⟨by kernel_rfl, ?_⟩) (by assumption) ?_
          rotate_left 1
          · (intro w hSw; (try dsimp only at hSw); go_simp) <;> (with_reducible rfl)
          (try simp only [Act.put, List.setIfInBounds_toArray, List.set_cons_succ, List.set_cons_zero])
          refine wpAnyH_take (i := 2) (oi := ⟨some 75, _, _, _, _, _⟩) (v := ?_) rfl (by kernel_rfl) (by kernel_rfl) (by kernel_rfl) (fun _ _ _ h => h) (Or.inl ⟨by kernel_rfl, ?_⟩) (by assumption) ?_
          rotate_left 1
          · (intro w hSw; (try dsimp only at hSw); go_simp) <;> (with_reducible rfl)
          (try simp only [Act.put, List.setIfInBounds_toArray, List.set_cons_succ, List.set_cons_zero])
          refine wpAnyH_take (i := 3) (oi := ⟨some 76, _, _, _, _, _⟩) (v := ?_) rfl (by kernel_rfl) (by kernel_rfl) (by kernel_rfl) (fun _ _ _ h => h) (Or.inl ⟨by kernel_rfl, ?_⟩) (by assumption) ?_
          rotate_left 1
          · (intro w hSw; (try dsimp only at hSw); go_simp) <;> (with_reducible rfl)
          (try simp only [Act.put, List.setIfInBounds_toArray, List.set_cons_succ, List.set_cons_zero])
          refine wpAnyH_take (i := 4) (oi := ⟨some 77, _, _, _, _, _⟩) (v := ?_) rfl (by kernel_rfl) (by kernel_rfl) (by kernel_rfl) (fun _ _ _ h => h) (Or.inl ⟨by kernel_rfl, ?_⟩) (by assumption) ?_
          rotate_left 1
          · (intro w hSw; (try dsimp only at hSw); go_simp) <;> (with_reducible rfl)
          (try simp only [Act.put, List.setIfInBounds_toArray, List.set_cons_succ, List.set_cons_zero])
          refine wpAnyH_take (i := 5) (oi := ⟨some 78, _, _, _, _, _⟩) (v := ?_) rfl (by kernel_rfl) (by kernel_rfl) (by kernel_rfl) (fun _ _ _ h => h) (Or.inl ⟨by kernel_rfl, ?_⟩) (by assumption) ?_
          rotate_left 1
          · (intro w hSw; (try dsimp only at hSw); go_simp) <;> (with_reducible rfl)
          (try simp only [Act.put, List.setIfInBounds_toArray, List.set_cons_succ, List.set_cons_zero])
          refine wpAnyH_take (i := 6) (oi := ⟨some 79, _, _, _, _, _⟩) (v := ?_) rfl (by kernel_rfl) (by kernel_rfl) (by kernel_rfl) (fun _ _ _ h => h) (Or.inl ⟨by kernel_rfl, ?_⟩) (by assumption) ?_
          rotate_left 1
          · (intro w hSw; (try dsimp only at hSw); go_simp) <;> (with_reducible rfl)
          (try simp only [Act.put, List.setIfInBounds_toArray, List.set_cons_succ, List.set_cons_zero])
          refine wpAnyH_take (i := 7) (oi := ⟨some 80, _, _, _, _, _⟩) (v := ?_) rfl (by kernel_rfl) (by kernel_rfl) (by kernel_rfl) (fun _ _ _ h => h) (Or.inl ⟨by kernel_rfl, ?_⟩) (by assumption) ?_
          rotate_left 1
          · (intro w hSw; (try dsimp only at hSw); go_simp) <;> (with_reducible rfl)
          (try simp only [Act.put, List.setIfInBounds_toArray, List.set_cons_succ, List.set_cons_zero])
          refine wpAnyH_ready (rs := [8]) (by kernel_rfl) (by simp) ?_
          refine AllReadyH.cons (o := _) rfl (fun K' hK => ?_) AllReadyH.nil
          go_simp
          refine hK.out _ _ ?_ (fun hHeld => ?_)
          · first | exact ⟨v2, p0⟩ | exact KS.out
          clear hK K'
          (try simp only [Act.put, List.setIfInBounds_toArray, List.set_cons_succ, List.set_cons_zero])
          refine wpAnyH_take (i := 9) (oi := ⟨some 82, _, _, _, _, _⟩) (v := ?_) rfl (by kernel_rfl) (by kernel_rfl) (by kernel_rfl) (fun _ _ _ h => h) (Or.inl ⟨by kernel_rfl, ?_⟩) (by assumption) ?_
          rotate_left 1
          · (intro w hSw; (try dsimp only at hSw); go_simp) <;> (with_reducible rfl)
          (try simp only [Act.put, List.setIfInBounds_toArray, List.set_cons_succ, List.set_cons_zero])
          refine wpAnyH_take (i := 10) (oi := ⟨some 83, _, _, _, _, _⟩) (v := ?_) rfl (by kernel_rfl) (by kernel_rfl) (by kernel_rfl) (fun _ _ _ h => h) (Or.inl ⟨by kernel_rfl, ?_⟩) (by assumption) ?_
          rotate_left 1
          · (intro w hSw; (try dsimp only at hSw); go_simp) <;> (with_reducible rfl)
          (try simp only [Act.put, List.setIfInBounds_toArray, List.set_cons_succ, List.set_cons_zero])
          refine wpAnyH_take (i := 11) (oi := ⟨some 84, _, _, _, _, _⟩) (v := ?_) rfl (by kernel_rfl) (by kernel_rfl) (by kernel_rfl) (fun _ _ _ h => h) (Or.inl ⟨by kernel_rfl, ?_⟩) (by assumption) ?_
          rotate_left 1
          · (intro w hSw; (try dsimp only at hSw); go_simp) <;> (with_reducible rfl)
          (try simp only [Act.put, List.setIfInBounds_toArray, List.set_cons_succ, List.set_cons_zero])
          refine wpAnyH_ready (rs := [12]) (by kernel_rfl) (by simp) ?_
          refine AllReadyH.cons (o := _) rfl (fun K' hK => ?_) AllReadyH.nil
          go_simp
          refine hK.out _ _ ?_ (fun hHeld => ?_)
          · first | exact ⟨v2, p0⟩ | exact KS.out
          clear hK K'
          (try simp only [Act.put, List.setIfInBounds_toArray, List.set_cons_succ, List.set_cons_zero])
          refine wpAnyH_done (by kernel_rfl) ?_ _
          refine NoPanic.normal ?_
          clear KS wc
          clear O V Y K SN
          have O := ON
          have V := VN
          have Y := YN
          have K := KN
          clear ON VN YN KN
          clear p0 v2 f0 zf0
          generalize World.setCell _ ⟨gf, q * 2, none⟩ (.int .i64 (c - 1)) = w8 at *
          obtain ⟨v0, v1, v2, v3⟩ := box4 V.out
          have zv := V.out.frozen 3
          have lc0 := L4.out.1
          have lc1 := L4.out.2
          have wp : IntKind.i64.wrap (M.cp + 1) = M.cp + 1 := by rw [IntKind.wrap_i64]; omega
          go_upto_region 16 with fail
          clear v0 v1 v2 v3 zv lc0 lc1 wp
          have KB := Kp.boxset (B := w.heap.size) V.out G4.out 3 (.int .i64 (if 1048576 < M.cp + 1 then 1048576 else M.cp + 1))
          have O := hide (show OwM w.heap.size (w8.setCell ⟨g3, 3, none⟩ (.int .i64 (if 1048576 < M.cp + 1 then 1048576 else M.cp + 1))) ((Cow.setF { M with cp := if 1048576 < M.cp + 1 then 1048576 else M.cp + 1 } q (c - 1, (fAt M.fr q).2))) (some ⟨gs, 0, none⟩) cs2 (some ⟨gf, 0, none⟩) cf2 T from by
            have t := O.out.kp KB
            exact ⟨t.tl, t.fr, t.sp, t.lv, t.pg, t.ne⟩)
          have Y := hide (Y.out.far G3.out (b := g3) (i := 3) (.int .i64 (if 1048576 < M.cp + 1 then 1048576 else M.cp + 1)))
          have V := hide (V.out.put 3 (.int .i64 (if 1048576 < M.cp + 1 then 1048576 else M.cp + 1)))
          have K := hide (K.out.trans KB.below)
          clear KB
          simp only [List.setIfInBounds_toArray, List.set_cons_succ, List.set_cons_zero] at V
          have FL := hide (show k < ((Cow.setF { M with cp := if 1048576 < M.cp + 1 then 1048576 else M.cp + 1 } q (c - 1, (fAt M.fr q).2))).fr.length by rw [setF_len]; exact FL.out)
          have l3' := l3
          obtain ⟨v0, v1, v2, v3⟩ := box4 V.out
          generalize w8.setCell ⟨g3, 3, none⟩ (.int .i64 (if 1048576 < M.cp + 1 then 1048576 else M.cp + 1)) = w9 at *
          generalize (if 1048576 < M.cp + 1 then 1048576 else M.cp + 1) = cn at *
          have NN := hide (show n < ((Cow.setF { M with cp := cn } q (c - 1, (fAt M.fr q).2))).sp.length from hn)
          have MM := hide (show m < (sAt ((Cow.setF { M with cp := cn } q (c - 1, (fAt M.fr q).2))).sp n).2.length from (by rw [← HLN.out]; exact hm : m < (sAt M.sp n).2.length))
          have EV2 := hide (show (tAt T n).2 = .slice (some ⟨gp, 0, none⟩) (sAt ((Cow.setF { M with cp := cn } q (c - 1, (fAt M.fr q).2))).sp n).2.length cp2 from EV.out)
          have KK2 := hide (show k < (((Cow.setF { M with cp := cn } q (c - 1, (fAt M.fr q).2))).setP n m ((k : Int), true)).fr.length from (FL.out : k < ((Cow.setF { M with cp := cn } q (c - 1, (fAt M.fr q).2))).fr.length))
          clear v0 v1 v2 v3
          obtain ⟨gp2, cp3, ev2, _, _, p0, p1, zp⟩ := O.out.page (n := n) (m := m) NN.out MM.out
          have eg : gp = gp2 := by
            have := EV2.out.symm.trans ev2
            injection this with this; injection this with this; injection this with this
          subst eg
          have zp0 := zp (m * 2)
          have zp1 := zp (m * 2 + 1)
          clear zp ev2
          have ON := hide (O.out.setPP (n := n) (m := m) NN.out MM.out EV2.out (k : Int) true)
          have SN := hide (O.out.sideP2 (n := n) (m := m) NN.out MM.out EV2.out (k : Int) true)
          have VN := hide (SN.out.box _ _ V.out)
          have YN := hide (SN.out.box _ _ Y.out)
          have KN := hide (K.out.trans SN.out.below)
          go_upto_region 17 with fail
          clear O V Y K SN
          have O := ON
          have V := VN
          have Y := YN
          have K := KN
          clear ON VN YN KN
          clear p0 p1 zp0 zp1
          generalize World.setCell _ ⟨gp, m * 2 + 1, none⟩ (.bool true) = wy at *
          obtain ⟨gf3, egf, _, _, f0, f1, zf⟩ := O.out.frame (k := k) KK2.out
          injection egf with egf; injection egf with egf
          subst egf
          have zf0 := zf (k * 2)
          have zf1 := zf (k * 2 + 1)
          clear zf
          obtain ⟨v0, v1, v2, v3⟩ := box4 V.out
          have ON := hide (O.out.setFF (k := k) KK2.out 1 x)
          have SN := hide (O.out.sideF2 (k := k) KK2.out 1 x)
          have VN := hide (SN.out.box _ _ V.out)
          have YN := hide (SN.out.box _ _ Y.out)
          have KN := hide (K.out.trans SN.out.below)
          go_upto_region 18 with fail
          clear f0 f1 zf0 zf1
          clear O V Y K SN
          have O := ON
          have V := VN
          have Y := YN
          have K := KN
          clear ON VN YN KN
          generalize World.setCell _ ⟨gf, k * 2 + 1, none⟩ (.int .i64 x) = wx at *
          have p0 := trivial
          have p1 := trivial
          have EC := hide (show cwA ((((Cow.setF { M with cp := cn } q (c - 1, (fAt M.fr q).2))).setP n m ((k : Int), true)).setF k (1, x)) (some ⟨gs, 0, none⟩) cs2 (some ⟨gf, 0, none⟩) cf2 = cwA ({ M with cp := cn }) (some ⟨gs, 0, none⟩) cs2 (some ⟨gf, 0, none⟩) cf2 from (cwA_setF _ _ _ _ _ _ _).trans ((cwA_setP _ _ _ _ _ _ _ _).trans (cwA_setF _ _ _ _ _ _ _)))
          clear p0 p1 v1 v2 v3 v0
          obtain ⟨v0, v1, v2, v3⟩ := box4 V.out
          obtain ⟨y0, y1, y2, y3⟩ := box4 Y.out
          have z0 := Y.out.frozen 0
          have z1 := Y.out.frozen 1
          have z2 := Y.out.frozen 2
          have z3 := Y.out.frozen 3
          go_wp2
          refine ret_c2 Try.results27 rfl rfl rfl (box4s Y.out) ⟨some ⟨gs, 0, none⟩, cs2, some ⟨gf, 0, none⟩, cf2, ?_, ?_, K.out.trans (kp4 Y.out GG.out.2 _ _ _ _).below⟩
          · rw [E.out]
            have e := EC.out
            unfold cwA at e
            rw [e]; rfl
          · rw [E.out]; exact (O.out.setCells4 Y.out GG.out.2 _ _ _ _).toIn
end Go.Proofs.Ytoogdggiemacjaa.Cw
