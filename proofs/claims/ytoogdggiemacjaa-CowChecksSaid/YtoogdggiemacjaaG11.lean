import Derived.Test.YtoogdggiemacjaaG10
import Derived.Test.YtoogdggiemacjaaG6
import Derived.Test.YtoogdggiemacjaaF12
namespace Go.Proofs.Ytoogdggiemacjaa.Cw
open Go Go.RowKit
set_option linter.unusedVariables false
set_option linter.unusedSimpArgs false
set_option maxRecDepth 100000 in
set_option maxHeartbeats 32000000 in
theorem rwrite_any (M : Cow) (As Af : Option Addr) (cs cf : Nat) (s p x : Int) (w : World) (h : CwIn w M As cs Af cf) (hB : Big M) : Calls Try.prog 34 #[.agg (cwA M As cs Af cf), .int .i64 s, .int .i64 p, .int .i64 x] w (Res w (wrG1 M s p x).1 (wrG1 M s p x).2) := by
  have PA := hide (page_at (M := M) (s := s) (p := p))
  have E0 := hide (fun hn : cpE M s p ≠ 0 => show wrG1 M s p x = (zeroM, cpE M s p) from if_pos hn)
  have E1 := hide (fun hn : cpE M s p = 0 => show wrG1 M s p x = wrM M s.toNat p.toNat x from if_neg (fun g => g hn))
  unfold Res
  obtain ⟨W0, hW0⟩ : ∃ W0, W0 = (w.alloc (.cells (cwA M As cs Af cf) 28)).alloc (.cells #[.int .i64 0, .slice none 0 0, .slice none 0 0, .int .i64 0] 28) := ⟨_, rfl⟩
  have K := hide (show Below w.heap.size w W0 by rw [hW0]; exact bal (bal (brefl w) _) _)
  have X := hide (show Box W0 w.heap.size 28 (cwA M As cs Af cf) by rw [hW0]; exact (Box.new w 28 _).more _)
  have Y := hide (show Box W0 (w.heap.size + 1) 28 #[.int .i64 0, .slice none 0 0, .slice none 0 0, .int .i64 0] by rw [hW0]; exact Box.new2 _ _ _ _)
  have IN := hide h
  have CK := hide (fun w' => fun hb : Below w.heap.size w w' => rplace_any M As Af cs cf s p w' (h.below hb) hB)
  have RF := hide (fun w' => fun hb : Below w.heap.size w w' => rfree_any M As Af cs cf w' (h.below hb) hB)
  have CL := hide (fun w' => fun hb : Below w.heap.size w w' => copy_any M As Af cs cf w' (h.below hb))
  clear h hB
  unfold cwA at X hW0 CK CL RF ⊢
  generalize cpE M s p = ec at *
  go_enter Try.func34, Try.ntmps34
  go_upto_region 1 with fail
  rw [← hW0]
  clear hW0
  obtain ⟨g2, hg2⟩ : ∃ g, g = w.heap.size + 1 := ⟨_, rfl⟩
  obtain ⟨g, hg⟩ : ∃ g, g = w.heap.size := ⟨_, rfl⟩
  have GN := hide (show g ≠ g2 by omega)
  have GG := hide (show w.heap.size ≤ g ∧ w.heap.size ≤ g2 by omega)
  rw [← hg2, ← hg]
  rw [← hg2] at Y
  rw [← hg] at X
  clear hg2 hg
  obtain ⟨x0, x1, x2, x3⟩ := box4 X.out
  go_wp2_with fail
  refine (CK.out _ K.out).mono ?_
  rintro e w1 ⟨rfl, hb⟩
  replace X := hide (X.out.below hb)
  replace Y := hide (Y.out.below hb)
  replace K := hide (btrans K.out hb)
  clear hb x0 x1 x2 x3 CK
  obtain ⟨x0, x1, x2, x3⟩ := box4 X.out
  by_cases h1 : ec = 0
  case neg =>
    have E := hide (E0.out h1)
    obtain ⟨y0, y1, y2, y3⟩ := box4 Y.out
    have z0 := Y.out.frozen 0
    have z1 := Y.out.frozen 1
    have z2 := Y.out.frozen 2
    have z3 := Y.out.frozen 3
    go_wp2
    have KK := kp4 Y.out GG.out.2 (.int .i64 0) (.slice none 0 0) (.slice none 0 0) (.int .i64 0)
    refine ret_c2 Try.results34 rfl rfl rfl (box4s Y.out) ⟨none, 0, none, 0, ?_, ?_, K.out.trans KK.below⟩
    · rw [E.out]; rfl
    · rw [E.out]; exact zero_in _
  case pos =>
    obtain ⟨n, m, rfl, rfl, hn, hm, hl, hz, hg, hsz, hfm, hst, -⟩ := PA.out h1
    subst h1
    have E := hide (E1.out rfl)
    rw [Int.toNat_natCast, Int.toNat_natCast] at E
    have HSZ := hide hsz
    have HPL := hide (plen hsz hfm)
    have HCB := hide (cbound hsz hfm hst)
    have l1 : M.sp.length ≤ 8 := hsz.2.1.2
    have l2 := HPL.out n hn
    have l3 : M.fr.length ≤ 256 := hsz.2.2.1.2
    have l4 : 0 ≤ M.cp ∧ M.cp ≤ 1048576 := hsz.2.2.2
    have L4 := hide l4
    clear E0 E1 PA hst hfm hsz hl hz l4
    go_wp2_with fail
    refine (CL.out _ K.out (by have := HSZ.out.2.1.2; omega) (by have := HSZ.out.2.2.1.2; omega) (fun k hk => by have := HPL.out k hk; omega)).mono ?_
    rintro e w2 ⟨As2, cs2, Af2, cf2, T, rfl, hO, hb⟩
    replace X := hide (X.out.below hb)
    replace Y := hide (Y.out.below hb)
    have GS := hide (show g2 < w2.heap.size from Y.out.lt)
    have GB := hide (show w.heap.size ≤ w1.heap.size from K.out.size)
    replace K := hide (btrans K.out hb)
    have O := hide hO
    clear hO hb x0 x1 x2 x3 CL
    have M3 := bal (brefl w2) (.cells #[.int .i64 M.sz, .slice As2 M.sp.length cs2, .slice Af2 M.fr.length cf2, .int .i64 M.cp] 28)
    have V := hide (Box.new w2 28 #[.int .i64 M.sz, .slice As2 M.sp.length cs2, .slice Af2 M.fr.length cf2, .int .i64 M.cp])
    replace X := hide (X.out.below M3)
    replace Y := hide (Y.out.below M3)
    replace O := hide (O.out.below M3)
    replace K := hide (btrans K.out M3)
    clear M3
    go_upto_region 5 with fail
    obtain ⟨g3, hg3⟩ : ∃ g, g = w2.heap.size := ⟨_, rfl⟩
    have G3 := hide (show g2 ≠ g3 by have := GS.out; omega)
    have G4 := hide (show w.heap.size ≤ g3 by have := GS.out; have := GG.out.2; omega)
    rw [← hg3] at V ⊢
    clear hg3
    generalize w2.alloc (.cells #[.int .i64 M.sz, .slice As2 M.sp.length cs2, .slice Af2 M.fr.length cf2, .int .i64 M.cp] 28) = w3 at *
    replace O := hide (O.out.mono1 GB.out)
    obtain ⟨gs, eA, _, _, _, s1, _⟩ := O.out.space hn
    obtain ⟨gp, cp2, ev, gpl, _, p0, p1, zp⟩ := O.out.page hn hm
    obtain ⟨gf, eF, gfl, _⟩ := O.out.frame (k := 0) (by have := HSZ.out.2.2.1.1; omega)
    have gvl : g3 < w3.heap.size := V.out.lt
    subst eA eF
    rw [ev] at s1
    have EV := hide ev
    clear ev zp
    obtain ⟨ln, hln⟩ : ∃ ln, ln = (sAt M.sp n).2.length := ⟨_, rfl⟩
    have HLN := hide hln
    rw [← hln] at hm l2 s1
    clear hln
    have n0 : (0 : Int) ≤ (n : Int) := by omega
    have m0 : (0 : Int) ≤ (m : Int) := by omega
    have n1 : (n : Int) < (M.sp.length : Int) := by omega
    have m1 : (m : Int) < (ln : Int) := by omega
    have hpf : (pAt (sAt M.sp n).2 m).1 < 0 ∨ (0 ≤ (pAt (sAt M.sp n).2 m).1 ∧ (pAt (sAt M.sp n).2 m).1 < M.fr.length) := by
      rcases hg with e | e
      · left; rw [e]; decide
      · right; exact e
    clear hg
    obtain ⟨v0, v1, v2, v3⟩ := box4 V.out
    obtain ⟨f, hf⟩ : ∃ f, f = (pAt (sAt M.sp n).2 m).1 := ⟨_, rfl⟩
    obtain ⟨wv, hwv⟩ : ∃ wv, wv = (pAt (sAt M.sp n).2 m).2 := ⟨_, rfl⟩
    have FEQ := hide hf.symm
    rw [← hf] at p0 hpf
    rw [← hwv] at p1
    clear hf hwv
    have M4 := bal (brefl w3) (.cells #[.int .i64 f, .bool wv] 64)
    have U := hide (Box.new w3 64 #[.int .i64 f, .bool wv])
    replace X := hide (X.out.below M4)
    replace Y := hide (Y.out.below M4)
    replace V := hide (V.out.below M4)
    replace O := hide (O.out.below M4)
    replace K := hide (btrans K.out M4)
    clear M4
    go_upto_region 6 with fail
    obtain ⟨g4, hg4⟩ : ∃ g, g = w3.heap.size := ⟨_, rfl⟩
    have NP := hide (show g4 ≠ gp by omega)
    have NF := hide (show g4 ≠ gf by omega)
    have NV := hide (show g4 ≠ g3 by omega)
    rw [← hg4] at U ⊢
    clear hg4 s1 p0 p1 v0 v1 v2 v3 gpl gfl gvl
    generalize w3.alloc (.cells #[.int .i64 f, .bool wv] 64) = w4 at *
    obtain ⟨v0, v1, v2, v3⟩ := box4 V.out
    obtain ⟨u0, u1⟩ := box2 U.out
    by_cases h0 : f < 0
    · have NI := hide (show ¬ inG M n m from fun hi => by have := hi.1; rw [FEQ.out] at this; omega)
      have h0b : ¬ (0 : Int) ≤ f := by omega
      have h0c : decide ((0 : Int) ≤ f) = false := decide_eq_false h0b
      obtain ⟨x0, x1, x2, x3⟩ := box4 X.out
      rcases hfr : frI M.fr with _ | k
      · have E := hide (E.out.trans (show wrM M n m x = (zeroM, 16) by unfold wrM; rw [if_neg NI.out, hfr]))
        have RV := hide (show frV (frI M.fr) = -1 by rw [hfr]; rfl)
        rw [RV.out] at RF
        clear hfr RV
        go_wp2_with fail
        refine (RF.out _ K.out).mono ?_
        rintro e w6 ⟨rfl, hb⟩
        replace O := hide (O.out.below hb)
        replace V := hide (V.out.below hb)
        replace Y := hide (Y.out.below hb)
        replace U := hide (U.out.below hb)
        replace K := hide (btrans K.out hb)
        clear hb
        obtain ⟨y0, y1, y2, y3⟩ := box4 Y.out
        have z0 := Y.out.frozen 0
        have z1 := Y.out.frozen 1
        have z2 := Y.out.frozen 2
        have z3 := Y.out.frozen 3
        go_wp2
        refine ret_c2 Try.results34 rfl rfl rfl (box4s Y.out) ⟨none, 0, none, 0, ?_, ?_, K.out.trans (kp4 Y.out GG.out.2 _ _ _ _).below⟩
        · rw [E.out]; rfl
        · rw [E.out]; exact zero_in _
      · obtain ⟨kl, k0, kb⟩ := frI_some hfr
        have FL := hide kl
        have E := hide (E.out.trans (show wrM M n m x = (((lessG M (pAt (sAt M.sp n).2 m).1).setP n m ((k : Int), true)).setF k (1, x), 0) by unfold wrM; rw [if_neg NI.out, hfr]))
        have RV := hide (show frV (frI M.fr) = (k : Int) by rw [hfr]; rfl)
        rw [RV.out] at RF
        have kk0 : (0 : Int) ≤ (k : Int) := by omega
        have kk1 : (k : Int) < (M.fr.length : Int) := by omega
        clear hfr k0 kb RV
        go_wp2_with fail
        refine (RF.out _ K.out).mono ?_
        rintro e w6 ⟨rfl, hb⟩
        replace O := hide (O.out.below hb)
        replace V := hide (V.out.below hb)
        replace Y := hide (Y.out.below hb)
        replace U := hide (U.out.below hb)
        replace K := hide (btrans K.out hb)
        clear hb
        clear u0 u1 v0 v1 v2 v3 x0 x1 x2 x3 X RF
        obtain ⟨v0, v1, v2, v3⟩ := box4 V.out
        obtain ⟨u0, u1⟩ := box2 U.out
        have E := hide (E.out.trans (show (((lessG M (pAt (sAt M.sp n).2 m).1).setP n m ((k : Int), true)).setF k (1, x), (0 : Int)) = ((M.setF k (1, x)).setP n m ((k : Int), true), 0) by rw [FEQ.out]; unfold lessG; rw [if_pos h0]; rfl))
        go_upto_region 16 with fail
        clear v0 v1 v2 v3 u0 u1
        obtain ⟨gf3, egf, _, _, f0, f1, zf⟩ := O.out.frame (k := k) FL.out
        injection egf with egf; injection egf with egf
        subst egf
        have zf0 := zf (k * 2)
        have zf1 := zf (k * 2 + 1)
        clear zf
        obtain ⟨v0, v1, v2, v3⟩ := box4 V.out
        have ON := hide (O.out.setFF (k := k) FL.out 1 x)
        have SN := hide (O.out.sideF2 (k := k) FL.out 1 x)
        have VN := hide (SN.out.box _ _ V.out)
        have YN := hide (SN.out.box _ _ Y.out)
        have KN := hide (K.out.trans SN.out.below)
        have UN := hide ((U.out.far NF.out (b := gf) (i := k * 2) (.int .i64 1)).far NF.out (b := gf) (i := k * 2 + 1) (.int .i64 x))
        go_upto_region 17 with fail
        clear f0 f1 zf0 zf1 v0 v1 v2 v3
        clear O V Y K U SN
        have O := ON
        have V := VN
        have Y := YN
        have K := KN
        have U := UN
        clear ON VN YN KN UN
        generalize World.setCell _ ⟨gf, k * 2 + 1, none⟩ (.int .i64 x) = wx at *
        have NN := hide (show n < ((M).setF k (1, x)).sp.length from hn)
        have MM := hide (show m < (sAt ((M).setF k (1, x)).sp n).2.length from (by rw [← HLN.out]; exact hm : m < (sAt M.sp n).2.length))
        have EV2 := hide (show (tAt T n).2 = .slice (some ⟨gp, 0, none⟩) (sAt ((M).setF k (1, x)).sp n).2.length cp2 from EV.out)
        obtain ⟨gs2, eA, _, _, _, s1, _⟩ := O.out.space (n := n) NN.out
        injection eA with eA; injection eA with eA
        subst eA
        rw [EV.out, ← HLN.out] at s1
        obtain ⟨gp2, cp3, ev2, _, _, p0, p1, zp⟩ := O.out.page (n := n) (m := m) NN.out MM.out
        have eg : gp = gp2 := by
          have := EV2.out.symm.trans ev2
          injection this with this; injection this with this; injection this with this
        subst eg
        have zp0 := zp (m * 2)
        have zp1 := zp (m * 2 + 1)
        clear zp ev2
        obtain ⟨v0, v1, v2, v3⟩ := box4 V.out
        have ON := hide (O.out.setPP (n := n) (m := m) NN.out MM.out EV2.out (k : Int) true)
        have SN := hide (O.out.sideP2 (n := n) (m := m) NN.out MM.out EV2.out (k : Int) true)
        have VN := hide (SN.out.box _ _ V.out)
        have YN := hide (SN.out.box _ _ Y.out)
        have KN := hide (K.out.trans SN.out.below)
        have UN := hide ((U.out.far NP.out (b := gp) (i := m * 2) (.int .i64 (k : Int))).far NP.out (b := gp) (i := m * 2 + 1) (.bool true))
        go_upto_region 18 with fail
        clear p0 p1 zp0 zp1 s1 v0 v1 v2 v3
        clear O V Y K U SN
        have O := ON
        have V := VN
        have Y := YN
        have K := KN
        have U := UN
        clear ON VN YN KN UN
        generalize World.setCell _ ⟨gp, m * 2 + 1, none⟩ (.bool true) = wy at *
        have EC := hide (show cwA (((M).setF k (1, x)).setP n m ((k : Int), true)) (some ⟨gs, 0, none⟩) cs2 (some ⟨gf, 0, none⟩) cf2 = cwA (M) (some ⟨gs, 0, none⟩) cs2 (some ⟨gf, 0, none⟩) cf2 from (cwA_setP _ _ _ _ _ _ _ _).trans ((cwA_setF _ _ _ _ _ _ _)))
        clear U
        obtain ⟨v0, v1, v2, v3⟩ := box4 V.out
        obtain ⟨y0, y1, y2, y3⟩ := box4 Y.out
        have z0 := Y.out.frozen 0
        have z1 := Y.out.frozen 1
        have z2 := Y.out.frozen 2
        have z3 := Y.out.frozen 3
        go_wp2
        refine ret_c2 Try.results34 rfl rfl rfl (box4s Y.out) ⟨some ⟨gs, 0, none⟩, cs2, some ⟨gf, 0, none⟩, cf2, ?_, ?_, K.out.trans (kp4 Y.out GG.out.2 _ _ _ _).below⟩
        · rw [E.out]
          have e := EC.out
          unfold cwA at e
          rw [e]; rfl
        · rw [E.out]; exact (O.out.setCells4 Y.out GG.out.2 _ _ _ _).toIn
    · obtain ⟨q, rfl⟩ := Int.eq_ofNat_of_zero_le (show 0 ≤ f by omega)
      have hq : q < M.fr.length := by omega
      have q0 : (0 : Int) ≤ (q : Int) := by omega
      have q1 : (q : Int) < (M.fr.length : Int) := by omega
      obtain ⟨gf2, egf, _, _, f0, f1, zf⟩ := O.out.frame hq
      injection egf with egf; injection egf with egf
      subst egf
      have CB := HCB.out q hq
      obtain ⟨c, hc⟩ : ∃ c, c = (fAt M.fr q).1 := ⟨_, rfl⟩
      have CEQ := hide hc.symm
      rw [← hc] at f0 CB
      clear hc zf f1
      by_cases h2 : c = 1
      · subst h2
        have E := hide (E.out.trans (show wrM M n m x = ((M.setP n m ((q : Int), true)).setF q (1, x), 0) by
          unfold wrM
          rw [if_pos ⟨by rw [FEQ.out]; omega, by rw [FEQ.out, Int.toNat_natCast]; exact CEQ.out⟩, FEQ.out, Int.toNat_natCast]))
        clear X RF
        have EV2 := EV
        have MM := hide (show m < (sAt M.sp n).2.length by rw [← HLN.out]; exact hm)
        obtain ⟨gs2, eA, _, _, _, s1, _⟩ := O.out.space (n := n) hn
        injection eA with eA; injection eA with eA
        subst eA
        rw [EV.out, ← HLN.out] at s1
        obtain ⟨gp2, cp3, ev2, _, _, p0, p1, zp⟩ := O.out.page (n := n) (m := m) hn MM.out
        have eg : gp = gp2 := by
          have := EV2.out.symm.trans ev2
          injection this with this; injection this with this; injection this with this
        subst eg
        have zp1 := zp (m * 2 + 1)
        clear zp ev2
        have ON := hide (O.out.setP1 (n := n) (m := m) hn MM.out EV.out true)
        have SN := hide (O.out.sideP (n := n) hn EV.out (m * 2 + 1) (.bool true))
        have VN := hide (SN.out.box _ _ V.out)
        have YN := hide (SN.out.box _ _ Y.out)
        have KN := hide (K.out.trans SN.out.below)
        have UN := hide (U.out.far NP.out (b := gp) (i := m * 2 + 1) (.bool true))
        go_upto_region 8 with fail
        clear O V Y K U SN
        have O := ON
        have V := VN
        have Y := YN
        have K := KN
        have U := UN
        clear ON VN YN KN UN
        clear p0 p1 zp1 s1 f0 v0 v1 v2 v3 u0 u1
        generalize World.setCell _ ⟨gp, m * 2 + 1, none⟩ (.bool true) = w5 at *
        rw [FEQ.out] at O
        obtain ⟨gf3, egf, _, _, f0, f1, zf⟩ := O.out.frame (k := q) hq
        injection egf with egf; injection egf with egf
        subst egf
        have zf1 := zf (q * 2 + 1)
        clear zf
        obtain ⟨v0, v1, v2, v3⟩ := box4 V.out
        obtain ⟨u0, u1⟩ := box2 U.out
        have ON := hide ((show OwM w.heap.size (w5.setCell ⟨gf, q * 2 + 1, none⟩ (.int .i64 x)) ((M.setP n m ((q : Int), true)).setF q (1, x)) (some ⟨gs, 0, none⟩) cs2 (some ⟨gf, 0, none⟩) cf2 T by
          have t := O.out.setF1 (k := q) hq x
          rw [show (fAt (M.setP n m ((q : Int), true)).fr q).1 = 1 from CEQ.out] at t
          exact t))
        have SN := hide (O.out.sideF (q * 2 + 1) (.int .i64 x))
        have VN := hide (SN.out.box _ _ V.out)
        have YN := hide (SN.out.box _ _ Y.out)
        have KN := hide (K.out.trans SN.out.below)
        have UN := hide (U.out.far NF.out (b := gf) (i := q * 2 + 1) (.int .i64 x))
        go_upto_region 9 with fail
        clear f0 f1 zf1 v0 v1 v2 v3 u0 u1
        clear O V Y K U SN
        have O := ON
        have V := VN
        have Y := YN
        have K := KN
        have U := UN
        clear ON VN YN KN UN
        generalize World.setCell _ ⟨gf, q * 2 + 1, none⟩ (.int .i64 x) = wx at *
        have EC := hide (show cwA ((M.setP n m ((q : Int), true)).setF q (1, x)) (some ⟨gs, 0, none⟩) cs2 (some ⟨gf, 0, none⟩) cf2 = cwA M (some ⟨gs, 0, none⟩) cs2 (some ⟨gf, 0, none⟩) cf2 from (cwA_setF _ _ _ _ _ _ _).trans (cwA_setP _ _ _ _ _ _ _ _))
        clear U
        obtain ⟨v0, v1, v2, v3⟩ := box4 V.out
        obtain ⟨y0, y1, y2, y3⟩ := box4 Y.out
        have z0 := Y.out.frozen 0
        have z1 := Y.out.frozen 1
        have z2 := Y.out.frozen 2
        have z3 := Y.out.frozen 3
        go_wp2
        refine ret_c2 Try.results34 rfl rfl rfl (box4s Y.out) ⟨some ⟨gs, 0, none⟩, cs2, some ⟨gf, 0, none⟩, cf2, ?_, ?_, K.out.trans (kp4 Y.out GG.out.2 _ _ _ _).below⟩
        · rw [E.out]
          have e := EC.out
          unfold cwA at e
          rw [e]; rfl
        · rw [E.out]; exact (O.out.setCells4 Y.out GG.out.2 _ _ _ _).toIn
      · have NI := hide (show ¬ inG M n m from fun hi => by have := hi.2; rw [FEQ.out, Int.toNat_natCast, CEQ.out] at this; exact h2 this)
        have hb2 : (c == 1) = false := by simpa using h2
        obtain ⟨x0, x1, x2, x3⟩ := box4 X.out
        rcases hfr : frI M.fr with _ | k
        · have E := hide (E.out.trans (show wrM M n m x = (zeroM, 16) by unfold wrM; rw [if_neg NI.out, hfr]))
          have RV := hide (show frV (frI M.fr) = -1 by rw [hfr]; rfl)
          rw [RV.out] at RF
          clear hfr RV
          go_wp2_with fail
          refine (RF.out _ K.out).mono ?_
          rintro e w6 ⟨rfl, hb⟩
          replace O := hide (O.out.below hb)
          replace V := hide (V.out.below hb)
          replace Y := hide (Y.out.below hb)
          replace U := hide (U.out.below hb)
          replace K := hide (btrans K.out hb)
          clear hb
          obtain ⟨y0, y1, y2, y3⟩ := box4 Y.out
          have z0 := Y.out.frozen 0
          have z1 := Y.out.frozen 1
          have z2 := Y.out.frozen 2
          have z3 := Y.out.frozen 3
          go_wp2
          refine ret_c2 Try.results34 rfl rfl rfl (box4s Y.out) ⟨none, 0, none, 0, ?_, ?_, K.out.trans (kp4 Y.out GG.out.2 _ _ _ _).below⟩
          · rw [E.out]; rfl
          · rw [E.out]; exact zero_in _
        · obtain ⟨kl, k0, kb⟩ := frI_some hfr
          have FL := hide kl
          have E := hide (E.out.trans (show wrM M n m x = (((lessG M (pAt (sAt M.sp n).2 m).1).setP n m ((k : Int), true)).setF k (1, x), 0) by unfold wrM; rw [if_neg NI.out, hfr]))
          have RV := hide (show frV (frI M.fr) = (k : Int) by rw [hfr]; rfl)
          rw [RV.out] at RF
          have kk0 : (0 : Int) ≤ (k : Int) := by omega
          have kk1 : (k : Int) < (M.fr.length : Int) := by omega
          clear hfr k0 kb RV
          go_wp2_with fail
          refine (RF.out _ K.out).mono ?_
          rintro e w6 ⟨rfl, hb⟩
          replace O := hide (O.out.below hb)
          replace V := hide (V.out.below hb)
          replace Y := hide (Y.out.below hb)
          replace U := hide (U.out.below hb)
          replace K := hide (btrans K.out hb)
          clear hb
          clear u0 u1 v0 v1 v2 v3 x0 x1 x2 x3 X RF
          obtain ⟨v0, v1, v2, v3⟩ := box4 V.out
          obtain ⟨u0, u1⟩ := box2 U.out
          clear f0 hb2 h2
          have E := hide (E.out.trans (show (((lessG M (pAt (sAt M.sp n).2 m).1).setP n m ((k : Int), true)).setF k (1, x), (0 : Int)) = (((Cow.setF { M with cp := if 1048576 < M.cp + 1 then 1048576 else M.cp + 1 } q ((fAt M.fr q).1 - 1, (fAt M.fr q).2)).setF k (1, x)).setP n m ((k : Int), true), 0) by rw [FEQ.out]; unfold lessG; rw [if_neg (by omega), Int.toNat_natCast]; rfl))
          rw [CEQ.out] at E
          go_upto_region 14 with fail
          refine wp_region_noPanic ?_
          refine wp_region_held_drew (S := (fun W => W.cell? ⟨g3, 2, none⟩ = some (.slice (some ⟨gf, 0, none⟩) M.fr.length cf2) ∧ W.cell? ⟨g4, 0, none⟩ = some (.int .i64 (q : Int)))) (by kernel_rfl) ?_ (fun hHeld => ?_)
          · exact ⟨v2, u0⟩
          clear v0 v1 v3 u1
          replace O := hide (O.out.below (below_drewN (brefl w6) 1))
          replace V := hide (V.out.below (below_drewN (brefl w6) 1))
          replace Y := hide (Y.out.below (below_drewN (brefl w6) 1))
          replace U := hide (U.out.below (below_drewN (brefl w6) 1))
          replace K := hide (btrans K.out (below_drewN (brefl w6) 1))
          change Hid (OwM _ w6.drew _ _ _ _ _ _) at O
          change Hid (Box w6.drew _ _ _) at V
          change Hid (Box w6.drew _ _ _) at Y
          change Hid (Box w6.drew _ _ _) at U
          change Hid (Below _ _ w6.drew) at K
          change World.cell? w6.drew _ = _ at v2
          change World.cell? w6.drew _ = _ at u0
          generalize w6.drew = w7 at *
          obtain ⟨gf3, egf, _, _, f0, f1, zf⟩ := O.out.frame (k := q) hq
          injection egf with egf; injection egf with egf
          subst egf
          rw [CEQ.out] at f0
          have zf0 := zf (q * 2)
          clear zf f1
          have ON := hide (O.out.setF0 hq (c - 1))
          have SN := hide (O.out.sideF (q * 2) (.int .i64 (c - 1)))
          have VN := hide (SN.out.box _ _ V.out)
          have YN := hide (SN.out.box _ _ Y.out)
          have KN := hide (K.out.trans SN.out.below)
          have UN := hide (U.out.far NF.out (b := gf) (i := q * 2) (.int .i64 (c - 1)))
          have wc : IntKind.i64.wrap (c - 1) = c - 1 := by rw [IntKind.wrap_i64]; omega
          refine wpAnyH_take (i := 0) (oi := ⟨some 71, _, _, _, _, _⟩) (v := ?_) rfl (by kernel_rfl) (by kernel_rfl) (by kernel_rfl) (fun _ _ _ h => h) (Or.inl ⟨by kernel_rfl, ?_⟩) (by assumption) ?_
          rotate_left 1
          · (intro w hSw; (try dsimp only at hSw); go_simp) <;> (with_reducible rfl)
          (try simp only [Act.put, List.setIfInBounds_toArray, List.set_cons_succ, List.set_cons_zero])
          refine wpAnyH_take (i := 1) (oi := ⟨some 72, _, _, _, _, _⟩) (v := ?_) rfl (by kernel_rfl) (by kernel_rfl) (by kernel_rfl) (fun _ _ _ h => h) (Or.inl ⟨by kernel_rfl, ?_⟩) (by assumption) ?_
          rotate_left 1
          · (intro w hSw; (try dsimp only at hSw); go_simp) <;> (with_reducible rfl)
          (try simp only [Act.put, List.setIfInBounds_toArray, List.set_cons_succ, List.set_cons_zero])
          refine wpAnyH_take (i := 2) (oi := ⟨some 73, _, _, _, _, _⟩) (v := ?_) rfl (by kernel_rfl) (by kernel_rfl) (by kernel_rfl) (fun _ _ _ h => h) (Or.inl ⟨by kernel_rfl, ?_⟩) (by assumption) ?_
          rotate_left 1
          · (intro w hSw; (try dsimp only at hSw); go_simp) <;> (with_reducible rfl)
          (try simp only [Act.put, List.setIfInBounds_toArray, List.set_cons_succ, List.set_cons_zero])
          refine wpAnyH_take (i := 3) (oi := ⟨some 74, _, _, _, _, _⟩) (v := ?_) rfl (by kernel_rfl) (by kernel_rfl) (by kernel_rfl) (fun _ _ _ h => h) (Or.inl ⟨by kernel_rfl, ?_⟩) (by assumption) ?_
          rotate_left 1
          · (intro w hSw; (try dsimp only at hSw); go_simp) <;> (with_reducible rfl)
          (try simp only [Act.put, List.setIfInBounds_toArray, List.set_cons_succ, List.set_cons_zero])
          refine wpAnyH_take (i := 4) (oi := ⟨some 75, _, _, _, _, _⟩) (v := ?_) rfl (by kernel_rfl) (by kernel_rfl) (by kernel_rfl) (fun _ _ _ h => h) (Or.inl ⟨by kernel_rfl, ?_⟩) (by assumption) ?_
          rotate_left 1
          · (intro w hSw; (try dsimp only at hSw); go_simp) <;> (with_reducible rfl)
          (try simp only [Act.put, List.setIfInBounds_toArray, List.set_cons_succ, List.set_cons_zero])
          refine wpAnyH_take (i := 5) (oi := ⟨some 76, _, _, _, _, _⟩) (v := ?_) rfl (by kernel_rfl) (by kernel_rfl) (by kernel_rfl) (fun _ _ _ h => h) (Or.inl ⟨by kernel_rfl, ?_⟩) (by assumption) ?_
          rotate_left 1
          · (intro w hSw; (try dsimp only at hSw); go_simp) <;> (with_reducible rfl)
          (try simp only [Act.put, List.setIfInBounds_toArray, List.set_cons_succ, List.set_cons_zero])
          refine wpAnyH_take (i := 6) (oi := ⟨some 77, _, _, _, _, _⟩) (v := ?_) rfl (by kernel_rfl) (by kernel_rfl) (by kernel_rfl) (fun _ _ _ h => h) (Or.inl ⟨by kernel_rfl, ?_⟩) (by assumption) ?_
          rotate_left 1
          · (intro w hSw; (try dsimp only at hSw); go_simp) <;> (with_reducible rfl)
          (try simp only [Act.put, List.setIfInBounds_toArray, List.set_cons_succ, List.set_cons_zero])
          refine wpAnyH_take (i := 7) (oi := ⟨some 78, _, _, _, _, _⟩) (v := ?_) rfl (by kernel_rfl) (by kernel_rfl) (by kernel_rfl) (fun _ _ _ h => h) (Or.inl ⟨by kernel_rfl, ?_⟩) (by assumption) ?_
          rotate_left 1
          · (intro w hSw; (try dsimp only at hSw); go_simp) <;> (with_reducible rfl)
          (try simp only [Act.put, List.setIfInBounds_toArray, List.set_cons_succ, List.set_cons_zero])
          refine wpAnyH_take (i := 8) (oi := ⟨some 79, _, _, _, _, _⟩) (v := ?_) rfl (by kernel_rfl) (by kernel_rfl) (by kernel_rfl) (fun _ _ _ h => h) (Or.inl ⟨by kernel_rfl, ?_⟩) (by assumption) ?_
          rotate_left 1
          · (intro w hSw; (try dsimp only at hSw); go_simp) <;> (with_reducible rfl)
          (try simp only [Act.put, List.setIfInBounds_toArray, List.set_cons_succ, List.set_cons_zero])
          refine wpAnyH_take (i := 9) (oi := ⟨some 80, _, _, _, _, _⟩) (v := ?_) rfl (by kernel_rfl) (by kernel_rfl) (by kernel_rfl) (fun _ _ _ h => h) (Or.inl ⟨by kernel_rfl, ?_⟩) (by assumption) ?_
          rotate_left 1
          · (intro w hSw; (try dsimp only at hSw); go_simp) <;> (with_reducible rfl)
          (try simp only [Act.put, List.setIfInBounds_toArray, List.set_cons_succ, List.set_cons_zero])
          refine wpAnyH_ready (rs := [10]) (by kernel_rfl) (by simp) ?_
          refine AllReadyH.cons (o := ⟨some 81, _, _, _, _, _⟩) rfl (fun K' hK => ?_) AllReadyH.nil
          have xl := f0
          go_simp
          clear xl
          refine hK.out _ _ ?_ (fun hHeld => ?_)
          · first | exact ⟨v2, u0⟩ | exact KS.out
          clear hK K'
          (try simp only [Act.put, List.setIfInBounds_toArray, List.set_cons_succ, List.set_cons_zero])
          refine wpAnyH_take (i := 11) (oi := ⟨some 82, _, _, _, _, _⟩) (v := ?_) rfl (by kernel_rfl) (by kernel_rfl) (by kernel_rfl) (fun _ _ _ h => h) (Or.inl ⟨by kernel_rfl, ?_⟩) (by assumption) ?_
          rotate_left 1
          · (intro w hSw; (try dsimp only at hSw); go_simp) <;> (with_reducible rfl)
          (try simp only [Act.put, List.setIfInBounds_toArray, List.set_cons_succ, List.set_cons_zero])
          refine wpAnyH_take (i := 12) (oi := ⟨some 83, _, _, _, _, _⟩) (v := ?_) rfl (by kernel_rfl) (by kernel_rfl) (by kernel_rfl) (fun _ _ _ h => h) (Or.inl ⟨by kernel_rfl, ?_⟩) (by assumption) ?_
          rotate_left 1
          · (intro w hSw; (try dsimp only at hSw); go_simp) <;> (with_reducible rfl)
          (try simp only [Act.put, List.setIfInBounds_toArray, List.set_cons_succ, List.set_cons_zero])
          refine wpAnyH_take (i := 13) (oi := ⟨some 84, _, _, _, _, _⟩) (v := ?_) rfl (by kernel_rfl) (by kernel_rfl) (by kernel_rfl) (fun _ _ _ h => h) (Or.inl ⟨by kernel_rfl, ?_⟩) (by assumption) ?_
          rotate_left 1
          · (intro w hSw; (try dsimp only at hSw); go_simp) <;> (with_reducible rfl)
          (try simp only [Act.put, List.setIfInBounds_toArray, List.set_cons_succ, List.set_cons_zero])
          refine wpAnyH_ready (rs := [14]) (by kernel_rfl) (by simp) ?_
          refine AllReadyH.cons (o := ⟨none, _, _, _, _, _⟩) rfl (fun K' hK => ?_) AllReadyH.nil
          have zf0' := zf0
          have f0' := f0
          go_simp
          have KS := hide (And.intro (VN.out.cell 2) ((UN.out.cell 0)))
          refine hK.out _ _ ?_ (fun hHeld => ?_)
          · first | exact ⟨v2, u0⟩ | exact KS.out
          clear hK K'
          (try simp only [Act.put, List.setIfInBounds_toArray, List.set_cons_succ, List.set_cons_zero])
          refine wpAnyH_done (by kernel_rfl) ?_ _
          refine NoPanic.normal ?_
          clear KS wc zf0' f0'
          clear O V Y K U SN
          have O := ON
          have V := VN
          have Y := YN
          have K := KN
          have U := UN
          clear ON VN YN KN UN
          clear u0 v2 f0 zf0
          generalize World.setCell _ ⟨gf, q * 2, none⟩ (.int .i64 (c - 1)) = w8 at *
          obtain ⟨v0, v1, v2, v3⟩ := box4 V.out
          have zv := V.out.frozen 3
          have lc0 := L4.out.1
          have lc1 := L4.out.2
          have wp : IntKind.i64.wrap (M.cp + 1) = M.cp + 1 := by rw [IntKind.wrap_i64]; omega
          go_upto_region 16 with fail
          clear v0 v1 v2 v3 zv lc0 lc1 wp
          have KB := Kp.boxset (B := w.heap.size) V.out G4.out 3 (.int .i64 (if 1048576 < M.cp + 1 then 1048576 else M.cp + 1))
          have O := hide (show OwM w.heap.size (w8.setCell ⟨g3, 3, none⟩ (.int .i64 (if 1048576 < M.cp + 1 then 1048576 else M.cp + 1))) ((Cow.setF { M with cp := if 1048576 < M.cp + 1 then 1048576 else M.cp + 1 } q (c - 1, (fAt M.fr q).2))) (some ⟨gs, 0, none⟩) cs2 (some ⟨gf, 0, none⟩) cf2 T from by
            have t := O.out.kp KB
            exact ⟨t.tl, t.fr, t.sp, t.lv, t.pg, t.ne⟩)
          have Y := hide (Y.out.far G3.out (b := g3) (i := 3) (.int .i64 (if 1048576 < M.cp + 1 then 1048576 else M.cp + 1)))
          have U := hide (U.out.far NV.out (b := g3) (i := 3) (.int .i64 (if 1048576 < M.cp + 1 then 1048576 else M.cp + 1)))
          have V := hide (V.out.put 3 (.int .i64 (if 1048576 < M.cp + 1 then 1048576 else M.cp + 1)))
          have K := hide (K.out.trans KB.below)
          clear KB
          simp only [List.setIfInBounds_toArray, List.set_cons_succ, List.set_cons_zero] at V
          have FL := hide (show k < ((Cow.setF { M with cp := if 1048576 < M.cp + 1 then 1048576 else M.cp + 1 } q (c - 1, (fAt M.fr q).2))).fr.length by rw [setF_len]; exact FL.out)
          generalize w8.setCell ⟨g3, 3, none⟩ (.int .i64 (if 1048576 < M.cp + 1 then 1048576 else M.cp + 1)) = w9 at *
          generalize (if 1048576 < M.cp + 1 then 1048576 else M.cp + 1) = cn at *
          obtain ⟨gf3, egf, _, _, f0, f1, zf⟩ := O.out.frame (k := k) FL.out
          injection egf with egf; injection egf with egf
          subst egf
          have zf0 := zf (k * 2)
          have zf1 := zf (k * 2 + 1)
          clear zf
          obtain ⟨v0, v1, v2, v3⟩ := box4 V.out
          have ON := hide (O.out.setFF (k := k) FL.out 1 x)
          have SN := hide (O.out.sideF2 (k := k) FL.out 1 x)
          have VN := hide (SN.out.box _ _ V.out)
          have YN := hide (SN.out.box _ _ Y.out)
          have KN := hide (K.out.trans SN.out.below)
          have UN := hide ((U.out.far NF.out (b := gf) (i := k * 2) (.int .i64 1)).far NF.out (b := gf) (i := k * 2 + 1) (.int .i64 x))
          go_upto_region 17 with fail
          clear f0 f1 zf0 zf1 v0 v1 v2 v3
          clear O V Y K U SN
          have O := ON
          have V := VN
          have Y := YN
          have K := KN
          have U := UN
          clear ON VN YN KN UN
          generalize World.setCell _ ⟨gf, k * 2 + 1, none⟩ (.int .i64 x) = wx at *
          have NN := hide (show n < (((Cow.setF { M with cp := cn } q (c - 1, (fAt M.fr q).2))).setF k (1, x)).sp.length from hn)
          have MM := hide (show m < (sAt (((Cow.setF { M with cp := cn } q (c - 1, (fAt M.fr q).2))).setF k (1, x)).sp n).2.length from (by rw [← HLN.out]; exact hm : m < (sAt M.sp n).2.length))
          have EV2 := hide (show (tAt T n).2 = .slice (some ⟨gp, 0, none⟩) (sAt (((Cow.setF { M with cp := cn } q (c - 1, (fAt M.fr q).2))).setF k (1, x)).sp n).2.length cp2 from EV.out)
          obtain ⟨gs2, eA, _, _, _, s1, _⟩ := O.out.space (n := n) NN.out
          injection eA with eA; injection eA with eA
          subst eA
          rw [EV.out, ← HLN.out] at s1
          obtain ⟨gp2, cp3, ev2, _, _, p0, p1, zp⟩ := O.out.page (n := n) (m := m) NN.out MM.out
          have eg : gp = gp2 := by
            have := EV2.out.symm.trans ev2
            injection this with this; injection this with this; injection this with this
          subst eg
          have zp0 := zp (m * 2)
          have zp1 := zp (m * 2 + 1)
          clear zp ev2
          obtain ⟨v0, v1, v2, v3⟩ := box4 V.out
          have ON := hide (O.out.setPP (n := n) (m := m) NN.out MM.out EV2.out (k : Int) true)
          have SN := hide (O.out.sideP2 (n := n) (m := m) NN.out MM.out EV2.out (k : Int) true)
          have VN := hide (SN.out.box _ _ V.out)
          have YN := hide (SN.out.box _ _ Y.out)
          have KN := hide (K.out.trans SN.out.below)
          have UN := hide ((U.out.far NP.out (b := gp) (i := m * 2) (.int .i64 (k : Int))).far NP.out (b := gp) (i := m * 2 + 1) (.bool true))
          go_upto_region 18 with fail
          clear p0 p1 zp0 zp1 s1 v0 v1 v2 v3
          clear O V Y K U SN
          have O := ON
          have V := VN
          have Y := YN
          have K := KN
          have U := UN
          clear ON VN YN KN UN
          generalize World.setCell _ ⟨gp, m * 2 + 1, none⟩ (.bool true) = wy at *
          have EC := hide (show cwA ((((Cow.setF { M with cp := cn } q (c - 1, (fAt M.fr q).2))).setF k (1, x)).setP n m ((k : Int), true)) (some ⟨gs, 0, none⟩) cs2 (some ⟨gf, 0, none⟩) cf2 = cwA ({ M with cp := cn }) (some ⟨gs, 0, none⟩) cs2 (some ⟨gf, 0, none⟩) cf2 from (cwA_setP _ _ _ _ _ _ _ _).trans ((cwA_setF _ _ _ _ _ _ _).trans (cwA_setF _ _ _ _ _ _ _)))
          clear U
          obtain ⟨v0, v1, v2, v3⟩ := box4 V.out
          obtain ⟨y0, y1, y2, y3⟩ := box4 Y.out
          have z0 := Y.out.frozen 0
          have z1 := Y.out.frozen 1
          have z2 := Y.out.frozen 2
          have z3 := Y.out.frozen 3
          go_wp2
          refine ret_c2 Try.results34 rfl rfl rfl (box4s Y.out) ⟨some ⟨gs, 0, none⟩, cs2, some ⟨gf, 0, none⟩, cf2, ?_, ?_, K.out.trans (kp4 Y.out GG.out.2 _ _ _ _).below⟩
          · rw [E.out]
            have e := EC.out
            unfold cwA at e
            rw [e]; rfl
          · rw [E.out]; exact (O.out.setCells4 Y.out GG.out.2 _ _ _ _).toIn
end Go.Proofs.Ytoogdggiemacjaa.Cw
