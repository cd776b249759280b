import Derived.Test.YtoogdggiemacjaaF10
import Derived.Test.YtoogdggiemacjaaG4
import Derived.Test.YtoogdggiemacjaaG7
namespace Go.Proofs.Ytoogdggiemacjaa.Cw
open Go Go.RowKit
set_option linter.unusedVariables false
set_option linter.unusedSimpArgs false
set_option maxRecDepth 100000 in
set_option maxHeartbeats 16000000 in
theorem runmapped_any (M : Cow) (As Af : Option Addr) (cs cf : Nat) (s p : Int) (w : World) (h : CwIn w M As cs Af cf) (hB : Big M) : Calls Try.prog 36 #[.agg (cwA M As cs Af cf), .int .i64 s, .int .i64 p] w (Res w (unG M s p) (cpE M s p)) := by
  have PA := hide (page_at (M := M) (s := s) (p := p))
  have E0 := hide (fun hn : cpE M s p ≠ 0 => show unG M s p = zeroM from if_pos hn)
  have E1 := hide (fun hn : cpE M s p = 0 => show unG M s p = hdG M s.toNat p.toNat from if_neg (fun g => g hn))
  unfold Res
  obtain ⟨W0, hW0⟩ : ∃ W0, W0 = (w.alloc (.cells (cwA M As cs Af cf) 28)).alloc (.cells #[.int .i64 0, .slice none 0 0, .slice none 0 0, .int .i64 0] 28) := ⟨_, rfl⟩
  have K := hide (show Below w.heap.size w W0 by rw [hW0]; exact bal (bal (brefl w) _) _)
  have X := hide (show Box W0 w.heap.size 28 (cwA M As cs Af cf) by rw [hW0]; exact (Box.new w 28 _).more _)
  have Y := hide (show Box W0 (w.heap.size + 1) 28 #[.int .i64 0, .slice none 0 0, .slice none 0 0, .int .i64 0] by rw [hW0]; exact Box.new2 _ _ _ _)
  have IN := hide h
  have CK := hide (fun w' => fun hb : Below w.heap.size w w' => rplace_any M As Af cs cf s p w' (h.below hb) hB)
  have CL := hide (fun w' => fun hb : Below w.heap.size w w' => copy_any M As Af cs cf w' (h.below hb))
  clear h hB
  unfold cwA at X hW0 CK CL ⊢
  generalize cpE M s p = ec at *
  go_enter Try.func36, Try.ntmps36
  go_upto_region 1 with fail
  rw [← hW0]
  clear hW0
  obtain ⟨g2, hg2⟩ : ∃ g, g = w.heap.size + 1 := ⟨_, rfl⟩
  obtain ⟨g, hg⟩ : ∃ g, g = w.heap.size := ⟨_, rfl⟩
  have GN := hide (show g ≠ g2 by omega)
  have GG := hide (show w.heap.size ≤ g ∧ w.heap.size ≤ g2 by omega)
  rw [← hg2, ← hg]
  rw [← hg2] at Y
  rw [← hg] at X
  clear hg2 hg
  obtain ⟨x0, x1, x2, x3⟩ := box4 X.out
  go_wp2_with fail
  refine (CK.out _ K.out).mono ?_
  rintro e w1 ⟨rfl, hb⟩
  replace X := hide (X.out.below hb)
  replace Y := hide (Y.out.below hb)
  replace K := hide (btrans K.out hb)
  clear hb x0 x1 x2 x3 CK
  obtain ⟨x0, x1, x2, x3⟩ := box4 X.out
  by_cases h1 : ec = 0
  case neg =>
    have E := hide (E0.out h1)
    obtain ⟨y0, y1, y2, y3⟩ := box4 Y.out
    have z0 := Y.out.frozen 0
    have z1 := Y.out.frozen 1
    have z2 := Y.out.frozen 2
    have z3 := Y.out.frozen 3
    go_wp2
    have KK := kp4 Y.out GG.out.2 (.int .i64 0) (.slice none 0 0) (.slice none 0 0) (.int .i64 0)
    refine ret_c2 Try.results36 rfl rfl rfl (box4s Y.out) ⟨none, 0, none, 0, ?_, ?_, K.out.trans KK.below⟩
    · rw [E.out]; rfl
    · rw [E.out]; exact zero_in _
  case pos =>
    obtain ⟨n, m, rfl, rfl, hn, hm, hl, hz, hg, hsz, hfm, hst, -⟩ := PA.out h1
    subst h1
    have E := hide (E1.out rfl)
    rw [Int.toNat_natCast, Int.toNat_natCast] at E
    have HSZ := hide hsz
    have HPL := hide (plen hsz hfm)
    have HCB := hide (cbound hsz hfm hst)
    clear E0 E1 PA hst hfm
    go_wp2_with fail
    refine (CL.out _ K.out (by have := HSZ.out.2.1.2; omega) (by have := HSZ.out.2.2.1.2; omega) (fun k hk => by have := HPL.out k hk; omega)).mono ?_
    rintro e w2 ⟨As2, cs2, Af2, cf2, T, rfl, hO, hb⟩
    replace X := hide (X.out.below hb)
    replace Y := hide (Y.out.below hb)
    have GS := hide (show g2 < w2.heap.size from Y.out.lt)
    have GB := hide (show w.heap.size ≤ w1.heap.size from K.out.size)
    replace K := hide (btrans K.out hb)
    have O := hide hO
    clear hO hb x0 x1 x2 x3 CL
    have M3 := bal (brefl w2) (.cells #[.int .i64 M.sz, .slice As2 M.sp.length cs2, .slice Af2 M.fr.length cf2, .int .i64 M.cp] 28)
    have V := hide (Box.new w2 28 #[.int .i64 M.sz, .slice As2 M.sp.length cs2, .slice Af2 M.fr.length cf2, .int .i64 M.cp])
    replace X := hide (X.out.below M3)
    replace Y := hide (Y.out.below M3)
    replace O := hide (O.out.below M3)
    replace K := hide (btrans K.out M3)
    clear M3
    go_upto_region 5 with fail
    obtain ⟨g3, hg3⟩ : ∃ g, g = w2.heap.size := ⟨_, rfl⟩
    have G3 := hide (show g2 ≠ g3 by have := GS.out; omega)
    have G4 := hide (show w.heap.size ≤ g3 by have := GS.out; have := GG.out.2; omega)
    rw [← hg3] at V ⊢
    clear hg3
    generalize w2.alloc (.cells #[.int .i64 M.sz, .slice As2 M.sp.length cs2, .slice Af2 M.fr.length cf2, .int .i64 M.cp] 28) = w3 at *
    have HI := hide (fun wx hO hB => runmap_any w.heap.size M As2 Af2 cs2 cf2 T n m wx hO hB hn hm hg hsz.2.1.2 (HPL.out n hn) hsz.2.2.1.2 (fun k hk => ⟨by have := (HCB.out k hk).1; omega, by have := (HCB.out k hk).2; omega⟩))
    unfold cwA at HI
    have n0 : (0 : Int) ≤ (n : Int) := by omega
    clear hsz hl hz hg hm
    obtain ⟨v0, v1, v2, v3⟩ := box4 V.out
    go_wp2_with fail
    refine (HI.out _ (O.out.mono1 GB.out) K.out.size).mono ?_
    rintro e w4 ⟨rfl, hO, hS⟩
    have V4 := hide (hS.box _ _ V.out)
    have Y4 := hide (hS.box _ _ Y.out)
    have K4 := hide (K.out.trans hS.below)
    have O4 := hide hO
    clear hO hS v0 v1 v2 v3 V Y K O X HI
    obtain ⟨v0, v1, v2, v3⟩ := box4 V4.out
    obtain ⟨y0, y1, y2, y3⟩ := box4 Y4.out
    have z0 := Y4.out.frozen 0
    have z1 := Y4.out.frozen 1
    have z2 := Y4.out.frozen 2
    have z3 := Y4.out.frozen 3
    go_wp2
    refine ret_c2 Try.results36 rfl rfl rfl (box4s Y4.out) ⟨As2, cs2, Af2, cf2, ?_, ?_, K4.out.trans (kp4 Y4.out GG.out.2 _ _ _ _).below⟩
    · rw [E.out]
      have e := cwA_hd M n m As2 cs2 Af2 cf2
      unfold cwA at e
      rw [e]; rfl
    · rw [E.out]; exact (O4.out.setCells4 Y4.out GG.out.2 _ _ _ _).toIn
end Go.Proofs.Ytoogdggiemacjaa.Cw
