import Derived.Test.YtoogdggiemacjaaG4
namespace Go.Proofs.Ytoogdggiemacjaa.Cw
open Go Go.RowKit
set_option linter.unusedVariables false
set_option linter.unusedSimpArgs false
set_option maxRecDepth 100000 in
set_option maxHeartbeats 8000000 in
theorem rread_any (M : Cow) (As Af : Option Addr) (cs cf : Nat) (s p : Int) (w : World) (h : CwIn w M As cs Af cf) (hB : Big M) : Calls Try.prog 38 #[.agg (cwA M As cs Af cf), .int .i64 s, .int .i64 p] w fun e w' => e = .returned (.tuple #[.int .i64 (rdV M s p), .int .i64 (cpE M s p)]) ∧ Below w.heap.size w w' := by
  have K := hide (bal (brefl w) (.cells (cwA M As cs Af cf) 28))
  have X := hide (Box.new w 28 (cwA M As cs Af cf))
  have W0 := hide h
  have CK := hide (fun w' => fun hb : Below w.heap.size w w' => rplace_any M As Af cs cf s p w' (h.below hb) hB)
  have PA := hide (page_at (M := M) (s := s) (p := p))
  have E0 := hide (fun hn : cpE M s p ≠ 0 => show rdV M s p = 0 from if_pos hn)
  have E1 := hide (fun hn : cpE M s p = 0 => show rdV M s p = wdOf M s p from if_neg (fun g => g hn))
  clear h hB
  unfold cwA at K X CK ⊢
  generalize cpE M s p = ec at *
  go_enter Try.func38, Try.ntmps38
  go_upto_region 1 with fail
  obtain ⟨g, hg⟩ : ∃ g, g = w.heap.size := ⟨_, rfl⟩
  rw [← hg] at X ⊢
  clear hg
  obtain ⟨w1, hw1⟩ : ∃ w1, w1 = w.alloc (.cells #[.int .i64 M.sz, .slice As M.sp.length cs, .slice Af M.fr.length cf, .int .i64 M.cp] 28) := ⟨_, rfl⟩
  rw [← hw1] at X K ⊢
  clear hw1
  obtain ⟨x0, x1, x2, x3⟩ := box4 X.out
  go_wp2_with fail
  refine (CK.out _ K.out).mono ?_
  rintro e w2 ⟨rfl, hb⟩
  replace X := hide (X.out.below hb)
  replace K := hide (btrans K.out hb)
  clear hb x0 x1 x2 x3 CK
  obtain ⟨x0, x1, x2, x3⟩ := box4 X.out
  by_cases h1 : ec = 0
  · obtain ⟨n, m, rfl, rfl, hn, hm, hl, hz, hg, hsz, -, -, -⟩ := PA.out h1
    subst h1
    have E := hide (E1.out rfl)
    have l1 : M.sp.length ≤ 8 := hsz.2.1.2
    have l2 : (sAt M.sp n).2.length ≤ 512 := by have := hsz.1.2; omega
    have l3 : M.fr.length ≤ 256 := hsz.2.2.1.2
    have EW := hide (show wdOf M (n : Int) (m : Int) = if (pAt (sAt M.sp n).2 m).1 < 0 then 0 else (fAt M.fr (pAt (sAt M.sp n).2 m).1.toNat).2 from rfl)
    obtain ⟨b, o, v, rfl, hb, y0, y1, Ap, cp, rfl, hcp, hP⟩ := W0.out.rs.cells K.out hn
    obtain ⟨b2, o2, rfl, hb2, z0, z1⟩ := hP.cells (brefl _) hm
    clear hP y0 hsz hl hz
    obtain ⟨ln, hln⟩ : ∃ ln, ln = (sAt M.sp n).2.length := ⟨_, rfl⟩
    rw [← hln] at hm l2 y1
    clear hln hcp
    have n0 : (0 : Int) ≤ (n : Int) := by omega
    have m0 : (0 : Int) ≤ (m : Int) := by omega
    have n1 : (n : Int) < (M.sp.length : Int) := by omega
    have m1 : (m : Int) < (ln : Int) := by omega
    rcases hpt : pAt (sAt M.sp n).2 m with ⟨f, wv⟩
    rw [hpt] at z0 z1 hg EW
    simp only at z0 z1 EW
    clear hpt z1
    by_cases h2 : f < 0
    · have E2 := hide (E.out.trans (EW.out.trans (if_pos h2)))
      clear E EW
      go_wp2
      go_ret2
      exact ⟨ret_int2 E2.out.symm rfl, K.out⟩
    · have hf0 : f < (M.fr.length : Int) := by
        rcases hg with h | h
        · injection h with h _; omega
        · exact h.2
      have E2 := hide (E.out.trans (EW.out.trans (if_neg h2)))
      clear E EW
      obtain ⟨q, rfl⟩ := Int.eq_ofNat_of_zero_le (show 0 ≤ f by omega)
      have hq : q < M.fr.length := by omega
      have q0 : (0 : Int) ≤ (q : Int) := by omega
      obtain ⟨b3, o3, rfl, hb3, f0, f1⟩ := W0.out.rf.cells K.out hq
      rw [Int.toNat_natCast] at E2
      clear f0 hg
      go_wp2
      go_ret2
      exact ⟨ret_int2 E2.out.symm rfl, K.out⟩
  · have E := hide (E0.out h1)
    go_wp2
    go_ret2
    exact ⟨ret_int2 E.out.symm rfl, K.out⟩
end Go.Proofs.Ytoogdggiemacjaa.Cw
