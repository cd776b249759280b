import Derived.Test.YtoogdggiemacjaaMem3
namespace Go.Proofs.Ytoogdggiemacjaa.Cw
open Go Go.RowKit
set_option linter.unusedVariables false
set_option linter.unusedSimpArgs false
theorem dropF_neg {M : Cow} {f : Int} (h : f < 0) : dropF M f = M := if_pos h
theorem dropF_nat (M : Cow) (q : Nat) : dropF M (q : Int) = M.setF q ((fAt M.fr q).1 - 1, if (fAt M.fr q).1 - 1 = 0 then 0 else (fAt M.fr q).2) := by
  unfold dropF
  rw [if_neg (by omega), Int.toNat_natCast]
set_option maxRecDepth 100000 in
set_option maxHeartbeats 16000000 in
theorem hide_any (B g : Nat) (M : Cow) (As Af : Option Addr) (cs cf : Nat) (T : Tb) (n m : Nat) (w : World) (h : OwM B w M As cs Af cf T) (hX : Box w g 28 (cwA M As cs Af cf)) (hB : B ≤ w.heap.size) (hn : n < M.sp.length) (hm : m < (sAt M.sp n).2.length)
    (hp : pgG M.fr.length (pAt (sAt M.sp n).2 m)) (l1 : M.sp.length ≤ 8) (l2 : (sAt M.sp n).2.length ≤ 512) (l3 : M.fr.length ≤ 256) (hc : ∀ k, k < M.fr.length → -10000 ≤ (fAt M.fr k).1 ∧ (fAt M.fr k).1 ≤ 10000) :
    Calls Try.prog 55 #[.pointer (some ⟨g, 0, none⟩), .int .i64 n, .int .i64 m] w fun e w' => e = .returned (.tuple #[]) ∧ OwM B w' (hdG M n m) As cs Af cf T ∧ Side B w w' := by
  have O := hide h
  have X := hide hX
  have HB := hide hB
  obtain ⟨gs, eA, _, _, _, y1, _⟩ := h.space hn
  obtain ⟨gp, cp, ev, _, _, p0, p1, zp⟩ := h.page hn hm
  subst eA
  rw [ev] at y1
  have EV := hide ev
  clear ev h hX hB zp
  obtain ⟨ln, hln⟩ : ∃ ln, ln = (sAt M.sp n).2.length := ⟨_, rfl⟩
  have HLN := hide hln
  rw [← hln] at hm l2 y1
  clear hln
  have n0 : (0 : Int) ≤ (n : Int) := by omega
  have m0 : (0 : Int) ≤ (m : Int) := by omega
  have n1 : (n : Int) < (M.sp.length : Int) := by omega
  have m1 : (m : Int) < (ln : Int) := by omega
  have HD := hide (show hdG M n m = (dropF M (pAt (sAt M.sp n).2 m).1).setP n m (-1, false) from rfl)
  have HC := hide hc
  have hpf : (pAt (sAt M.sp n).2 m).1 < 0 ∨ (0 ≤ (pAt (sAt M.sp n).2 m).1 ∧ (pAt (sAt M.sp n).2 m).1 < M.fr.length) := by
    rcases hp with e | e
    · left; rw [e]; decide
    · right; exact e
  clear hp hc
  generalize (pAt (sAt M.sp n).2 m).1 = f at *
  obtain ⟨x0, x1, x2, x3⟩ := box4 X.out
  unfold cwA at X
  have NO := hide nothing_any
  go_enter Try.func55, Try.ntmps55
  go_upto_region 1 with fail
  clear x0 x1 x3 y1
  by_cases h0 : f < 0
  · have HE := hide (show hdG M n m = M.setP n m (-1, false) by rw [HD.out, dropF_neg h0])
    clear hpf HD
    have SD := hide (Side.refl B w)
    have NN := hide (show n < (M).sp.length from hn)
    have MM := hide (show m < (sAt (M).sp n).2.length from (by rw [← HLN.out]; exact hm : m < (sAt M.sp n).2.length))
    have EV2 := hide (show (tAt T n).2 = .slice (some ⟨gp, 0, none⟩) (sAt (M).sp n).2.length cp from EV.out)
    go_wp2_with fail
    refine (NO.out _).mono ?_
    rintro e w9 ⟨rfl, hb9⟩
    have O9 := hide (O.out.below hb9)
    have S9 := hide (SD.out.trans (Side.of hb9 (Nat.le_trans HB.out SD.out.below.size)))
    obtain ⟨gp2, cp2, ev2, _, _, p0', p1', zp'⟩ := O9.out.page (n := n) (m := m) NN.out MM.out
    have eg : gp2 = gp := by
      have := EV2.out.symm.trans ev2
      injection this with this; injection this with this; injection this with this
      exact this.symm
    subst eg
    have zp0 := zp' (m * 2)
    have zp1 := zp' (m * 2 + 1)
    have E9 := hide (O9.out.setPP (n := n) (m := m) NN.out MM.out EV2.out (-1) false)
    have F9 := hide (S9.out.trans (O9.out.sideP2 (n := n) (m := m) NN.out MM.out EV2.out (-1) false))
    rw [← HE.out] at E9
    clear hb9 ev2 zp' O9 S9 O SD
    go_wp2
    go_end0
    exact ⟨rfl, E9.out, F9.out⟩
  · obtain ⟨q, rfl⟩ := Int.eq_ofNat_of_zero_le (show 0 ≤ f by omega)
    have hq : q < M.fr.length := by omega
    have q0 : (0 : Int) ≤ (q : Int) := by omega
    have q1 : (q : Int) < (M.fr.length : Int) := by omega
    obtain ⟨gf, rfl, _, _, _, _, _⟩ := O.out.frame hq
    go_upto_region 2 with fail
    refine wp_region_noPanic ?_
    refine wp_region_held_drew (S := (fun W => W.cell? ⟨g, 2, none⟩ = some (.slice (some ⟨gf, 0, none⟩) M.fr.length cf) ∧ W.cell? ⟨gp, m * 2, none⟩ = some (.int .i64 (q : Int)))) (by kernel_rfl) ?_ (fun hHeld => ?_)
    · exact ⟨x2, p0⟩
    refine wpAnyH_take (i := 0) (oi := ⟨some 23, _, _, _, _, _⟩) (v := ?_) rfl (by kernel_rfl) (by kernel_rfl) (by kernel_rfl) (fun _ _ _ h => h) (Or.inl ⟨by kernel_rfl, ?_⟩) (by assumption) ?_
    rotate_left 1
    · (intro w hSw; (try dsimp only at hSw); go_simp) <;> (with_reducible rfl)
    (try simp only [Act.put, List.setIfInBounds_toArray, List.set_cons_succ, List.set_cons_zero])
    refine wpAnyH_take (i := 1) (oi := ⟨some 24, _, _, _, _, _⟩) (v := ?_) rfl (by kernel_rfl) (by kernel_rfl) (by kernel_rfl) (fun _ _ _ h => h) (Or.inl ⟨by kernel_rfl, ?_⟩) (by assumption) ?_
    rotate_left 1
    · (intro w hSw; (try dsimp only at hSw); go_simp) <;> (with_reducible rfl)
    (try simp only [Act.put, List.setIfInBounds_toArray, List.set_cons_succ, List.set_cons_zero])
    refine wpAnyH_take (i := 2) (oi := ⟨some 25, _, _, _, _, _⟩) (v := ?_) rfl (by kernel_rfl) (by kernel_rfl) (by kernel_rfl) (fun _ _ _ h => h) (Or.inl ⟨by kernel_rfl, ?_⟩) (by assumption) ?_
    rotate_left 1
    · (intro w hSw; (try dsimp only at hSw); go_simp) <;> (with_reducible rfl)
    (try simp only [Act.put, List.setIfInBounds_toArray, List.set_cons_succ, List.set_cons_zero])
    refine wpAnyH_take (i := 3) (oi := ⟨some 26, _, _, _, _, _⟩) (v := ?_) rfl (by kernel_rfl) (by kernel_rfl) (by kernel_rfl) (fun _ _ _ h => h) (Or.inl ⟨by kernel_rfl, ?_⟩) (by assumption) ?_
    rotate_left 1
    · (intro w hSw; (try dsimp only at hSw); go_simp) <;> (with_reducible rfl)
    (try simp only [Act.put, List.setIfInBounds_toArray, List.set_cons_succ, List.set_cons_zero])
    refine wpAnyH_take (i := 4) (oi := ⟨some 27, _, _, _, _, _⟩) (v := ?_) rfl (by kernel_rfl) (by kernel_rfl) (by kernel_rfl) (fun _ _ _ h => h) (Or.inl ⟨by kernel_rfl, ?_⟩) (by assumption) ?_
    rotate_left 1
    · (intro w hSw; (try dsimp only at hSw); go_simp) <;> (with_reducible rfl)
    (try simp only [Act.put, List.setIfInBounds_toArray, List.set_cons_succ, List.set_cons_zero])
    refine wpAnyH_take (i := 5) (oi := ⟨some 28, _, _, _, _, _⟩) (v := ?_) rfl (by kernel_rfl) (by kernel_rfl) (by kernel_rfl) (fun _ _ _ h => h) (Or.inl ⟨by kernel_rfl, ?_⟩) (by assumption) ?_
    rotate_left 1
    · (intro w hSw; (try dsimp only at hSw); go_simp) <;> (with_reducible rfl)
    (try simp only [Act.put, List.setIfInBounds_toArray, List.set_cons_succ, List.set_cons_zero])
    refine wpAnyH_take (i := 6) (oi := ⟨some 29, _, _, _, _, _⟩) (v := ?_) rfl (by kernel_rfl) (by kernel_rfl) (by kernel_rfl) (fun _ _ _ h => h) (Or.inl ⟨by kernel_rfl, ?_⟩) (by assumption) ?_
    rotate_left 1
    · (intro w hSw; (try dsimp only at hSw); go_simp) <;> (with_reducible rfl)
    (try simp only [Act.put, List.setIfInBounds_toArray, List.set_cons_succ, List.set_cons_zero])
    refine wpAnyH_take (i := 7) (oi := ⟨some 30, _, _, _, _, _⟩) (v := ?_) rfl (by kernel_rfl) (by kernel_rfl) (by kernel_rfl) (fun _ _ _ h => h) (Or.inl ⟨by kernel_rfl, ?_⟩) (by assumption) ?_
    rotate_left 1
    · (intro w hSw; (try dsimp only at hSw); go_simp) <;> (with_reducible rfl)
    (try simp only [Act.put, List.setIfInBounds_toArray, List.set_cons_succ, List.set_cons_zero])
    refine wpAnyH_take (i := 8) (oi := ⟨some 31, _, _, _, _, _⟩) (v := ?_) rfl (by kernel_rfl) (by kernel_rfl) (by kernel_rfl) (fun _ _ _ h => h) (Or.inl ⟨by kernel_rfl, ?_⟩) (by assumption) ?_
    rotate_left 1
    · (intro w hSw; (try dsimp only at hSw); go_simp) <;> (with_reducible rfl)
    (try simp only [Act.put, List.setIfInBounds_toArray, List.set_cons_succ, List.set_cons_zero])
    refine wpAnyH_take (i := 9) (oi := ⟨some 7, _, _, _, _, _⟩) (v := ?_) rfl (by kernel_rfl) (by kernel_rfl) (by kernel_rfl) (fun _ _ _ h => h) (Or.inl ⟨by kernel_rfl, ?_⟩) (by assumption) ?_
    rotate_left 1
    · (intro w hSw; (try dsimp only at hSw); go_simp) <;> (with_reducible rfl)
    (try simp only [Act.put, List.setIfInBounds_toArray, List.set_cons_succ, List.set_cons_zero])
    refine wpAnyH_done (by kernel_rfl) ?_ _
    refine NoPanic.normal ?_
    replace O := hide (O.out.below (below_drewN (brefl w) 1))
    replace X := hide (X.out.below (below_drewN (brefl w) 1))
    have SD := hide (Side.of (B := B) (below_drewN (brefl w) 1) HB.out)
    change Hid (OwM _ w.drew _ _ _ _ _ _) at O
    change Hid (Box w.drew _ _ _) at X
    change Hid (Side B w w.drew) at SD
    clear p0 p1 x2
    generalize w.drew = w1 at *
    obtain ⟨gf2, egf, _, _, f0, f1, zf⟩ := O.out.frame hq
    injection egf with egf; injection egf with egf
    subst egf
    have zf0 := zf (q * 2)
    have hcq := HC.out q hq
    have EF := hide (O.out.setF0 hq ((fAt M.fr q).1 - 1))
    have SF := hide (SD.out.trans (O.out.sideF (q * 2) (.int .i64 ((fAt M.fr q).1 - 1))))
    have DN := hide (dropF_nat M q)
    rcases hfq : fAt M.fr q with ⟨c, wd⟩
    rw [hfq] at f0 f1 hcq EF SF DN
    simp only at f0 f1 hcq EF SF DN
    clear hfq O SD zf
    have wc : IntKind.i64.wrap (c - 1) = c - 1 := by rw [IntKind.wrap_i64]; omega
    go_upto_region 4 with fail
    clear wc f0 f1 zf0
    obtain ⟨d, hd⟩ : ∃ d, d = c - 1 := ⟨_, rfl⟩
    rw [← hd] at EF SF DN ⊢
    clear hd hcq
    generalize w1.setCell ⟨gf, q * 2, none⟩ (.int .i64 d) = w2 at *
    obtain ⟨gf2, egf, _, _, f0, f1, zf⟩ := EF.out.frame (k := q) (by rw [setF_len]; exact hq)
    injection egf with egf; injection egf with egf
    subst egf
    rw [setF_at hq] at f0 f1
    simp only at f0 f1
    have zf1 := zf (q * 2 + 1)
    clear zf
    by_cases hd : d = 0
    · subst hd
      go_wp2_with fail
      refine (free_is _ _ true rfl _).mono ?_
      rintro e w3 ⟨rfl, hb3⟩
      have E3 := hide (EF.out.below hb3)
      have S3 := hide (SF.out.trans (Side.of hb3 (Nat.le_trans HB.out SF.out.below.size)))
      clear hb3 EF SF f0 f1 zf1
      obtain ⟨gf2, egf, _, _, f0, f1, zf⟩ := E3.out.frame (k := q) (by rw [setF_len]; exact hq)
      injection egf with egf; injection egf with egf
      subst egf
      have zf1 := zf (q * 2 + 1)
      clear zf
      have E4 := hide (E3.out.setF1 (k := q) (by rw [setF_len]; exact hq) 0)
      have S4 := hide (S3.out.trans (E3.out.sideF (q * 2 + 1) (.int .i64 0)))
      rw [setF_at hq, setF_setF] at E4
      simp only at E4
      go_upto_region 6 with fail
      clear f0 f1 zf1 E3 S3
      generalize w3.setCell ⟨gf, q * 2 + 1, none⟩ (.int .i64 0) = w4 at *
      have O := hide E4.out
      have HE := hide (show hdG M n m = (M.setF q (0, 0)).setP n m (-1, false) by rw [HD.out, DN.out]; rfl)
      have SD := hide (S4.out)
      have NN := hide (show n < (M.setF q (0, 0)).sp.length from hn)
      have MM := hide (show m < (sAt (M.setF q (0, 0)).sp n).2.length from (by rw [← HLN.out]; exact hm : m < (sAt M.sp n).2.length))
      have EV2 := hide (show (tAt T n).2 = .slice (some ⟨gp, 0, none⟩) (sAt (M.setF q (0, 0)).sp n).2.length cp from EV.out)

      go_wp2_with fail
      refine (NO.out _).mono ?_
      rintro e w9 ⟨rfl, hb9⟩
      have O9 := hide (O.out.below hb9)
      have S9 := hide (SD.out.trans (Side.of hb9 (Nat.le_trans HB.out SD.out.below.size)))
      obtain ⟨gp2, cp2, ev2, _, _, p0', p1', zp'⟩ := O9.out.page (n := n) (m := m) NN.out MM.out
      have eg : gp2 = gp := by
        have := EV2.out.symm.trans ev2
        injection this with this; injection this with this; injection this with this
        exact this.symm
      subst eg
      have zp0 := zp' (m * 2)
      have zp1 := zp' (m * 2 + 1)
      have E9 := hide (O9.out.setPP (n := n) (m := m) NN.out MM.out EV2.out (-1) false)
      have F9 := hide (S9.out.trans (O9.out.sideP2 (n := n) (m := m) NN.out MM.out EV2.out (-1) false))
      rw [← HE.out] at E9
      clear hb9 ev2 zp' O9 S9 O SD
      go_wp2
      go_end0
      exact ⟨rfl, E9.out, F9.out⟩

    · go_wp2_with fail
      refine (free_is _ _ false (by simp [hd]) _).mono ?_
      rintro e w3 ⟨rfl, hb3⟩
      have O := hide (EF.out.below hb3)
      have S4 := hide (SF.out.trans (Side.of hb3 (Nat.le_trans HB.out SF.out.below.size)))
      clear hb3 EF SF f0 f1 zf1
      have HE := hide (show hdG M n m = (M.setF q (d, wd)).setP n m (-1, false) by rw [HD.out, DN.out, if_neg hd])
      have SD := hide (S4.out)
      have NN := hide (show n < (M.setF q (d, wd)).sp.length from hn)
      have MM := hide (show m < (sAt (M.setF q (d, wd)).sp n).2.length from (by rw [← HLN.out]; exact hm : m < (sAt M.sp n).2.length))
      have EV2 := hide (show (tAt T n).2 = .slice (some ⟨gp, 0, none⟩) (sAt (M.setF q (d, wd)).sp n).2.length cp from EV.out)

      go_wp2_with fail
      refine (NO.out _).mono ?_
      rintro e w9 ⟨rfl, hb9⟩
      have O9 := hide (O.out.below hb9)
      have S9 := hide (SD.out.trans (Side.of hb9 (Nat.le_trans HB.out SD.out.below.size)))
      obtain ⟨gp2, cp2, ev2, _, _, p0', p1', zp'⟩ := O9.out.page (n := n) (m := m) NN.out MM.out
      have eg : gp2 = gp := by
        have := EV2.out.symm.trans ev2
        injection this with this; injection this with this; injection this with this
        exact this.symm
      subst eg
      have zp0 := zp' (m * 2)
      have zp1 := zp' (m * 2 + 1)
      have E9 := hide (O9.out.setPP (n := n) (m := m) NN.out MM.out EV2.out (-1) false)
      have F9 := hide (S9.out.trans (O9.out.sideP2 (n := n) (m := m) NN.out MM.out EV2.out (-1) false))
      rw [← HE.out] at E9
      clear hb9 ev2 zp' O9 S9 O SD
      go_wp2
      go_end0
      exact ⟨rfl, E9.out, F9.out⟩

end Go.Proofs.Ytoogdggiemacjaa.Cw
