import Derived.Test.YtoogdggiemacjaaG6
import Derived.Test.YtoogdggiemacjaaF8
namespace Go.Proofs.Ytoogdggiemacjaa.Cw
open Go Go.RowKit
set_option linter.unusedVariables false
set_option linter.unusedSimpArgs false
set_option maxRecDepth 100000 in
set_option maxHeartbeats 8000000 in
theorem runmap_any (B : Nat) (M : Cow) (As Af : Option Addr) (cs cf : Nat) (T : Tb) (n m : Nat) (w : World) (h : OwM B w M As cs Af cf T) (hB : B ≤ w.heap.size) (hn : n < M.sp.length) (hm : m < (sAt M.sp n).2.length)
    (hp : pgG M.fr.length (pAt (sAt M.sp n).2 m)) (l1 : M.sp.length ≤ 8) (l2 : (sAt M.sp n).2.length ≤ 512) (l3 : M.fr.length ≤ 256) (hc : ∀ k, k < M.fr.length → -10000 ≤ (fAt M.fr k).1 ∧ (fAt M.fr k).1 ≤ 10000) :
    Calls Try.prog 61 #[.agg (cwA M As cs Af cf), .int .i64 n, .int .i64 m] w fun e w' => e = .returned (.tuple #[]) ∧ OwM B w' (hdG M n m) As cs Af cf T ∧ Side B w w' := by
  have HB := hide hB
  have X1 := hide (Box.new w 28 (cwA M As cs Af cf))
  have O := hide (h.below (bal (brefl w) (.cells (cwA M As cs Af cf) 28)))
  have SA := hide (Side.of (B := B) (bal (brefl w) (.cells (cwA M As cs Af cf) 28)) hB)
  have n0 : (0 : Int) ≤ (n : Int) := by omega
  have m0 : (0 : Int) ≤ (m : Int) := by omega
  have n1 : (n : Int) < (M.sp.length : Int) := by omega
  have HD := hide (show hdG M n m = (dropF M (pAt (sAt M.sp n).2 m).1).setP n m (-1, false) from rfl)
  have HC := hide hc
  have hpf : (pAt (sAt M.sp n).2 m).1 < 0 ∨ (0 ≤ (pAt (sAt M.sp n).2 m).1 ∧ (pAt (sAt M.sp n).2 m).1 < M.fr.length) := by
    rcases hp with e | e
    · left; rw [e]; decide
    · right; exact e
  clear hp hc h hB
  unfold cwA at X1 O SA ⊢
  go_enter Try.func61, Try.ntmps61
  go_upto_region 1 with fail
  obtain ⟨g1, hg1⟩ : ∃ g, g = w.heap.size := ⟨_, rfl⟩
  rw [← hg1] at X1 ⊢
  clear hg1
  generalize w.alloc (.cells #[.int .i64 M.sz, .slice As M.sp.length cs, .slice Af M.fr.length cf, .int .i64 M.cp] 28) = w1 at *
  obtain ⟨gs, eA, _, _, _, y1, _⟩ := O.out.space hn
  obtain ⟨gp, cp, ev, _, _, p0, p1, zp⟩ := O.out.page hn hm
  subst eA
  rw [ev] at y1
  have EV := hide ev
  have zp0 := zp (m * 2)
  have zp1 := zp (m * 2 + 1)
  have EP := hide (O.out.setPP hn hm ev (-1) false)
  have SP := hide (SA.out.trans (O.out.sideP2 hn hm ev (-1) false))
  have XP := hide ((O.out.sideP2 hn hm ev (-1) false).box _ _ X1.out)
  obtain ⟨ln, hln⟩ : ∃ ln, ln = (sAt M.sp n).2.length := ⟨_, rfl⟩
  rw [← hln] at y1 l2 hm
  have m1 : (m : Int) < (ln : Int) := by omega
  have HM := hide hm
  clear ev zp hln SA O
  generalize (pAt (sAt M.sp n).2 m).1 = f at *
  generalize (pAt (sAt M.sp n).2 m).2 = pw at *
  obtain ⟨x0, x1, x2, x3⟩ := box4 X1.out
  go_upto_region 3 with fail
  clear x0 x1 x2 x3 y1 p0 p1 zp0 zp1 X1
  generalize (w1.setCell ⟨gp, m * 2, none⟩ (.int .i64 (-1))).setCell ⟨gp, m * 2 + 1, none⟩ (.bool false) = w3 at *
  rename Hid (Box w3 g1 28 _) => X1
  by_cases h0 : f < 0
  · have d0 : decide (0 ≤ f) = false := by simp; omega
    have HE := hide (show hdG M n m = M.setP n m (-1, false) by rw [HD.out, dropF_neg h0])
    rw [← HE.out] at EP
    clear HD HE h0
    go_wp2
    go_end0
    exact ⟨rfl, EP.out, SP.out⟩
  · obtain ⟨q, rfl⟩ := Int.eq_ofNat_of_zero_le (show 0 ≤ f by omega)
    have hq : q < M.fr.length := by omega
    have q0 : (0 : Int) ≤ (q : Int) := by omega
    have q1 : (q : Int) < (M.fr.length : Int) := by omega
    have HQ := hide hq
    have HCQ := hide (HC.out q hq)
    have O := EP
    clear EP HC
    obtain ⟨gf, egf, _, _, _, _, _⟩ := O.out.frame (k := q) hq
    subst egf
    obtain ⟨x0, x1, x2, x3⟩ := box4 X1.out
    go_upto_region 4 with fail
    refine wp_region_noPanic ?_
    refine wp_region_held_drew (S := (fun w => w.cell? ⟨g1, 2, none⟩ = some (.slice (some ⟨gf, 0, none⟩) M.fr.length cf))) (by kernel_rfl) ?_ (fun hHeld => ?_)
    · exact x2
    replace O := hide (O.out.below (below_drewN (brefl w3) 1))
    replace X1 := hide (X1.out.below (below_drewN (brefl w3) 1))
    have SD := hide (SP.out.trans (Side.of (B := B) (below_drewN (brefl w3) 1) (Nat.le_trans HB.out SP.out.below.size)))
    change Hid (OwM _ w3.drew _ _ _ _ _ _) at O
    change Hid (Box w3.drew _ _ _) at X1
    change Hid (Side B w w3.drew) at SD
    generalize w3.drew = w4 at *
    obtain ⟨gf2, egf, _, _, f0, f1, zf⟩ := O.out.frame HQ.out
    injection egf with egf; injection egf with egf
    subst egf
    have zf0 := zf (q * 2)
    have EF := hide (O.out.setF0 HQ.out ((fAt M.fr q).1 - 1))
    change Hid (OwM B _ ((M.setP n m (-1, false)).setF q ((fAt M.fr q).1 - 1, (fAt M.fr q).2)) _ _ _ _ _) at EF
    have S4 := hide (O.out.sideF (q * 2) (.int .i64 ((fAt M.fr q).1 - 1)))
    have SF := hide (SD.out.trans S4.out)
    have fe : fAt (M.setP n m (-1, false)).fr q = fAt M.fr q := rfl
    rw [fe] at f0 f1
    have DN := hide (dropF_nat M q)
    rcases hfq : fAt M.fr q with ⟨c, wd⟩
    rw [hfq] at f0 f1 HCQ EF S4 SF DN
    dsimp only at f0 f1 HCQ EF S4 SF DN
    have hcq := HCQ.out
    clear hfq O SD zf fe
    have wc : IntKind.i64.wrap (c - 1) = c - 1 := by rw [IntKind.wrap_i64]; omega
    refine wpAnyH_take (i := 0) (oi := ⟨some 28, _, _, _, _, _⟩) (v := ?_) rfl (by kernel_rfl) (by kernel_rfl) (by kernel_rfl) (fun _ _ _ h => h) (Or.inl ⟨by kernel_rfl, ?_⟩) (by assumption) ?_
    rotate_left 1
    · (intro w hSw; (try dsimp only at hSw); go_simp) <;> (with_reducible rfl)
    (try simp only [Act.put, List.setIfInBounds_toArray, List.set_cons_succ, List.set_cons_zero])
    refine wpAnyH_take (i := 1) (oi := ⟨some 29, _, _, _, _, _⟩) (v := ?_) rfl (by kernel_rfl) (by kernel_rfl) (by kernel_rfl) (fun _ _ _ h => h) (Or.inl ⟨by kernel_rfl, ?_⟩) (by assumption) ?_
    rotate_left 1
    · (intro w hSw; (try dsimp only at hSw); go_simp) <;> (with_reducible rfl)
    (try simp only [Act.put, List.setIfInBounds_toArray, List.set_cons_succ, List.set_cons_zero])
    refine wpAnyH_take (i := 2) (oi := ⟨some 30, _, _, _, _, _⟩) (v := ?_) rfl (by kernel_rfl) (by kernel_rfl) (by kernel_rfl) (fun _ _ _ h => h) (Or.inl ⟨by kernel_rfl, ?_⟩) (by assumption) ?_
    rotate_left 1
    · (intro w hSw; (try dsimp only at hSw); go_simp) <;> (with_reducible rfl)
    (try simp only [Act.put, List.setIfInBounds_toArray, List.set_cons_succ, List.set_cons_zero])
    refine wpAnyH_take (i := 3) (oi := ⟨some 31, _, _, _, _, _⟩) (v := ?_) rfl (by kernel_rfl) (by kernel_rfl) (by kernel_rfl) (fun _ _ _ h => h) (Or.inl ⟨by kernel_rfl, ?_⟩) (by assumption) ?_
    rotate_left 1
    · (intro w hSw; (try dsimp only at hSw); go_simp) <;> (with_reducible rfl)
    (try simp only [Act.put, List.setIfInBounds_toArray, List.set_cons_succ, List.set_cons_zero])
    refine wpAnyH_take (i := 4) (oi := ⟨some 32, _, _, _, _, _⟩) (v := ?_) rfl (by kernel_rfl) (by kernel_rfl) (by kernel_rfl) (fun _ _ _ h => h) (Or.inl ⟨by kernel_rfl, ?_⟩) (by assumption) ?_
    rotate_left 1
    · (intro w hSw; (try dsimp only at hSw); go_simp) <;> (with_reducible rfl)
    (try simp only [Act.put, List.setIfInBounds_toArray, List.set_cons_succ, List.set_cons_zero])
    refine wpAnyH_take (i := 5) (oi := ⟨some 33, _, _, _, _, _⟩) (v := ?_) rfl (by kernel_rfl) (by kernel_rfl) (by kernel_rfl) (fun _ _ _ h => h) (Or.inl ⟨by kernel_rfl, ?_⟩) (by assumption) ?_
    rotate_left 1
    · (intro w hSw; (try dsimp only at hSw); go_simp) <;> (with_reducible rfl)
    (try simp only [Act.put, List.setIfInBounds_toArray, List.set_cons_succ, List.set_cons_zero])
    refine wpAnyH_take (i := 6) (oi := ⟨some 34, _, _, _, _, _⟩) (v := ?_) rfl (by kernel_rfl) (by kernel_rfl) (by kernel_rfl) (fun _ _ _ h => h) (Or.inl ⟨by kernel_rfl, ?_⟩) (by assumption) ?_
    rotate_left 1
    · (intro w hSw; (try dsimp only at hSw); go_simp) <;> (with_reducible rfl)
    (try simp only [Act.put, List.setIfInBounds_toArray, List.set_cons_succ, List.set_cons_zero])
    refine wpAnyH_take (i := 7) (oi := ⟨some 35, _, _, _, _, _⟩) (v := ?_) rfl (by kernel_rfl) (by kernel_rfl) (by kernel_rfl) (fun _ _ _ h => h) (Or.inl ⟨by kernel_rfl, ?_⟩) (by assumption) ?_
    rotate_left 1
    · (intro w hSw; (try dsimp only at hSw); go_simp) <;> (with_reducible rfl)
    (try simp only [Act.put, List.setIfInBounds_toArray, List.set_cons_succ, List.set_cons_zero])
    refine wpAnyH_ready (rs := [8]) (by kernel_rfl) (by simp) ?_
    refine AllReadyH.cons (o := ⟨some 36, _, _, _, _, _⟩) rfl (fun K' hK => ?_) AllReadyH.nil
    have xl := f0
    go_simp
    clear xl
    refine hK.out _ _ ?_ (fun hHeld => ?_)
    · first | exact X1.out.cell 2 | exact CEN
    clear hK K'
    (try simp only [Act.put, List.setIfInBounds_toArray, List.set_cons_succ, List.set_cons_zero])
    refine wpAnyH_take (i := 9) (oi := ⟨some 37, _, _, _, _, _⟩) (v := ?_) rfl (by kernel_rfl) (by kernel_rfl) (by kernel_rfl) (fun _ _ _ h => h) (Or.inl ⟨by kernel_rfl, ?_⟩) (by assumption) ?_
    rotate_left 1
    · (intro w hSw; (try dsimp only at hSw); go_simp) <;> (with_reducible rfl)
    (try simp only [Act.put, List.setIfInBounds_toArray, List.set_cons_succ, List.set_cons_zero])
    refine wpAnyH_take (i := 10) (oi := ⟨some 38, _, _, _, _, _⟩) (v := ?_) rfl (by kernel_rfl) (by kernel_rfl) (by kernel_rfl) (fun _ _ _ h => h) (Or.inl ⟨by kernel_rfl, ?_⟩) (by assumption) ?_
    rotate_left 1
    · (intro w hSw; (try dsimp only at hSw); go_simp) <;> (with_reducible rfl)
    (try simp only [Act.put, List.setIfInBounds_toArray, List.set_cons_succ, List.set_cons_zero])
    refine wpAnyH_take (i := 11) (oi := ⟨some 39, _, _, _, _, _⟩) (v := ?_) rfl (by kernel_rfl) (by kernel_rfl) (by kernel_rfl) (fun _ _ _ h => h) (Or.inl ⟨by kernel_rfl, ?_⟩) (by assumption) ?_
    rotate_left 1
    · (intro w hSw; (try dsimp only at hSw); go_simp) <;> (with_reducible rfl)
    (try simp only [Act.put, List.setIfInBounds_toArray, List.set_cons_succ, List.set_cons_zero])
    refine wpAnyH_ready (rs := [12]) (by kernel_rfl) (by simp) ?_
    refine AllReadyH.cons (o := ⟨none, _, _, _, _, _⟩) rfl (fun K' hK => ?_) AllReadyH.nil
    have zf0' := zf0
    have f0' := f0
    go_simp
    have X2 := hide (S4.out.box _ _ X1.out)
    have CEN := X2.out.cell 2
    refine hK.out _ _ ?_ (fun hHeld => ?_)
    · first | exact X1.out.cell 2 | exact CEN
    clear hK K'
    (try simp only [Act.put, List.setIfInBounds_toArray, List.set_cons_succ, List.set_cons_zero])
    refine wpAnyH_done (by kernel_rfl) ?_ _
    refine NoPanic.normal ?_
    clear f0 f1 zf0 wc zf0' f0' CEN X1 S4 hcq
    obtain ⟨d, hd⟩ : ∃ d, d = c - 1 := ⟨_, rfl⟩
    rw [← hd] at EF SF DN X2 ⊢
    clear hd
    generalize w4.setCell ⟨gf, q * 2, none⟩ (.int .i64 d) = w5 at *
    obtain ⟨gf2, egf, _, _, f0, f1, zf⟩ := EF.out.frame (k := q) (by show q < (M.fr.set q _).length; rw [List.length_set]; exact HQ.out)
    injection egf with egf; injection egf with egf
    subst egf
    have fe : fAt ((M.setP n m (-1, false)).setF q (d, wd)).fr q = (d, wd) := by show fAt (M.fr.set q _) q = _; rw [fAt_set HQ.out, if_pos rfl]
    rw [fe] at f0 f1
    dsimp only at f0 f1
    have zf1 := zf (q * 2 + 1)
    obtain ⟨x0, x1, x2, x3⟩ := box4 X2.out
    have E6 := hide (EF.out.setF1 (k := q) (by show q < (M.fr.set q _).length; rw [List.length_set]; exact HQ.out) 0)
    have S6 := hide (SF.out.trans (EF.out.sideF (q * 2 + 1) (.int .i64 0)))
    rw [fe] at E6
    dsimp only at E6
    clear fe zf
    by_cases hd0 : d = 0
    · have dd : (d == 0) = true := by simp [hd0]
      have HE := hide (show hdG M n m = ((M.setP n m (-1, false)).setF q (d, wd)).setF q (d, 0) by
        rw [HD.out, DN.out, if_pos hd0]
        unfold Cow.setF Cow.setP
        simp only [List.set_set])
      rw [← HE.out] at E6
      clear hd0 HE DN
      go_wp2
      go_end0
      exact ⟨rfl, E6.out, S6.out⟩
    · have dd : (d == 0) = false := by simp [hd0]
      have HE := hide (show hdG M n m = (M.setP n m (-1, false)).setF q (d, wd) by
        rw [HD.out, DN.out, if_neg hd0]
        rfl)
      rw [← HE.out] at EF
      clear hd0 HE DN E6 S6
      go_wp2
      go_end0
      exact ⟨rfl, EF.out, SF.out⟩
end Go.Proofs.Ytoogdggiemacjaa.Cw
