import Derived.Test.YtoogdggiemacjaaF4
namespace Go.Proofs.Ytoogdggiemacjaa.Cw
open Go Go.RowKit
set_option linter.unusedVariables false
set_option linter.unusedSimpArgs false
/-- a space that is there and lives -/
def liveG (M : Cow) (s : Int) : Prop := 0 ≤ s ∧ s < M.sp.length ∧ (sAt M.sp s.toNat).1 = true
instance (M : Cow) (s : Int) : Decidable (liveG M s) := by unfold liveG; infer_instance
def csE (M : Cow) (s : Int) : Int := if chE M ≠ 0 then chE M else if liveG M s then 0 else 6
def cpE (M : Cow) (s p : Int) : Int := if csE M s ≠ 0 then csE M s else if 0 ≤ p ∧ p < M.sz then 0 else 2
theorem csE_zero {M : Cow} {s : Int} (h : csE M s = 0) : chE M = 0 ∧ liveG M s := by
  unfold csE at h
  split at h
  · rename_i a; exact absurd h a
  · rename_i a
    split at h
    · rename_i b; exact ⟨Decidable.not_not.1 a, b⟩
    · omega
theorem cpE_zero {M : Cow} {s p : Int} (h : cpE M s p = 0) : chE M = 0 ∧ liveG M s ∧ 0 ≤ p ∧ p < M.sz := by
  unfold cpE at h
  split at h
  · rename_i a; exact absurd h a
  · rename_i a
    split at h
    · rename_i b; exact ⟨(csE_zero (Decidable.not_not.1 a)).1, (csE_zero (Decidable.not_not.1 a)).2, b⟩
    · omega
set_option maxRecDepth 100000 in
set_option maxHeartbeats 8000000 in
theorem cspace_any (M : Cow) (As Af : Option Addr) (cs cf : Nat) (s : Int) (w : World) (h : CwIn w M As cs Af cf) (hB : Big M) : Calls Try.prog 53 #[.agg (cwA M As cs Af cf), .int .i64 s] w fun e w' => e = .returned (.int .i64 (csE M s)) ∧ Below w.heap.size w w' := by
  have K := hide (bal (brefl w) (.cells (cwA M As cs Af cf) 28))
  have X := hide (Box.new w 28 (cwA M As cs Af cf))
  have W0 := hide h
  have CK := hide (fun w' => fun hb : Below w.heap.size w w' => check_any M As Af cs cf w' (h.below hb) hB)
  have E0 := hide (fun hn : chE M ≠ 0 => show csE M s = chE M from if_pos hn)
  have E1 := hide (fun (hn : chE M = 0) (hl : liveG M s) => show csE M s = 0 from (if_neg (fun g => g hn)).trans (if_pos hl))
  have E2 := hide (fun (hn : chE M = 0) (hl : ¬ liveG M s) => show csE M s = 6 from (if_neg (fun g => g hn)).trans (if_neg hl))
  have hs8 := hB.sp
  clear h hB
  unfold cwA at K X CK ⊢
  generalize chE M = ec at *
  go_enter Try.func53, Try.ntmps53
  go_upto_region 1 with fail
  obtain ⟨g, hg⟩ : ∃ g, g = w.heap.size := ⟨_, rfl⟩
  rw [← hg] at X ⊢
  clear hg
  obtain ⟨w1, hw1⟩ : ∃ w1, w1 = w.alloc (.cells #[.int .i64 M.sz, .slice As M.sp.length cs, .slice Af M.fr.length cf, .int .i64 M.cp] 28) := ⟨_, rfl⟩
  rw [← hw1] at X K ⊢
  clear hw1
  obtain ⟨x0, x1, x2, x3⟩ := box4 X.out
  go_wp2_with fail
  refine (CK.out _ K.out).mono ?_
  rintro e w2 ⟨rfl, hb⟩
  replace X := hide (X.out.below hb)
  replace K := hide (btrans K.out hb)
  clear hb x0 x1 x2 x3 CK
  obtain ⟨x0, x1, x2, x3⟩ := box4 X.out
  by_cases h1 : ec = 0
  · subst h1
    by_cases h2 : s < 0
    · have E := hide (E2.out rfl (fun hl => absurd hl.1 (by omega)))
      go_wp2
      go_ret
      exact ⟨ret_int E.out.symm, K.out⟩
    · by_cases h3 : (M.sp.length : Int) ≤ s
      · have E := hide (E2.out rfl (fun hl => absurd hl.2.1 (by omega)))
        go_wp2
        go_ret
        exact ⟨ret_int E.out.symm, K.out⟩
      · obtain ⟨n, rfl⟩ := Int.eq_ofNat_of_zero_le (show 0 ≤ s by omega)
        have hn : n < M.sp.length := by omega
        obtain ⟨b, o, v, rfl, hb, y0, y1, Ap, cp, rfl, hcp, hP⟩ := W0.out.rs.cells K.out hn
        clear hP y1
        cases hlv : (sAt M.sp n).1
        · rw [hlv] at y0
          have E := hide (E2.out rfl (fun hl => by have := hl.2.2; rw [Int.toNat_natCast, hlv] at this; cases this))
          clear hlv
          go_wp2
          go_ret
          exact ⟨ret_int E.out.symm, K.out⟩
        · rw [hlv] at y0
          have E := hide (E1.out rfl ⟨by omega, by omega, by rw [Int.toNat_natCast]; exact hlv⟩)
          clear hlv
          go_wp2
          go_ret
          exact ⟨ret_int E.out.symm, K.out⟩
  · have E := hide (E0.out h1)
    go_wp2
    go_ret
    exact ⟨ret_int E.out.symm, K.out⟩
set_option maxRecDepth 100000 in
set_option maxHeartbeats 8000000 in
theorem cpage_any (M : Cow) (As Af : Option Addr) (cs cf : Nat) (s p : Int) (w : World) (h : CwIn w M As cs Af cf) (hB : Big M) : Calls Try.prog 50 #[.agg (cwA M As cs Af cf), .int .i64 s, .int .i64 p] w fun e w' => e = .returned (.int .i64 (cpE M s p)) ∧ Below w.heap.size w w' := by
  have K := hide (bal (brefl w) (.cells (cwA M As cs Af cf) 28))
  have X := hide (Box.new w 28 (cwA M As cs Af cf))
  have W0 := hide h
  have CK := hide (fun w' => fun hb : Below w.heap.size w w' => cspace_any M As Af cs cf s w' (h.below hb) hB)
  have E0 := hide (fun hn : csE M s ≠ 0 => show cpE M s p = csE M s from if_pos hn)
  have E1 := hide (fun (hn : csE M s = 0) (hl : 0 ≤ p ∧ p < M.sz) => show cpE M s p = 0 from (if_neg (fun g => g hn)).trans (if_pos hl))
  have E2 := hide (fun (hn : csE M s = 0) (hl : ¬ (0 ≤ p ∧ p < M.sz)) => show cpE M s p = 2 from (if_neg (fun g => g hn)).trans (if_neg hl))
  clear h hB
  unfold cwA at K X CK ⊢
  generalize csE M s = ec at *
  go_enter Try.func50, Try.ntmps50
  go_upto_region 1 with fail
  obtain ⟨g, hg⟩ : ∃ g, g = w.heap.size := ⟨_, rfl⟩
  rw [← hg] at X ⊢
  clear hg
  obtain ⟨w1, hw1⟩ : ∃ w1, w1 = w.alloc (.cells #[.int .i64 M.sz, .slice As M.sp.length cs, .slice Af M.fr.length cf, .int .i64 M.cp] 28) := ⟨_, rfl⟩
  rw [← hw1] at X K ⊢
  clear hw1
  obtain ⟨x0, x1, x2, x3⟩ := box4 X.out
  go_wp2_with fail
  refine (CK.out _ K.out).mono ?_
  rintro e w2 ⟨rfl, hb⟩
  replace X := hide (X.out.below hb)
  replace K := hide (btrans K.out hb)
  clear hb x0 x1 x2 x3 CK
  obtain ⟨x0, x1, x2, x3⟩ := box4 X.out
  by_cases h1 : ec = 0
  · subst h1
    by_cases h2 : p < 0
    · have E := hide (E2.out rfl (fun hl => absurd hl.1 (by omega)))
      go_wp2
      go_ret
      exact ⟨ret_int E.out.symm, K.out⟩
    · by_cases h3 : M.sz ≤ p
      · have E := hide (E2.out rfl (fun hl => absurd hl.2 (by omega)))
        go_wp2
        go_ret
        exact ⟨ret_int E.out.symm, K.out⟩
      · have E := hide (E1.out rfl ⟨by omega, by omega⟩)
        go_wp2
        go_ret
        exact ⟨ret_int E.out.symm, K.out⟩
  · have E := hide (E0.out h1)
    go_wp2
    go_ret
    exact ⟨ret_int E.out.symm, K.out⟩
-- READ
def pgOf (M : Cow) (s p : Int) : Pg := pAt (sAt M.sp s.toNat).2 p.toNat
def wdOf (M : Cow) (s p : Int) : Int := if (pgOf M s p).1 < 0 then 0 else (fAt M.fr (pgOf M s p).1.toNat).2
def rdV (M : Cow) (s p : Int) : Int := if cpE M s p ≠ 0 then 0 else wdOf M s p
/-- what a valid page of a valid machine has -/
theorem page_at {M : Cow} {s p : Int} (h : cpE M s p = 0) : ∃ n m : Nat, s = n ∧ p = m ∧ n < M.sp.length ∧ m < (sAt M.sp n).2.length ∧ (sAt M.sp n).1 = true ∧ (((sAt M.sp n).2.length : Nat) : Int) = M.sz ∧ pgG M.fr.length (pAt (sAt M.sp n).2 m) ∧ szG M ∧ fmG M ∧ stG M ∧ acG M := by
  obtain ⟨hc, ⟨h1, h2, h3⟩, h4, h5⟩ := cpE_zero h
  obtain ⟨g1, g2, g3, g4⟩ := chE_zero hc
  obtain ⟨n, rfl⟩ := Int.eq_ofNat_of_zero_le h1
  obtain ⟨m, rfl⟩ := Int.eq_ofNat_of_zero_le h4
  have hn : n < M.sp.length := by omega
  rw [Int.toNat_natCast] at h3
  have a := (g2 _ (sAt_mem hn)).1
  unfold lnG at a
  rw [if_pos h3] at a
  have hm : m < (sAt M.sp n).2.length := by omega
  exact ⟨n, m, rfl, rfl, hn, hm, h3, a, (g2 _ (sAt_mem hn)).2 _ (pAt_mem hm), g1, g2, g3, g4⟩
theorem ret_int2 {a b c d : Int} (h : a = c) (h2 : b = d) : Ending.returned (.tuple #[.int .i64 a, .int .i64 b]) = .returned (.tuple #[.int .i64 c, .int .i64 d]) := by rw [h, h2]
set_option maxRecDepth 100000 in
set_option maxHeartbeats 8000000 in
theorem read_any (M : Cow) (As Af : Option Addr) (cs cf : Nat) (s p : Int) (w : World) (h : CwIn w M As cs Af cf) (hB : Big M) : Calls Try.prog 23 #[.agg (cwA M As cs Af cf), .int .i64 s, .int .i64 p] w fun e w' => e = .returned (.tuple #[.int .i64 (rdV M s p), .int .i64 (cpE M s p)]) ∧ Below w.heap.size w w' := by
  have K := hide (bal (brefl w) (.cells (cwA M As cs Af cf) 28))
  have X := hide (Box.new w 28 (cwA M As cs Af cf))
  have W0 := hide h
  have CK := hide (fun w' => fun hb : Below w.heap.size w w' => cpage_any M As Af cs cf s p w' (h.below hb) hB)
  have PA := hide (page_at (M := M) (s := s) (p := p))
  have E0 := hide (fun hn : cpE M s p ≠ 0 => show rdV M s p = 0 from if_pos hn)
  have E1 := hide (fun hn : cpE M s p = 0 => show rdV M s p = wdOf M s p from if_neg (fun g => g hn))
  clear h hB
  unfold cwA at K X CK ⊢
  generalize cpE M s p = ec at *
  go_enter Try.func23, Try.ntmps23
  go_upto_region 1 with fail
  obtain ⟨g, hg⟩ : ∃ g, g = w.heap.size := ⟨_, rfl⟩
  rw [← hg] at X ⊢
  clear hg
  obtain ⟨w1, hw1⟩ : ∃ w1, w1 = w.alloc (.cells #[.int .i64 M.sz, .slice As M.sp.length cs, .slice Af M.fr.length cf, .int .i64 M.cp] 28) := ⟨_, rfl⟩
  rw [← hw1] at X K ⊢
  clear hw1
  obtain ⟨x0, x1, x2, x3⟩ := box4 X.out
  go_wp2_with fail
  refine (CK.out _ K.out).mono ?_
  rintro e w2 ⟨rfl, hb⟩
  replace X := hide (X.out.below hb)
  replace K := hide (btrans K.out hb)
  clear hb x0 x1 x2 x3 CK
  obtain ⟨x0, x1, x2, x3⟩ := box4 X.out
  by_cases h1 : ec = 0
  · obtain ⟨n, m, rfl, rfl, hn, hm, hl, hz, hg, hsz, -, -, -⟩ := PA.out h1
    subst h1
    have E := hide (E1.out rfl)
    have l1 : M.sp.length ≤ 8 := hsz.2.1.2
    have l2 : (sAt M.sp n).2.length ≤ 512 := by have := hsz.1.2; omega
    have l3 : M.fr.length ≤ 256 := hsz.2.2.1.2
    have EW := hide (show wdOf M (n : Int) (m : Int) = if (pAt (sAt M.sp n).2 m).1 < 0 then 0 else (fAt M.fr (pAt (sAt M.sp n).2 m).1.toNat).2 from rfl)
    obtain ⟨b, o, v, rfl, hb, y0, y1, Ap, cp, rfl, hcp, hP⟩ := W0.out.rs.cells K.out hn
    obtain ⟨b2, o2, rfl, hb2, z0, z1⟩ := hP.cells (brefl _) hm
    clear hP y0 hsz hl hz
    obtain ⟨ln, hln⟩ : ∃ ln, ln = (sAt M.sp n).2.length := ⟨_, rfl⟩
    rw [← hln] at hm l2 y1
    clear hln hcp
    have n0 : (0 : Int) ≤ (n : Int) := by omega
    have m0 : (0 : Int) ≤ (m : Int) := by omega
    have n1 : (n : Int) < (M.sp.length : Int) := by omega
    have m1 : (m : Int) < (ln : Int) := by omega
    rcases hpt : pAt (sAt M.sp n).2 m with ⟨f, wv⟩
    rw [hpt] at z0 z1 hg EW
    simp only at z0 z1 EW
    clear hpt z1
    by_cases h2 : f < 0
    · have E2 := hide (E.out.trans (EW.out.trans (if_pos h2)))
      clear E EW
      go_wp2
      go_ret2
      exact ⟨ret_int2 E2.out.symm rfl, K.out⟩
    · have hf0 : f < (M.fr.length : Int) := by
        rcases hg with h | h
        · injection h with h _; omega
        · exact h.2
      have E2 := hide (E.out.trans (EW.out.trans (if_neg h2)))
      clear E EW
      obtain ⟨q, rfl⟩ := Int.eq_ofNat_of_zero_le (show 0 ≤ f by omega)
      have hq : q < M.fr.length := by omega
      have q0 : (0 : Int) ≤ (q : Int) := by omega
      obtain ⟨b3, o3, rfl, hb3, f0, f1⟩ := W0.out.rf.cells K.out hq
      rw [Int.toNat_natCast] at E2
      clear f0 hg
      go_wp2
      go_ret2
      exact ⟨ret_int2 E2.out.symm rfl, K.out⟩
  · have E := hide (E0.out h1)
    go_wp2
    go_ret2
    exact ⟨ret_int2 E.out.symm rfl, K.out⟩
-- USED
def usN (L : List Fr) : Nat := L.countP (fun f => f.1 != 0)
def usE (M : Cow) : Int := if chE M ≠ 0 then -1 else (usN M.fr : Int)
theorem usN_snoc (L : List Fr) (f : Fr) : usN (L ++ [f]) = usN L + (if f.1 = 0 then 0 else 1) := by
  unfold usN
  rw [List.countP_append]
  by_cases h : f.1 = 0 <;> simp [h]
theorem usN_le (L : List Fr) : usN L ≤ L.length := List.countP_le_length
set_option maxRecDepth 100000 in
set_option maxHeartbeats 8000000 in
theorem used_any (M : Cow) (As Af : Option Addr) (cs cf : Nat) (w : World) (h : CwIn w M As cs Af cf) (hB : Big M) : Calls Try.prog 16 #[.agg (cwA M As cs Af cf)] w fun e w' => e = .returned (.int .i64 (usE M)) ∧ Below w.heap.size w w' := by
  have K := hide (bal (brefl w) (.cells (cwA M As cs Af cf) 28))
  have X := hide (Box.new w 28 (cwA M As cs Af cf))
  have W0 := hide h
  have CK := hide (fun w' => fun hb : Below w.heap.size w w' => check_any M As Af cs cf w' (h.below hb) hB)
  have PA := hide (fun h0 : chE M = 0 => (chE_zero h0).1.2.2.1.2)
  have E0 := hide (fun hn : chE M ≠ 0 => show usE M = -1 from if_pos hn)
  have E1 := hide (fun hn : chE M = 0 => show usE M = (usN M.fr : Int) from if_neg (fun g => g hn))
  clear h hB
  unfold cwA at K X CK ⊢
  generalize chE M = ec at *
  go_enter Try.func16, Try.ntmps16
  go_upto_region 1 with fail
  obtain ⟨g, hg⟩ : ∃ g, g = w.heap.size := ⟨_, rfl⟩
  rw [← hg] at X ⊢
  clear hg
  obtain ⟨w1, hw1⟩ : ∃ w1, w1 = w.alloc (.cells #[.int .i64 M.sz, .slice As M.sp.length cs, .slice Af M.fr.length cf, .int .i64 M.cp] 28) := ⟨_, rfl⟩
  rw [← hw1] at X K ⊢
  clear hw1
  obtain ⟨x0, x1, x2, x3⟩ := box4 X.out
  go_wp2_with fail
  refine (CK.out _ K.out).mono ?_
  rintro e w2 ⟨rfl, hb⟩
  replace X := hide (X.out.below hb)
  replace K := hide (btrans K.out hb)
  clear hb x0 x1 x2 x3 CK
  obtain ⟨x0, x1, x2, x3⟩ := box4 X.out
  by_cases h1 : ec = 0
  · have hn := PA.out h1
    subst h1
    have E := hide (E1.out rfl)
    clear E0 E1 PA
    go_wp2
    clear x0 x1 x2 x3 X
    go_loopw [3, 12] (fun u i wr => ∃ k : Nat, k ≤ M.fr.length ∧ u = .int .i64 (usN (M.fr.take k) : Nat) ∧ i = .int .i64 k ∧ Hid (Below w.heap.size w wr)) (fun u i _ => M.fr.length - (intOf i).toNat)
    case atStart => exact ⟨0, Nat.zero_le _, rfl, rfl, K⟩
    case round =>
      clear K
      obtain ⟨k, hk, rfl, rfl, K⟩ := hrel
      by_cases hlt : k < M.fr.length
      · have hl2 : (k : Int) < (M.fr.length : Int) := by omega
        have hk0 : (0 : Int) ≤ (k : Int) := by omega
        obtain ⟨b, o, rfl, hb, y0, y1⟩ := W0.out.rf.cells K.out hlt
        have US := hide (usN_snoc (M.fr.take k) (fAt M.fr k))
        rw [← fAt_snoc hlt] at US
        have UL := usN_le (M.fr.take k)
        rw [List.length_take] at UL
        rcases hft : fAt M.fr k with ⟨cnt, wd⟩
        rw [hft] at y0 y1 US
        simp only at y0 y1 US
        clear hft
        obtain ⟨u, hu⟩ : ∃ u, u = usN (M.fr.take k) := ⟨_, rfl⟩
        rw [← hu] at US UL ⊢
        clear hu
        have u0 : u ≤ 256 := by omega
        clear UL
        replace K := hide (bal K.out (.cells #[.int .i64 cnt, .int .i64 wd] 53))
        have Z := hide (Box.new wr 53 #[.int .i64 cnt, .int .i64 wd])
        go_upto_region 7 with fail
        obtain ⟨g7, hg7⟩ : ∃ g, g = wr.heap.size := ⟨_, rfl⟩
        rw [← hg7] at Z ⊢
        clear hg7 y0 y1
        generalize wr.alloc (.cells #[.int .i64 cnt, .int .i64 wd] 53) = w5 at *
        obtain ⟨z0, z1⟩ := box2 Z.out
        by_cases h2 : cnt = 0
        · have US2 := hide (US.out.trans (by rw [if_pos h2]))
          go_wp2_with fail
          refine (free_is _ _ true (by simp [h2]) _).mono ?_
          rintro e w6 ⟨rfl, hb⟩
          replace K := hide (btrans K.out hb)
          clear hb z0 z1 Z US h2
          go_wp2
          go_roundw
          case rel => first | exact ⟨k + 1, by omega, by rw [US2.out]; rfl, by go_num, K⟩ | ((repeat apply Exists.intro); exact ⟨⟨k + 1, by omega, by rw [US2.out]; rfl, by go_num, K⟩, rfl⟩)
          case measure => simp [intOf]; omega
        · have US2 := hide (US.out.trans (by rw [if_neg h2]))
          go_wp2_with fail
          refine (free_is _ _ false (by simp [h2]) _).mono ?_
          rintro e w6 ⟨rfl, hb⟩
          replace K := hide (btrans K.out hb)
          clear hb z0 z1 Z US h2
          go_wp2
          go_roundw
          case rel => first | exact ⟨k + 1, by omega, by rw [US2.out]; go_num, by go_num, K⟩ | ((repeat apply Exists.intro); exact ⟨⟨k + 1, by omega, by rw [US2.out]; go_num, by go_num, K⟩, rfl⟩)
          case measure => simp [intOf]; omega
      · obtain rfl : k = M.fr.length := by omega
        rw [List.take_length]
        go_wp2
        go_ret
        exact ⟨ret_int E.out.symm, K.out⟩
  · have E := hide (E0.out h1)
    go_wp2
    go_ret
    exact ⟨ret_int E.out.symm, K.out⟩
end Go.Proofs.Ytoogdggiemacjaa.Cw
