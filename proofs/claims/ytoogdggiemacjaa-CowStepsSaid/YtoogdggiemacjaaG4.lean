import Derived.Test.YtoogdggiemacjaaG3
namespace Go.Proofs.Ytoogdggiemacjaa.Cw
open Go Go.RowKit
set_option linter.unusedVariables false
set_option linter.unusedSimpArgs false
set_option maxRecDepth 100000 in
set_option maxHeartbeats 8000000 in
theorem rused_any (M : Cow) (As Af : Option Addr) (cs cf : Nat) (w : World) (h : CwIn w M As cs Af cf) (hB : Big M) : Calls Try.prog 17 #[.agg (cwA M As cs Af cf)] w fun e w' => e = .returned (.int .i64 (usE M)) ∧ Below w.heap.size w w' := by
  have CK := hide (fun w' (hb : Below w.heap.size w w') => rcheck_any M As Af cs cf w' (h.below hb) hB)
  have NN := hide (fun h0 : chE M = 0 => (chE_zero h0).2.2.1)
  have SZ := hide (fun h0 : chE M = 0 => (chE_zero h0).1.2.2.1.2)
  have E0 := hide (fun hn : chE M ≠ 0 => show usE M = -1 from if_pos hn)
  have E1 := hide (fun hn : chE M = 0 => show usE M = (usN M.fr : Int) from if_neg (fun g => g hn))
  unfold cwA at CK
  generalize chE M = ec at *
  have K := hide (bal (brefl w) (.cells (cwA M As cs Af cf) 28))
  have X := hide (Box.new w 28 (cwA M As cs Af cf))
  have W0 := hide h
  have hs9 := hB.sp
  have hf9 := hB.fr
  have PL := hide hB.pg
  clear h hB
  unfold cwA at K X ⊢
  go_enter Try.func17, Try.ntmps17
  go_upto_region 1 with fail
  obtain ⟨g, hg⟩ : ∃ g, g = w.heap.size := ⟨_, rfl⟩
  rw [← hg] at X ⊢
  clear hg
  generalize w.alloc (.cells #[.int .i64 M.sz, .slice As M.sp.length cs, .slice Af M.fr.length cf, .int .i64 M.cp] 28) = w1 at *
  obtain ⟨x0, x1, x2, x3⟩ := box4 X.out
  go_wp2_with fail
  refine (CK.out _ K.out).mono ?_
  rintro e w2 ⟨rfl, hb⟩
  replace X := hide (X.out.below hb)
  replace K := hide (btrans K.out hb)
  clear hb x0 x1 x2 x3 CK
  obtain ⟨x0, x1, x2, x3⟩ := box4 X.out
  by_cases h1 : ec = 0
  · have ST := hide (NN.out h1)
    have s256 := SZ.out h1
    have E := hide (E1.out h1)
    subst h1
    clear E0 E1 NN SZ
    go_wp2
    clear x0 x1 x2 x3
    go_loopw [3, 4] (fun u i wr => ∃ k : Nat, k ≤ M.fr.length ∧ u = .int .i64 (usN (M.fr.take k) : Nat) ∧ i = .int .i64 k ∧ Hid (Box wr g 28 #[.int .i64 M.sz, .slice As M.sp.length cs, .slice Af M.fr.length cf, .int .i64 M.cp]) ∧ Hid (Below w.heap.size w wr)) (fun u i _ => M.fr.length - (intOf i).toNat)
    case atStart => exact ⟨0, Nat.zero_le _, rfl, rfl, X, K⟩
    case round =>
      clear X K
      obtain ⟨k, hk, rfl, rfl, X, K⟩ := hrel
      obtain ⟨x0, x1, x2, x3⟩ := box4 X.out
      by_cases hlt : k < M.fr.length
      · have hl2 : (k : Int) < (M.fr.length : Int) := by omega
        have hk0 : (0 : Int) ≤ (k : Int) := by omega
        obtain ⟨b, o, rfl, hb, y0, y1⟩ := W0.out.rf.cells K.out hlt
        have US := hide (usN_snoc (M.fr.take k) (fAt M.fr k))
        rw [← fAt_snoc hlt] at US
        have UL := usN_le (M.fr.take k)
        rw [List.length_take] at UL
        have NZ : 0 ≤ (fAt M.fr k).1 := by have := (ST.out k hlt).1; omega
        generalize (fAt M.fr k).1 = cnt at *
        obtain ⟨u, hu⟩ : ∃ u, u = usN (M.fr.take k) := ⟨_, rfl⟩
        rw [← hu] at US UL ⊢
        clear hu y1
        have u0 : u ≤ 256 := by omega
        clear UL
        by_cases h2 : cnt = 0
        · have d0 : decide (0 < cnt) = false := by simp; omega
          have US2 := hide (US.out.trans (by rw [if_pos h2]))
          clear US h2 NZ
          go_wp2
          go_roundw
          case rel => first | exact ⟨k + 1, by omega, by rw [US2.out]; rfl, by go_num, X, K⟩ | ((repeat apply Exists.intro); exact ⟨⟨k + 1, by omega, by rw [US2.out]; rfl, by go_num, X, K⟩, rfl⟩)
          case measure => simp [intOf]; omega
        · have d0 : decide (0 < cnt) = true := by simp; omega
          have US2 := hide (US.out.trans (by rw [if_neg h2]))
          clear US h2 NZ
          go_wp2
          go_roundw
          case rel => first | exact ⟨k + 1, by omega, by rw [US2.out]; go_num, by go_num, X, K⟩ | ((repeat apply Exists.intro); exact ⟨⟨k + 1, by omega, by rw [US2.out]; go_num, by go_num, X, K⟩, rfl⟩)
          case measure => simp [intOf]; omega
      · obtain rfl : M.fr.length = k := by omega
        rw [List.take_length]
        go_wp2
        go_ret
        exact ⟨ret_int E.out.symm, K.out⟩
  · have E := hide (E0.out h1)
    have d0 : (ec != 0) = true := by simpa using h1
    clear E0 E1 NN SZ h1
    go_wp2
    go_ret
    exact ⟨ret_int E.out.symm, K.out⟩
set_option maxRecDepth 100000 in
set_option maxHeartbeats 8000000 in
theorem rspace_any (M : Cow) (As Af : Option Addr) (cs cf : Nat) (s : Int) (w : World) (h : CwIn w M As cs Af cf) (hB : Big M) : Calls Try.prog 60 #[.agg (cwA M As cs Af cf), .int .i64 s] w fun e w' => e = .returned (.int .i64 (csE M s)) ∧ Below w.heap.size w w' := by
  have CK := hide (fun w' (hb : Below w.heap.size w w') => rcheck_any M As Af cs cf w' (h.below hb) hB)
  have E0 := hide (fun hn : chE M ≠ 0 => show csE M s = chE M from if_pos hn)
  have E1 := hide (fun (hn : chE M = 0) (hl : liveG M s) => show csE M s = 0 from (if_neg (fun g => g hn)).trans (if_pos hl))
  have E2 := hide (fun (hn : chE M = 0) (hl : ¬ liveG M s) => show csE M s = 6 from (if_neg (fun g => g hn)).trans (if_neg hl))
  unfold cwA at CK
  generalize csE M s = z at *
  generalize chE M = ec at *
  have K := hide (bal (brefl w) (.cells (cwA M As cs Af cf) 28))
  have X := hide (Box.new w 28 (cwA M As cs Af cf))
  have W0 := hide h
  have hs9 := hB.sp
  have hf9 := hB.fr
  have PL := hide hB.pg
  clear h hB
  unfold cwA at K X ⊢
  go_enter Try.func60, Try.ntmps60
  go_upto_region 1 with fail
  obtain ⟨g, hg⟩ : ∃ g, g = w.heap.size := ⟨_, rfl⟩
  rw [← hg] at X ⊢
  clear hg
  generalize w.alloc (.cells #[.int .i64 M.sz, .slice As M.sp.length cs, .slice Af M.fr.length cf, .int .i64 M.cp] 28) = w1 at *
  obtain ⟨x0, x1, x2, x3⟩ := box4 X.out
  go_wp2_with fail
  refine (CK.out _ K.out).mono ?_
  rintro e w2 ⟨rfl, hb⟩
  replace X := hide (X.out.below hb)
  replace K := hide (btrans K.out hb)
  clear hb x0 x1 x2 x3 CK
  obtain ⟨x0, x1, x2, x3⟩ := box4 X.out
  by_cases h1 : ec = 0
  · subst h1
    by_cases h2 : s < 0
    · have E := hide (E2.out rfl (fun hl => absurd hl.1 (by omega)))
      clear E0 E1 E2
      go_wp2
      go_ret
      exact ⟨ret_int E.out.symm, K.out⟩
    · have d2 : decide (s < 0) = false := by simpa using h2
      by_cases h3 : (M.sp.length : Int) ≤ s
      · have E := hide (E2.out rfl (fun hl => absurd hl.2.1 (by omega)))
        have d3 : decide ((M.sp.length : Int) ≤ s) = true := by simpa using h3
        clear E0 E1 E2
        go_wp2
        go_ret
        exact ⟨ret_int E.out.symm, K.out⟩
      · have d3 : decide ((M.sp.length : Int) ≤ s) = false := by simpa using h3
        obtain ⟨n, rfl⟩ : ∃ n : Nat, s = n := ⟨s.toNat, by omega⟩
        have hn : n < M.sp.length := by omega
        have hn2 : (n : Int) < (M.sp.length : Int) := by omega
        obtain ⟨b, off, v, rfl, hb, t0, _, _⟩ := W0.out.rs.cells K.out hn
        have EA := hide (fun hl : (sAt M.sp n).1 = true => E1.out rfl ⟨by omega, by omega, by rw [Int.toNat_natCast]; exact hl⟩)
        have EB := hide (fun hl : (sAt M.sp n).1 = false => E2.out rfl (fun g => by have := g.2.2; rw [Int.toNat_natCast, hl] at this; cases this))
        have d3n : decide (M.sp.length ≤ n) = false := by simp; omega
        generalize (sAt M.sp n).1 = lv at *
        clear E0 E1 E2
        cases lv
        · have E := hide (EB.out rfl)
          clear EA EB
          go_wp2
          go_ret
          exact ⟨ret_int E.out.symm, K.out⟩
        · have E := hide (EA.out rfl)
          clear EA EB
          go_wp2
          go_ret
          exact ⟨ret_int E.out.symm, K.out⟩
  · have E := hide (E0.out h1)
    have d0 : (ec == 0) = false := by simp [h1]
    clear E0 E1 E2 h1
    go_wp2
    go_ret
    exact ⟨ret_int E.out.symm, K.out⟩
set_option maxRecDepth 100000 in
set_option maxHeartbeats 8000000 in
theorem rplace_any (M : Cow) (As Af : Option Addr) (cs cf : Nat) (s p : Int) (w : World) (h : CwIn w M As cs Af cf) (hB : Big M) : Calls Try.prog 57 #[.agg (cwA M As cs Af cf), .int .i64 s, .int .i64 p] w fun e w' => e = .returned (.int .i64 (cpE M s p)) ∧ Below w.heap.size w w' := by
  have CK := hide (fun w' (hb : Below w.heap.size w w') => rspace_any M As Af cs cf s w' (h.below hb) hB)
  have E0 := hide (fun hn : csE M s ≠ 0 => show cpE M s p = csE M s from if_pos hn)
  have E1 := hide (fun (hn : csE M s = 0) (hl : 0 ≤ p ∧ p < M.sz) => show cpE M s p = 0 from (if_neg (fun g => g hn)).trans (if_pos hl))
  have E2 := hide (fun (hn : csE M s = 0) (hl : ¬ (0 ≤ p ∧ p < M.sz)) => show cpE M s p = 2 from (if_neg (fun g => g hn)).trans (if_neg hl))
  unfold cwA at CK
  generalize cpE M s p = z at *
  generalize csE M s = ec at *
  have K := hide (bal (brefl w) (.cells (cwA M As cs Af cf) 28))
  have X := hide (Box.new w 28 (cwA M As cs Af cf))
  have W0 := hide h
  have hs9 := hB.sp
  have hf9 := hB.fr
  have PL := hide hB.pg
  clear h hB
  unfold cwA at K X ⊢
  go_enter Try.func57, Try.ntmps57
  go_upto_region 1 with fail
  obtain ⟨g, hg⟩ : ∃ g, g = w.heap.size := ⟨_, rfl⟩
  rw [← hg] at X ⊢
  clear hg
  generalize w.alloc (.cells #[.int .i64 M.sz, .slice As M.sp.length cs, .slice Af M.fr.length cf, .int .i64 M.cp] 28) = w1 at *
  obtain ⟨x0, x1, x2, x3⟩ := box4 X.out
  go_wp2_with fail
  refine (CK.out _ K.out).mono ?_
  rintro e w2 ⟨rfl, hb⟩
  replace X := hide (X.out.below hb)
  replace K := hide (btrans K.out hb)
  clear hb x0 x1 x2 x3 CK
  obtain ⟨x0, x1, x2, x3⟩ := box4 X.out
  by_cases h1 : ec = 0
  · subst h1
    by_cases h2 : p < 0
    · have E := hide (E2.out rfl (fun hl => absurd hl.1 (by omega)))
      clear E0 E1 E2
      go_wp2
      go_ret
      exact ⟨ret_int E.out.symm, K.out⟩
    · have d2 : decide (p < 0) = false := by simpa using h2
      by_cases h3 : M.sz ≤ p
      · have E := hide (E2.out rfl (fun hl => absurd hl.2 (by omega)))
        have d3 : decide (M.sz ≤ p) = true := by simpa using h3
        clear E0 E1 E2
        go_wp2
        go_ret
        exact ⟨ret_int E.out.symm, K.out⟩
      · have d3 : decide (M.sz ≤ p) = false := by simpa using h3
        have E := hide (E1.out rfl ⟨by omega, by omega⟩)
        clear E0 E1 E2
        go_wp2
        go_ret
        exact ⟨ret_int E.out.symm, K.out⟩
  · have E := hide (E0.out h1)
    have d0 : (ec == 0) = false := by simp [h1]
    clear E0 E1 E2 h1
    go_wp2
    go_ret
    exact ⟨ret_int E.out.symm, K.out⟩
def fewG (M : Cow) : Prop := M.sp.length ≤ 20 ∧ M.fr.length ≤ 300 ∧ ∀ i, i < M.sp.length → (sAt M.sp i).2.length ≤ 40
instance (M : Cow) : Decidable (fewG M) := by unfold fewG; infer_instance
set_option maxRecDepth 100000 in
set_option maxHeartbeats 8000000 in
theorem few_any (M : Cow) (As Af : Option Addr) (cs cf : Nat) (w : World) (h : CwIn w M As cs Af cf) (hB : Big M) : Calls Try.prog 18 #[.agg (cwA M As cs Af cf)] w fun e w' => e = .returned (.bool (decide (fewG M))) ∧ Below w.heap.size w w' := by
  have BD := hide (fun (hb : ¬ fewG M) => show decide (fewG M) = false from decide_eq_false hb)
  have GD := hide (fun (hb : fewG M) => show decide (fewG M) = true from decide_eq_true hb)
  have FD := hide (show fewG M ↔ M.sp.length ≤ 20 ∧ M.fr.length ≤ 300 ∧ ∀ i, i < M.sp.length → (sAt M.sp i).2.length ≤ 40 from Iff.rfl)
  generalize decide (fewG M) = dd at *
  have K := hide (bal (brefl w) (.cells (cwA M As cs Af cf) 28))
  have X := hide (Box.new w 28 (cwA M As cs Af cf))
  have W0 := hide h
  have hs9 := hB.sp
  have hf9 := hB.fr
  have PL := hide hB.pg
  clear h hB
  unfold cwA at K X ⊢
  go_enter Try.func18, Try.ntmps18
  go_upto_region 1 with fail
  obtain ⟨g, hg⟩ : ∃ g, g = w.heap.size := ⟨_, rfl⟩
  rw [← hg] at X ⊢
  clear hg
  generalize w.alloc (.cells #[.int .i64 M.sz, .slice As M.sp.length cs, .slice Af M.fr.length cf, .int .i64 M.cp] 28) = w1 at *
  obtain ⟨x0, x1, x2, x3⟩ := box4 X.out
  by_cases a1 : 20 < (M.sp.length : Int)
  · have E := hide (BD.out (fun g => by have := (FD.out.1 g).1; omega))
    go_wp2
    go_ret
    exact ⟨ret_bool E.out.symm, K.out⟩
  · by_cases a2 : 300 < (M.fr.length : Int)
    · have E := hide (BD.out (fun g => by have := (FD.out.1 g).2.1; omega))
      go_wp2
      go_ret
      exact ⟨ret_bool E.out.symm, K.out⟩
    · have GD2 := hide (fun (hg : ∀ i, i < M.sp.length → (sAt M.sp i).2.length ≤ 40) => GD.out (FD.out.2 ⟨by omega, by omega, hg⟩))
      have BD2 := hide (fun i (hi : i < M.sp.length) (hb : ¬ (sAt M.sp i).2.length ≤ 40) => BD.out (fun g => hb ((FD.out.1 g).2.2 i hi)))
      clear GD BD FD
      go_wp2
      clear x0 x1 x2 x3 a1 a2
      go_loopw [3] (fun q wr => ∃ i : Nat, i ≤ M.sp.length ∧ q = .int .i64 i ∧ Hid (∀ m, m < i → (sAt M.sp m).2.length ≤ 40) ∧ Hid (Box wr g 28 #[.int .i64 M.sz, .slice As M.sp.length cs, .slice Af M.fr.length cf, .int .i64 M.cp]) ∧ Hid (Below w.heap.size w wr)) (fun q _ => M.sp.length - (intOf q).toNat)
      case atStart => exact ⟨0, Nat.zero_le _, rfl, hide (fun m hm => absurd hm (Nat.not_lt_zero _)), X, K⟩
      case round =>
        clear X K
        obtain ⟨i, hk, rfl, SG, X, K⟩ := hrel
        obtain ⟨x0, x1, x2, x3⟩ := box4 X.out
        by_cases hlt : i < M.sp.length
        · have hl2 : (i : Int) < (M.sp.length : Int) := by omega
          have hk0 : (0 : Int) ≤ (i : Int) := by omega
          have pn := PL.out i hlt
          have B1 := hide (BD2.out i hlt)
          have N1 := hide (fun (h : (sAt M.sp i).2.length ≤ 40) m (hm : m < i + 1) => show (sAt M.sp m).2.length ≤ 40 from if e : m = i then e ▸ h else SG.out m (by omega))
          obtain ⟨b, off, v, rfl, hb, t0, t1, A2, c2, rfl, hc2, hR⟩ := W0.out.rs.cells K.out hlt
          generalize (sAt M.sp i).2.length = n at *
          clear hR SG
          by_cases c1 : 40 < (n : Int)
          · have E := hide (B1.out (by omega))
            clear B1 N1
            go_wp2
            go_ret
            exact ⟨ret_bool E.out.symm, K.out⟩
          · have G := hide (N1.out (by omega))
            clear B1 N1
            go_wp2
            go_roundw
            case rel => first | exact ⟨i + 1, by omega, by go_num, G, X, K⟩ | ((repeat apply Exists.intro); exact ⟨⟨i + 1, by omega, by go_num, G, X, K⟩, rfl⟩)
            case measure => simp [intOf]; omega
        · obtain rfl : M.sp.length = i := by omega
          have E := hide (GD2.out SG.out)
          go_wp2
          go_ret
          exact ⟨ret_bool E.out.symm, K.out⟩
end Go.Proofs.Ytoogdggiemacjaa.Cw
