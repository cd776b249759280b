import Derived.Test.YtoogdggiemacjaaV3
namespace Go.Proofs.Ytoogdggiemacjaa.Cw
open Go Go.RowKit
set_option linter.unusedVariables false
set_option linter.unusedSimpArgs false
def frV : Option Nat → Int
  | none => -1
  | some k => k
set_option maxRecDepth 100000 in
set_option maxHeartbeats 8000000 in
theorem rfree_any (M : Cow) (As Af : Option Addr) (cs cf : Nat) (w : World) (h : CwIn w M As cs Af cf) (hB : Big M) : Calls Try.prog 59 #[.agg (cwA M As cs Af cf)] w fun e w' => e = .returned (.int .i64 (frV (frI M.fr))) ∧ Below w.heap.size w w' := by
  have FH := hide (fun k (hk : k < M.fr.length) (h0 : (fAt M.fr k).1 = 0) (hb : ∀ j, j < k → (fAt M.fr j).1 ≠ 0) => show frV (frI M.fr) = k by
    cases hq : frI M.fr with
    | none => exact absurd h0 (frI_none hq k hk)
    | some q =>
      obtain ⟨q1, q2, q3⟩ := frI_some hq
      have : ¬ q < k := fun g => hb q g q2
      have : ¬ k < q := fun g => q3 k g h0
      rw [show q = k by omega]
      rfl)
  have FZ := hide (fun (hb : ∀ j, j < M.fr.length → (fAt M.fr j).1 ≠ 0) => show frV (frI M.fr) = -1 by
    cases hq : frI M.fr with
    | none => rfl
    | some q => obtain ⟨q1, q2, q3⟩ := frI_some hq; exact absurd q2 (hb q q1))
  generalize frV (frI M.fr) = fi at *
  have K := hide (bal (brefl w) (.cells (cwA M As cs Af cf) 28))
  have X := hide (Box.new w 28 (cwA M As cs Af cf))
  have W0 := hide h
  have hs9 := hB.sp
  have hf9 := hB.fr
  have PL := hide hB.pg
  clear h hB
  unfold cwA at K X ⊢
  go_enter Try.func59, Try.ntmps59
  go_upto_region 1 with fail
  obtain ⟨g, hg⟩ : ∃ g, g = w.heap.size := ⟨_, rfl⟩
  rw [← hg] at X ⊢
  clear hg
  generalize w.alloc (.cells #[.int .i64 M.sz, .slice As M.sp.length cs, .slice Af M.fr.length cf, .int .i64 M.cp] 28) = w1 at *
  go_wp2
  go_loopw [3] (fun i wr => ∃ k : Nat, k ≤ M.fr.length ∧ i = .int .i64 k ∧ Hid (∀ j, j < k → (fAt M.fr j).1 ≠ 0) ∧ Hid (Box wr g 28 #[.int .i64 M.sz, .slice As M.sp.length cs, .slice Af M.fr.length cf, .int .i64 M.cp]) ∧ Hid (Below w.heap.size w wr)) (fun i _ => M.fr.length - (intOf i).toNat)
  case atStart => exact ⟨0, Nat.zero_le _, rfl, hide (fun j hj => absurd hj (Nat.not_lt_zero _)), X, K⟩
  case round =>
    clear X K
    obtain ⟨k, hk, rfl, NZ, X, K⟩ := hrel
    obtain ⟨x0, x1, x2, x3⟩ := box4 X.out
    by_cases hlt : k < M.fr.length
    · have hl2 : (k : Int) < (M.fr.length : Int) := by omega
      have hk0 : (0 : Int) ≤ (k : Int) := by omega
      obtain ⟨b, off, rfl, hbl, y0, y1⟩ := W0.out.rf.cells K.out hlt
      have E := hide (FH.out k hlt)
      have N2 := hide (fun (hz : (fAt M.fr k).1 ≠ 0) j (hj : j < k + 1) => show (fAt M.fr j).1 ≠ 0 from if e : j = k then e ▸ hz else NZ.out j (by omega))
      generalize (fAt M.fr k).1 = cc at *
      by_cases hz : cc = 0
      · have d0 : (cc == 0) = true := by simp [hz]
        have E2 := hide (E.out hz NZ.out)
        clear hz E N2 NZ
        go_wp2
        go_ret
        exact ⟨by rw [E2.out]; rfl, K.out⟩
      · have d0 : (cc == 0) = false := by simp [hz]
        have N3 := hide (N2.out hz)
        clear hz E N2 NZ
        go_wp2
        go_roundw
        case rel => first | exact ⟨k + 1, by omega, by go_num, N3, X, K⟩ | ((repeat apply Exists.intro); exact ⟨⟨k + 1, by omega, by go_num, N3, X, K⟩, rfl⟩)
        case measure => simp [intOf]; omega
    · obtain rfl : M.fr.length = k := by omega
      have E := hide (FZ.out NZ.out)
      go_wp2
      go_ret
      exact ⟨by rw [E.out]; rfl, K.out⟩
theorem cnS_le_lT (f : Int) : ∀ S : List Sp, cnS f S ≤ lT S
  | [] => Nat.le_refl _
  | a :: l => by
    have ih := cnS_le_lT f l
    have := cnP_le f a.2
    rw [cnS_cons]
    unfold lT at ih ⊢
    rw [List.map_cons, List.sum_cons]
    omega
theorem cn_bd (f : Int) (S : List Sp) {i j : Nat} (hi : i < S.length) (hj : j ≤ (sAt S i).2.length) : cnS f (S.take i) + cnP f ((sAt S i).2.take j) ≤ lT S := by
  have h1 := cnS_le_lT f (S.take i)
  have h2 := cnP_le f ((sAt S i).2.take j)
  rw [List.length_take] at h2
  have h3 : lT (S.take (i + 1)) ≤ lT S := by
    have e : S = S.take (i + 1) ++ S.drop (i + 1) := (List.take_append_drop _ _).symm
    have : lT S = lT (S.take (i + 1)) + lT (S.drop (i + 1)) := by
      conv => lhs; rw [e]
      unfold lT
      rw [List.map_append, List.sum_append]
    omega
  have h4 : lT (S.take (i + 1)) = lT (S.take i) + (sAt S i).2.length := by
    rw [sAt_snoc hi]
    unfold lT
    rw [List.map_append, List.sum_append]
    simp
  omega
set_option maxRecDepth 100000 in
set_option maxHeartbeats 8000000 in
theorem shown_any (M : Cow) (As Af : Option Addr) (cs cf : Nat) (f : Int) (w : World) (h : CwIn w M As cs Af cf) (hB : Big M) (hL : lT M.sp ≤ 1000000) : Calls Try.prog 41 #[.agg (cwA M As cs Af cf), .int .i64 f] w fun e w' => e = .returned (.int .i64 (cnS f M.sp : Nat)) ∧ Below w.heap.size w w' := by
  have CB := hide (fun i (hi : i < M.sp.length) j (hj : j ≤ (sAt M.sp i).2.length) => show cnS f (M.sp.take i) + cnP f ((sAt M.sp i).2.take j) ≤ 1000000 from Nat.le_trans (cn_bd f M.sp hi hj) hL)
  clear hL
  have K := hide (bal (brefl w) (.cells (cwA M As cs Af cf) 28))
  have X := hide (Box.new w 28 (cwA M As cs Af cf))
  have W0 := hide h
  have hs9 := hB.sp
  have hf9 := hB.fr
  have PL := hide hB.pg
  clear h hB
  unfold cwA at K X ⊢
  go_enter Try.func41, Try.ntmps41
  go_upto_region 1 with fail
  obtain ⟨g, hg⟩ : ∃ g, g = w.heap.size := ⟨_, rfl⟩
  rw [← hg] at X ⊢
  clear hg
  generalize w.alloc (.cells #[.int .i64 M.sz, .slice As M.sp.length cs, .slice Af M.fr.length cf, .int .i64 M.cp] 28) = w1 at *
  go_wp2
  go_loopw [5, 6] (fun u q wr => ∃ i : Nat, i ≤ M.sp.length ∧ u = .int .i64 (cnS f (M.sp.take i) : Nat) ∧ q = .int .i64 i ∧ Hid (Box wr g 28 #[.int .i64 M.sz, .slice As M.sp.length cs, .slice Af M.fr.length cf, .int .i64 M.cp]) ∧ Hid (Below w.heap.size w wr)) (fun _ q _ => M.sp.length - (intOf q).toNat)
  case atStart => exact ⟨0, Nat.zero_le _, rfl, rfl, X, K⟩
  case round =>
    clear X K
    obtain ⟨i, hk, rfl, rfl, X, K⟩ := hrel
    obtain ⟨x0, x1, x2, x3⟩ := box4 X.out
    by_cases hlt : i < M.sp.length
    · have hl2 : (i : Int) < (M.sp.length : Int) := by omega
      have hk0 : (0 : Int) ≤ (i : Int) := by omega
      have PN := hide (PL.out i hlt)
      have C0 := hide (show cnS f (M.sp.take i) = cnS f (M.sp.take i) + cnP f ((sAt M.sp i).2.take 0) by rw [List.take_zero]; rfl)
      have NXT := hide (show cnS f (M.sp.take (i + 1)) = cnS f (M.sp.take i) + cnP f (sAt M.sp i).2 by rw [sAt_snoc hlt, cnS_snoc])
      have CBI := hide (CB.out i hlt)
      have SN := hide (fun j (hj : j < (sAt M.sp i).2.length) => show cnP f ((sAt M.sp i).2.take (j + 1)) = cnP f ((sAt M.sp i).2.take j) + (if (pAt (sAt M.sp i).2 j).1 = f then 1 else 0) by rw [pAt_snoc hj, cnP_snoc])
      obtain ⟨Ls, hLs⟩ : ∃ Ls, Ls = (sAt M.sp i).2 := ⟨_, rfl⟩
      have RR := hide (fun w' (hb : Below w.heap.size w w') => show ∃ b off A2 c2, As = some ⟨b, off, none⟩ ∧ w'.cell? ⟨b, off + i * 2 + 1, none⟩ = some (.slice A2 Ls.length c2) ∧ RdP w' A2 Ls by
        obtain ⟨b, off, v, eA, _, _, t1, A2, c2, ev, _, hR⟩ := W0.out.rs.cells hb hlt
        rw [hLs]
        exact ⟨b, off, A2, c2, eA, by rw [t1, ev], hR⟩)
      rw [← hLs] at PN C0 NXT CBI SN
      clear hLs
      go_wp2
      clear x0 x1 x2 x3
      go_loopw [5, 7] (fun u q wr => ∃ j : Nat, j ≤ Ls.length ∧ u = .int .i64 ((cnS f (M.sp.take i) + cnP f (Ls.take j) : Nat) : Int) ∧ q = .int .i64 j ∧ Hid (Box wr g 28 #[.int .i64 M.sz, .slice As M.sp.length cs, .slice Af M.fr.length cf, .int .i64 M.cp]) ∧ Hid (Below w.heap.size w wr)) (fun _ q _ => Ls.length - (intOf q).toNat)
      case atStart => exact ⟨0, Nat.zero_le _, by rw [← C0.out], rfl, X, K⟩
      case round =>
        clear X K
        obtain ⟨j, hj, rfl, rfl, X, K⟩ := hrel
        obtain ⟨x0, x1, x2, x3⟩ := box4 X.out
        obtain ⟨b, off, A2, c2, rfl, t1, hR⟩ := RR.out _ K.out
        have pn := PN.out
        by_cases hjl : j < Ls.length
        · have hj2 : (j : Int) < (Ls.length : Int) := by omega
          have hj0 : (0 : Int) ≤ (j : Int) := by omega
          obtain ⟨b2, o2, rfl, hb2, z0, z1⟩ := hR.cells (brefl _) hjl
          have B1 := CBI.out j (by omega)
          have S1 := hide (SN.out j hjl)
          clear hR
          obtain ⟨u0, hu0⟩ : ∃ u0, u0 = cnS f (M.sp.take i) + cnP f (Ls.take j) := ⟨_, rfl⟩
          have SU := hide (show cnS f (M.sp.take i) + cnP f (Ls.take (j + 1)) = u0 + (if (pAt Ls j).1 = f then 1 else 0) by rw [S1.out, hu0]; omega)
          rw [← hu0] at B1 ⊢
          clear hu0 S1
          generalize (pAt Ls j).1 = pf at *
          by_cases e : pf = f
          · have de : (pf == f) = true := by simp [e]
            have SU2 := hide (SU.out.trans (by rw [if_pos e]))
            clear e SU
            go_wp2
            go_roundw
            case rel => first | exact ⟨j + 1, by omega, by rw [SU2.out]; go_num, by go_num, X, K⟩ | ((repeat apply Exists.intro); exact ⟨⟨j + 1, by omega, by rw [SU2.out]; go_num, by go_num, X, K⟩, rfl⟩)
            case measure => simp [intOf]; omega
          · have de : (pf == f) = false := by simp [e]
            have SU2 := hide (SU.out.trans (by rw [if_neg e]))
            clear e SU
            go_wp2
            go_roundw
            case rel => first | exact ⟨j + 1, by omega, by rw [SU2.out]; rfl, by go_num, X, K⟩ | ((repeat apply Exists.intro); exact ⟨⟨j + 1, by omega, by rw [SU2.out]; rfl, by go_num, X, K⟩, rfl⟩)
            case measure => simp [intOf]; omega
        · obtain rfl : Ls.length = j := by omega
          rw [List.take_length]
          have N2 := hide (NXT.out.symm)
          go_wp2
          go_roundw
          case rel => first | exact ⟨i + 1, by omega, by rw [← N2.out], by go_num, X, K⟩ | ((repeat apply Exists.intro); exact ⟨⟨i + 1, by omega, by rw [← N2.out], by go_num, X, K⟩, rfl⟩)
          case measure => simp [intOf]; omega
    · obtain rfl : M.sp.length = i := by omega
      rw [List.take_length]
      go_wp2
      go_ret
      exact ⟨rfl, K.out⟩
end Go.Proofs.Ytoogdggiemacjaa.Cw
