import Derived.Test.YtncjicggolmofaaAc
namespace Go.Proofs.Ytncjicggolmofaa.Sb
open Go Go.RowKit
set_option linter.unusedVariables false
set_option linter.unusedSimpArgs false
/-- how many new frames n more objects need -/
def ndN (S : Sc) (n : Int) : Int := if chE S = 0 ∧ aR S < n then (n - aR S - 1) / S.ob + 1 else 0
theorem aR_bd {S : Sc} (h : chE S = 0) : 0 ≤ aR S ∧ aR S ≤ 8192 := by
  have hv := vd_of h
  have hN := hv.wf.len
  have e : aR S = (S.sl.length : Int) * S.ob - ((ud S S.sl.length : Nat) : Int) := if_pos h
  have ho := hv.ob
  have hp : (S.sl.length : Int) * S.ob ≤ 8192 := by
    have h2 : (S.sl.length : Int) * S.ob ≤ 256 * S.ob := Int.mul_le_mul_of_nonneg_right (by omega) (by omega)
    omega
  have hu : ∀ k, k ≤ S.sl.length → ((ud S k : Nat) : Int) ≤ (k : Int) * S.ob := by
    intro k
    induction k with
    | zero => intro _; show ((0 : Nat) : Int) ≤ _; simp
    | succ k ih =>
      intro hk
      have a := ih (by omega)
      have b := hv.ln k (by omega)
      have c : cnt (us S k) ≤ (us S k).length := List.count_le_length
      show ((ud S k + cnt (us S k) : Nat) : Int) ≤ _
      have d : ((k + 1 : Nat) : Int) * S.ob = (k : Int) * S.ob + S.ob := by rw [Int.natCast_add, Int.add_mul]; simp
      rw [d]
      omega
  have := hu S.sl.length (Nat.le_refl _)
  omega
theorem nd_le {S : Sc} {n : Int} (h : chE S = 0) (hl : n ≤ aR S) : ndN S n = 0 := if_neg (fun g => by omega)
theorem nd_gt {S : Sc} {n : Int} (h : chE S = 0) (hl : ¬ n ≤ aR S) : ndN S n = (n - aR S - 1) / S.ob + 1 := if_pos ⟨h, by omega⟩
theorem nd_1 {S : Sc} {n : Int} (h : n < 1) : ndN S n = 0 := if_neg (fun g => by have := aR_bd g.1; omega)
set_option maxRecDepth 100000 in
set_option maxHeartbeats 8000000 in
theorem racc_any (A : Option Addr) (cp : Nat) (S : Sc) (w : World) (hr : RdC w A S.sl) (hn : S.sl.length ≤ 9223372036854775807) (hln : ∀ k, k < S.sl.length → (us S k).length ≤ 9223372036854775807) : Calls Try.prog 20 #[.agg #[.int .i64 S.ob, .slice A S.sl.length cp]] w fun e w' => e = .returned (.tuple #[.int .i64 (aF S), .int .i64 (aU S), .int .i64 (aR S)]) ∧ Below w.heap.size w w' := by
  have X2 := hide (Box.new w 24 #[.int .i64 S.ob, .slice A S.sl.length cp])
  have KF := hide (bal (brefl w) (.cells #[.int .i64 S.ob, .slice A S.sl.length cp] 24))
  obtain ⟨W0, hW0⟩ : ∃ W0, W0 = (w.alloc (.cells #[.int .i64 S.ob, .slice A S.sl.length cp] 24)) := ⟨_, rfl⟩
  rw [← hW0] at X2 KF
  obtain ⟨g2, hg2⟩ : ∃ g2, g2 = w.heap.size := ⟨_, rfl⟩
  rw [← hg2] at X2
  have HR := hide (hr.below KF.out)
  have x0 := X2.out.cell 0
  have x1 := X2.out.cell 1
  simp at x0 x1
  clear hr
  have CK := hide (rcheck_any A cp S W0 HR.out hn hln)
  by_cases hc : chE S = 0
  · have HW := hide (vd_of hc).wf
    have hN := HW.out.len
    have HO := HW.out.ob
    have E := hide (show aF S = (S.sl.length : Int) ∧ aU S = ((ud S S.sl.length : Nat) : Int) ∧ aR S = (S.sl.length : Int) * S.ob - ((ud S S.sl.length : Nat) : Int) from ⟨if_pos hc, if_pos hc, if_pos hc⟩)
    have HLN := hide hln
    rw [hc] at CK
    clear hc hn hln
    have hp : 0 ≤ (S.sl.length : Int) * S.ob ∧ (S.sl.length : Int) * S.ob ≤ 8192 := by
      constructor
      · exact Int.mul_nonneg (by omega) (by omega)
      · have h2 : (S.sl.length : Int) * S.ob ≤ 256 * S.ob := Int.mul_le_mul_of_nonneg_right (by omega) (by omega)
        omega
    obtain ⟨pr, hpr⟩ : ∃ pr, pr = (S.sl.length : Int) * S.ob := ⟨_, rfl⟩
    have hpr2 : (S.sl.length : Int) * S.ob = pr := hpr.symm
    rw [← hpr] at hp E
    clear hpr
    go_enter Try.func20, Try.ntmps20
    go_upto_region 1 with fail
    rw [← hg2, ← hW0]
    clear hg2 hW0
    go_upto_region 5 with (go_at_call 17; refine CK.out.mono ?_; rintro e w1 ⟨rfl, hb⟩; have X21 := hide (X2.out.below hb); have K1 := hide (KF.out.trans (hb.mono KF.out.size)); have HR1 := hide (HR.out.below hb); clear hb)
    clear x0 x1 X2 CK HR KF
    go_loopw [5, 6] (fun a i wr => ∃ k : Nat, k ≤ S.sl.length ∧ i = .int .i64 k ∧ a = .int .i64 ((ud S k : Nat) : Int) ∧ Hid (Below w1.heap.size w1 wr)) (fun _ i _ => S.sl.length - (intOf i).toNat)
    case atStart => exact ⟨0, Nat.zero_le _, rfl, rfl, hide (Below.refl _ _)⟩
    case round =>
      obtain ⟨k, hk, rfl, rfl, K⟩ := hrel
      have x0 := (X21.out.below K.out).cell 0
      have x1 := (X21.out.below K.out).cell 1
      simp at x0 x1
      have hud := ud_le HW.out hk
      by_cases hlt : k < S.sl.length
      · have hl2 : (k : Int) < (S.sl.length : Int) := by omega
        have hk0 : (0 : Int) ≤ (k : Int) := by omega
        obtain ⟨b, off, vu, rfl, _, y0, y1, hu⟩ := HR1.out.cells K.out hlt
        obtain ⟨Au, cu, rfl, _, hbu⟩ := hu
        change wr.cell? _ = some (.int .i64 (fr S k)) at y0
        change wr.cell? _ = some (.slice Au (us S k).length cu) at y1
        change Bs wr Au (us S k) at hbu
        have UA := hide (used_any (fr S k) Au cu (us S k) wr hbu (HLN.out k hlt))
        have hud2 := ud_le HW.out (show k + 1 ≤ S.sl.length by omega)
        have EU := hide (show ud S (k + 1) = ud S k + cnt (us S k) from rfl)
        have hud3 : ud S k + cnt (us S k) ≤ 32 * (k + 1) := hud2
        clear hud2 hbu
        generalize ud S k = uu at *
        generalize cnt (us S k) = cu2 at *
        go_wp2_with (go_at_call 36; refine UA.out.mono ?_; rintro e w9 ⟨rfl, hb⟩; replace K := hide (K.out.trans (hb.mono K.out.size)); clear hb)
        go_roundw
        case rel => first | exact ⟨k + 1, by omega, by go_num, by rw [EU.out]; go_num, K⟩ | ((repeat apply Exists.intro); exact ⟨⟨k + 1, by omega, by go_num, by rw [EU.out]; go_num, K⟩, rfl⟩)
        case measure => simp [intOf]; omega
      · obtain rfl : k = S.sl.length := by omega
        generalize ud S S.sl.length = uu at *
        have hw : IntKind.i64.wrap (IntKind.i64.wrap pr - (uu : Int)) = pr - (uu : Int) := by rw [IntKind.wrap_i64, IntKind.wrap_i64]; omega
        go_wp2
        go_quiet (fail)
        go_wp2
        refine ret_iii Try.results20 rfl rfl rfl rfl ⟨?_, below_drewN (K1.out.trans (K.out.mono K1.out.size)) _⟩
        rw [E.out.1, E.out.2.1, E.out.2.2]
  · have E := hide (show aF S = 0 ∧ aU S = 0 ∧ aR S = 0 from ⟨if_neg hc, if_neg hc, if_neg hc⟩)
    have dc : (chE S != 0) = true := by simpa using hc
    clear hc hn hln
    generalize chE S = ce at *
    go_enter Try.func20, Try.ntmps20
    go_upto_region 1 with fail
    rw [← hg2, ← hW0]
    clear hg2 hW0
    go_wp2_with (go_at_call 17; refine CK.out.mono ?_; rintro e w1 ⟨rfl, hb⟩; have K1 := hide (KF.out.trans (hb.mono KF.out.size)); clear hb)
    refine ret_iii Try.results20 rfl rfl rfl rfl ⟨?_, K1.out⟩
    rw [E.out.1, E.out.2.1, E.out.2.2]
set_option maxRecDepth 100000 in
set_option maxHeartbeats 8000000 in
theorem need_any (A : Option Addr) (cp : Nat) (S : Sc) (n : Int) (w : World) (hr : RdC w A S.sl) (hnr : n ≤ 9223372036854775807 ∧ -9223372036854775808 ≤ n) (hn : S.sl.length ≤ 9223372036854775807) (hln : ∀ k, k < S.sl.length → (us S k).length ≤ 9223372036854775807) : Calls Try.prog 21 #[.agg #[.int .i64 S.ob, .slice A S.sl.length cp], .int .i64 n] w fun e w' => e = .returned (.int .i64 (ndN S n)) ∧ Below w.heap.size w w' := by
  have X2 := hide (Box.new w 24 #[.int .i64 S.ob, .slice A S.sl.length cp])
  have KF := hide (bal (brefl w) (.cells #[.int .i64 S.ob, .slice A S.sl.length cp] 24))
  obtain ⟨W0, hW0⟩ : ∃ W0, W0 = (w.alloc (.cells #[.int .i64 S.ob, .slice A S.sl.length cp] 24)) := ⟨_, rfl⟩
  rw [← hW0] at X2 KF
  obtain ⟨g2, hg2⟩ : ∃ g2, g2 = w.heap.size := ⟨_, rfl⟩
  rw [← hg2] at X2
  have HR := hide (hr.below KF.out)
  have x0 := X2.out.cell 0
  have x1 := X2.out.cell 1
  simp at x0 x1
  clear hr
  have CK := hide (check_any A cp S W0 HR.out hn hln)
  by_cases hc : chE S = 0
  · have HA := hide (show aR S = (S.sl.length : Int) * S.ob - ((ud S S.sl.length : Nat) : Int) from if_pos hc)
    have hub := aR_bd hc
    have HO := (vd_of hc).ob
    have HN := hide hn
    have HLN := hide hln
    rw [hc] at CK
    clear hn hln
    by_cases hle : n ≤ aR S
    · have E := hide (show ndN S n = 0 from nd_le hc hle)
      clear hc
      go_enter Try.func21, Try.ntmps21
      go_upto_region 1 with fail
      rw [← hg2, ← hW0]
      clear hg2 hW0
      go_upto_region 3 with (go_at_call 16; refine CK.out.mono ?_; rintro e w1 ⟨rfl, hb⟩; have X21 := hide (X2.out.below hb); have K1 := hide (KF.out.trans (hb.mono KF.out.size)); have HR1 := hide (HR.out.below hb); clear hb)
      clear x0 x1 X2 CK HR KF
      have x0 := X21.out.cell 0
      have x1 := X21.out.cell 1
      simp at x0 x1
      have AC := hide (acc_any A cp S w1 HR1.out HN.out HLN.out)
      go_upto_region 4 with (go_at_call 19; refine AC.out.mono ?_; rintro e w2 ⟨rfl, hb⟩; have X22 := hide (X21.out.below hb); have K2 := hide (K1.out.trans (hb.mono K1.out.size)); clear hb)
      clear x0 x1
      have x0 := X22.out.cell 0
      have x1 := X22.out.cell 1
      simp at x0 x1
      clear AC X21 X22
      generalize aR S = ar at *
      go_wp2
      go_ret
      exact ⟨ret_int E.out.symm, K2.out⟩
    · have E := hide (show ndN S n = (n - aR S - 1) / S.ob + 1 from nd_gt hc hle)
      clear hc
      go_enter Try.func21, Try.ntmps21
      go_upto_region 1 with fail
      rw [← hg2, ← hW0]
      clear hg2 hW0
      go_upto_region 3 with (go_at_call 16; refine CK.out.mono ?_; rintro e w1 ⟨rfl, hb⟩; have X21 := hide (X2.out.below hb); have K1 := hide (KF.out.trans (hb.mono KF.out.size)); have HR1 := hide (HR.out.below hb); clear hb)
      clear x0 x1 X2 CK HR KF
      have x0 := X21.out.cell 0
      have x1 := X21.out.cell 1
      simp at x0 x1
      have AC := hide (acc_any A cp S w1 HR1.out HN.out HLN.out)
      go_upto_region 4 with (go_at_call 19; refine AC.out.mono ?_; rintro e w2 ⟨rfl, hb⟩; have X22 := hide (X21.out.below hb); have K2 := hide (K1.out.trans (hb.mono K1.out.size)); clear hb)
      clear x0 x1
      have x0 := X22.out.cell 0
      have x1 := X22.out.cell 1
      simp at x0 x1
      clear AC X21 X22
      generalize aR S = ar at *
      generalize S.ob = o at *
      have h0 : ((o == 0) : Bool) = false := beq_eq_false_iff_ne.2 (by omega)
      have ht : (n - ar - 1).tdiv o = (n - ar - 1) / o := Int.tdiv_eq_ediv_of_nonneg (by omega)
      have hq1 : 0 ≤ (n - ar - 1) / o := Int.ediv_nonneg (by omega) (by omega)
      have hq2 : (n - ar - 1) / o ≤ n - ar - 1 := Int.ediv_le_self _ (by omega)
      obtain ⟨q, hq⟩ : ∃ q, q = (n - ar - 1) / o := ⟨_, rfl⟩
      rw [← hq] at ht hq1 hq2 E
      clear hq
      go_wp2
      go_ret
      exact ⟨ret_int E.out.symm, K2.out⟩
  · have E := hide (show ndN S n = 0 from if_neg (fun g => hc g.1))
    have dc : (chE S != 0) = true := by simpa using hc
    clear hc hn hln
    generalize chE S = ce at *
    go_enter Try.func21, Try.ntmps21
    go_upto_region 1 with fail
    rw [← hg2, ← hW0]
    clear hg2 hW0
    go_wp2_with (go_at_call 16; refine CK.out.mono ?_; rintro e w1 ⟨rfl, hb⟩; have K1 := hide (KF.out.trans (hb.mono KF.out.size)); clear hb)
    go_ret
    exact ⟨ret_int E.out.symm, K1.out⟩
set_option maxRecDepth 100000 in
set_option maxHeartbeats 8000000 in
theorem rneed_any (A : Option Addr) (cp : Nat) (S : Sc) (n : Int) (w : World) (hr : RdC w A S.sl) (hnr : n ≤ 9223372036854775807 ∧ -9223372036854775808 ≤ n) (hn : S.sl.length ≤ 9223372036854775807) (hln : ∀ k, k < S.sl.length → (us S k).length ≤ 9223372036854775807) : Calls Try.prog 22 #[.agg #[.int .i64 S.ob, .slice A S.sl.length cp], .int .i64 n] w fun e w' => e = .returned (.int .i64 (ndN S n)) ∧ Below w.heap.size w w' := by
  have X2 := hide (Box.new w 24 #[.int .i64 S.ob, .slice A S.sl.length cp])
  have KF := hide (bal (brefl w) (.cells #[.int .i64 S.ob, .slice A S.sl.length cp] 24))
  obtain ⟨W0, hW0⟩ : ∃ W0, W0 = (w.alloc (.cells #[.int .i64 S.ob, .slice A S.sl.length cp] 24)) := ⟨_, rfl⟩
  rw [← hW0] at X2 KF
  obtain ⟨g2, hg2⟩ : ∃ g2, g2 = w.heap.size := ⟨_, rfl⟩
  rw [← hg2] at X2
  have HR := hide (hr.below KF.out)
  have x0 := X2.out.cell 0
  have x1 := X2.out.cell 1
  simp at x0 x1
  clear hr
  have CK := hide (rcheck_any A cp S W0 HR.out hn hln)
  by_cases hn1 : n < 1
  · have E := hide (show ndN S n = 0 from nd_1 hn1)
    clear CK hn hln
    go_enter Try.func22, Try.ntmps22
    go_upto_region 1 with fail
    rw [← hg2, ← hW0]
    clear hg2 hW0
    go_wp2
    go_ret
    exact ⟨ret_int E.out.symm, KF.out⟩
  · by_cases hc : chE S = 0
    · have HA := hide (show aR S = (S.sl.length : Int) * S.ob - ((ud S S.sl.length : Nat) : Int) from if_pos hc)
      have hub := aR_bd hc
      have HO := (vd_of hc).ob
      have HN := hide hn
      have HLN := hide hln
      rw [hc] at CK
      clear hn hln
      by_cases hle : n ≤ aR S
      · have E := hide (show ndN S n = 0 from nd_le hc hle)
        clear hc
        go_enter Try.func22, Try.ntmps22
        go_upto_region 1 with fail
        rw [← hg2, ← hW0]
        clear hg2 hW0
        go_upto_region 3 with (go_at_call 17; refine CK.out.mono ?_; rintro e w1 ⟨rfl, hb⟩; have X21 := hide (X2.out.below hb); have K1 := hide (KF.out.trans (hb.mono KF.out.size)); have HR1 := hide (HR.out.below hb); clear hb)
        clear x0 x1 X2 CK HR KF
        have x0 := X21.out.cell 0
        have x1 := X21.out.cell 1
        simp at x0 x1
        have AC := hide (racc_any A cp S w1 HR1.out HN.out HLN.out)
        go_upto_region 4 with (go_at_call 20; refine AC.out.mono ?_; rintro e w2 ⟨rfl, hb⟩; have X22 := hide (X21.out.below hb); have K2 := hide (K1.out.trans (hb.mono K1.out.size)); clear hb)
        clear x0 x1
        have x0 := X22.out.cell 0
        have x1 := X22.out.cell 1
        simp at x0 x1
        clear AC X21 X22
        generalize aR S = ar at *
        go_wp2
        go_ret
        exact ⟨ret_int E.out.symm, K2.out⟩
      · have E := hide (show ndN S n = (n - aR S - 1) / S.ob + 1 from nd_gt hc hle)
        clear hc
        go_enter Try.func22, Try.ntmps22
        go_upto_region 1 with fail
        rw [← hg2, ← hW0]
        clear hg2 hW0
        go_upto_region 3 with (go_at_call 17; refine CK.out.mono ?_; rintro e w1 ⟨rfl, hb⟩; have X21 := hide (X2.out.below hb); have K1 := hide (KF.out.trans (hb.mono KF.out.size)); have HR1 := hide (HR.out.below hb); clear hb)
        clear x0 x1 X2 CK HR KF
        have x0 := X21.out.cell 0
        have x1 := X21.out.cell 1
        simp at x0 x1
        have AC := hide (racc_any A cp S w1 HR1.out HN.out HLN.out)
        go_upto_region 4 with (go_at_call 20; refine AC.out.mono ?_; rintro e w2 ⟨rfl, hb⟩; have X22 := hide (X21.out.below hb); have K2 := hide (K1.out.trans (hb.mono K1.out.size)); clear hb)
        clear x0 x1
        have x0 := X22.out.cell 0
        have x1 := X22.out.cell 1
        simp at x0 x1
        clear AC X21 X22
        generalize aR S = ar at *
        generalize S.ob = o at *
        have h0 : ((o == 0) : Bool) = false := beq_eq_false_iff_ne.2 (by omega)
        have ht : (n - ar - 1).tdiv o = (n - ar - 1) / o := Int.tdiv_eq_ediv_of_nonneg (by omega)
        have hq1 : 0 ≤ (n - ar - 1) / o := Int.ediv_nonneg (by omega) (by omega)
        have hq2 : (n - ar - 1) / o ≤ n - ar - 1 := Int.ediv_le_self _ (by omega)
        obtain ⟨q, hq⟩ : ∃ q, q = (n - ar - 1) / o := ⟨_, rfl⟩
        rw [← hq] at ht hq1 hq2 E
        clear hq
        go_wp2
        go_ret
        exact ⟨ret_int E.out.symm, K2.out⟩
    · have E := hide (show ndN S n = 0 from if_neg (fun g => hc g.1))
      have dc : (chE S != 0) = true := by simpa using hc
      clear hc hn hln
      generalize chE S = ce at *
      go_enter Try.func22, Try.ntmps22
      go_upto_region 1 with fail
      rw [← hg2, ← hW0]
      clear hg2 hW0
      go_wp2_with (go_at_call 17; refine CK.out.mono ?_; rintro e w1 ⟨rfl, hb⟩; have K1 := hide (KF.out.trans (hb.mono KF.out.size)); clear hb)
      go_ret
      exact ⟨ret_int E.out.symm, K1.out⟩
end Go.Proofs.Ytncjicggolmofaa.Sb
