import Derived.Test.YtncjicggolmofaaL2
namespace Go.Proofs.Ytncjicggolmofaa.Sb
open Go Go.RowKit
set_option linter.unusedVariables false
set_option linter.unusedSimpArgs false
theorem nd_facts {S : Sc} {n : Int} (h : chE S = 0) (h1 : 1 ≤ n) (h2 : n ≤ 200) : 0 ≤ ndN S n ∧ ndN S n ≤ 200 ∧ n ≤ ndN S n * S.ob + aR S ∧ (0 < ndN S n → (ndN S n - 1) * S.ob + aR S < n) ∧ 0 ≤ ndN S n * S.ob ∧ ndN S n * S.ob ≤ 6400 ∧ (0 < ndN S n → 0 ≤ (ndN S n - 1) * S.ob) := by
  have hb := (vd_of h).ob
  have hr := aR_bd h
  by_cases hl : n ≤ aR S
  · rw [nd_le h hl]
    refine ⟨Int.le_refl _, by omega, by omega, fun x => absurd x (by omega), by omega, by omega, fun x => absurd x (by omega)⟩
  · rw [nd_gt h hl]
    obtain ⟨t, ht⟩ : ∃ t, t = n - aR S - 1 := ⟨_, rfl⟩
    rw [← ht]
    have h3 := Int.emod_add_mul_ediv t S.ob
    have h4 := Int.emod_nonneg t (b := S.ob) (by omega)
    have h5 := Int.emod_lt_of_pos t (b := S.ob) (by omega)
    have h6 := Int.ediv_nonneg (a := t) (b := S.ob) (by omega) (by omega)
    have h7 := Int.ediv_le_self S.ob (show 0 ≤ t by omega)
    have e1 : (t / S.ob + 1) * S.ob = S.ob * (t / S.ob) + S.ob := by rw [Int.add_mul, Int.mul_comm]; omega
    have e2 : (t / S.ob + 1 - 1) * S.ob = S.ob * (t / S.ob) := by rw [Int.add_sub_cancel, Int.mul_comm]
    have h8 : 0 ≤ S.ob * (t / S.ob) := Int.mul_nonneg (by omega) h6
    rw [e1, e2]
    exact ⟨by omega, by omega, by omega, fun _ => by omega, by omega, by omega, fun _ => h8⟩
set_option maxRecDepth 100000 in
set_option maxHeartbeats 16000000 in
theorem law_accounts (A : Option Addr) (cp : Nat) (S : Sc) (n : Int) (w : World) (hr : RdC w A S.sl) (hn : S.sl.length ≤ 9223372036854775807) (hln : ∀ k, k < S.sl.length → (us S k).length ≤ 9223372036854775807) (hnr : n ≤ 9223372036854775807 ∧ -9223372036854775808 ≤ n) : Calls Try.prog 8 #[.agg #[.int .i64 S.ob, .slice A S.sl.length cp], .int .i64 n] w fun e w' => e = .returned (.bool true) ∧ Below w.heap.size w w' := by
  have AWK := hide (fun w => awake_any w)
  have K := hide (bal (brefl w) (.cells #[.int .i64 S.ob, .slice A S.sl.length cp] 24))
  have X := hide (Box.new w 24 #[.int .i64 S.ob, .slice A S.sl.length cp])
  have FW := hide (fun w' (h : Below w.heap.size w w') => few_any A cp S w' (hr.below h) hn)
  obtain ⟨g2, hg2⟩ : ∃ g, g = w.heap.size := ⟨_, rfl⟩
  have HG2 := hide hg2
  rw [← hg2] at X
  clear hg2
  have RK := hide (fun w' (h : Below w.heap.size w w') => rcheck_any A cp S w' (hr.below h) hn hln)
  have AC := hide (fun w' (h : Below w.heap.size w w') => acc_any A cp S w' (hr.below h) hn hln)
  have ND := hide (fun w' (h : Below w.heap.size w w') => need_any A cp S n w' (hr.below h) hnr hn hln)
  have OB := hide (fun w' (h : Below w.heap.size w w') => objs_any A cp S w' (hr.below h) hn hln)
  have HN1 := hide (show ∀ (h : chE S = 0), S.sl.length ≤ 256 from fun h => (vd_of h).wf.len)
  clear hr
  go_enter Try.func8, Try.ntmps8
  go_upto_region 1 with fail
  rw [← HG2.out]
  generalize (w.alloc (.cells #[.int .i64 S.ob, .slice A S.sl.length cp] 24)) = w1 at *
  obtain ⟨x0, x1⟩ : w1.cell? ⟨g2, 0, none⟩ = some (.int .i64 S.ob) ∧ w1.cell? ⟨g2, 1, none⟩ = some (.slice A S.sl.length cp) := ⟨X.out.cell 0, X.out.cell 1⟩
  go_wp2_with fail
  refine (FW.out _ K.out).mono ?_
  rintro e w2 ⟨rfl, hb⟩
  replace K := hide (btrans K.out hb)
  replace X := hide (X.out.below hb)
  clear hb x0 x1 FW
  cases hf : fw S
  · go_wp2_with fail
    refine (AWK.out _).mono ?_
    rintro e w9 ⟨rfl, hb⟩
    replace K := hide (btrans K.out hb)
    clear hb
    go_wp2
    go_ret
    exact ⟨rfl, K.out⟩
  obtain ⟨x0, x1⟩ : w2.cell? ⟨g2, 0, none⟩ = some (.int .i64 S.ob) ∧ w2.cell? ⟨g2, 1, none⟩ = some (.slice A S.sl.length cp) := ⟨X.out.cell 0, X.out.cell 1⟩
  by_cases hc : chE S = 0
  rotate_left 1
  · have hcb : (chE S != 0) = true := bne_iff_ne.2 hc
    clear hc
    generalize chE S = ce at *
    go_wp2_with fail
    refine (RK.out _ K.out).mono ?_
    rintro e w3 ⟨rfl, hb⟩
    replace K := hide (btrans K.out hb)
    clear hb x0 x1
    go_wp2_with fail
    refine (AWK.out _).mono ?_
    rintro e w9 ⟨rfl, hb⟩
    replace K := hide (btrans K.out hb)
    clear hb
    go_wp2
    go_ret
    exact ⟨rfl, K.out⟩
  rw [hc] at RK
  go_wp2_with fail
  refine (RK.out _ K.out).mono ?_
  rintro e w3 ⟨rfl, hb⟩
  replace K := hide (btrans K.out hb)
  replace X := hide (X.out.below hb)
  clear hb x0 x1 RK
  by_cases h1 : n < 1
  · have hd : decide (n < 1) = true := decide_eq_true h1
    go_wp2_with fail
    refine (AWK.out _).mono ?_
    rintro e w9 ⟨rfl, hb⟩
    replace K := hide (btrans K.out hb)
    clear hb
    go_wp2
    go_ret
    exact ⟨rfl, K.out⟩
  have hd1 : decide (n < 1) = false := decide_eq_false h1
  by_cases h2 : 200 < n
  · have hd : decide (200 < n) = true := decide_eq_true h2
    go_wp2_with fail
    refine (AWK.out _).mono ?_
    rintro e w9 ⟨rfl, hb⟩
    replace K := hide (btrans K.out hb)
    clear hb
    go_wp2
    go_ret
    exact ⟨rfl, K.out⟩
  have hd2 : decide (200 < n) = false := decide_eq_false h2
  obtain ⟨f1, f2, f3, f4, f5, f6, f7⟩ := nd_facts hc (show 1 ≤ n by omega) (show n ≤ 200 by omega)
  have hrb := aR_bd hc
  have hlen := HN1.out hc
  have hob := (vd_of hc).ob
  have eF : aF S = (S.sl.length : Int) := if_pos hc
  have eU : aU S = ((ud S S.sl.length : Nat) : Int) := if_pos hc
  have eR : aR S = (S.sl.length : Int) * S.ob - ((ud S S.sl.length : Nat) : Int) := if_pos hc
  have eO := obj_ud hc
  have hub := ud_le (vd_of hc).wf (Nat.le_refl S.sl.length)
  rw [eF, eU] at AC
  rw [eO] at OB
  obtain ⟨pr, hpr⟩ : ∃ z, z = (S.sl.length : Int) * S.ob := ⟨_, rfl⟩
  rw [← hpr] at eR
  have hpr2 := hpr.symm
  generalize ud S S.sl.length = uu at *
  generalize aR S = rr at *
  generalize ndN S n = nd at *
  obtain ⟨pa, hpa⟩ : ∃ z, z = nd * S.ob := ⟨_, rfl⟩
  rw [← hpa] at f3 f5 f6
  have hpa2 := hpa.symm
  obtain ⟨pb, hpb⟩ : ∃ z, z = (nd - 1) * S.ob := ⟨_, rfl⟩
  rw [← hpb] at f4 f7
  have hpb2 := hpb.symm
  have hw1 : IntKind.i64.wrap pr = pr := by rw [IntKind.wrap_i64]; omega
  have hw2 : IntKind.i64.wrap ((uu : Int) + rr) = pr := by rw [IntKind.wrap_i64]; omega
  have hw3 : IntKind.i64.wrap pa = pa := by rw [IntKind.wrap_i64]; omega
  have hw4 : IntKind.i64.wrap (pa + rr) = pa + rr := by rw [IntKind.wrap_i64]; omega
  have hw5 : IntKind.i64.wrap (nd - 1) = nd - 1 := by rw [IntKind.wrap_i64]; omega
  have hq := hide (And.intro hpr (And.intro hpa hpb))
  have HOB := hide hob
  have HF := hide (And.intro f1 (And.intro f2 (And.intro f3 (And.intro f4 (And.intro f5 (And.intro f6 f7))))))
  have HR := hide (And.intro hrb (And.intro eR hub))
  clear hpr hpa hpb hc hob f1 f2 f3 f4 f5 f6 f7 hrb eR hub eF eU eO HN1
  go_upto_region 3 with fail
  obtain ⟨x0, x1⟩ : w3.cell? ⟨g2, 0, none⟩ = some (.int .i64 S.ob) ∧ w3.cell? ⟨g2, 1, none⟩ = some (.slice A S.sl.length cp) := ⟨X.out.cell 0, X.out.cell 1⟩
  go_wp2_with fail
  refine (AC.out _ K.out).mono ?_
  rintro e w4 ⟨rfl, hb⟩
  replace K := hide (btrans K.out hb)
  replace X := hide (X.out.below hb)
  clear hb x0 x1 AC
  obtain ⟨x0, x1⟩ : w4.cell? ⟨g2, 0, none⟩ = some (.int .i64 S.ob) ∧ w4.cell? ⟨g2, 1, none⟩ = some (.slice A S.sl.length cp) := ⟨X.out.cell 0, X.out.cell 1⟩
  go_wp2_with fail
  refine (ND.out _ K.out).mono ?_
  rintro e w5 ⟨rfl, hb⟩
  replace K := hide (btrans K.out hb)
  replace X := hide (X.out.below hb)
  clear hb x0 x1 ND
  obtain ⟨x0, x1⟩ : w5.cell? ⟨g2, 0, none⟩ = some (.int .i64 S.ob) ∧ w5.cell? ⟨g2, 1, none⟩ = some (.slice A S.sl.length cp) := ⟨X.out.cell 0, X.out.cell 1⟩
  go_wp2_with fail
  refine (OB.out _ K.out).mono ?_
  rintro e w6 ⟨⟨A2, c2, rfl, ho⟩, hb⟩
  replace K := hide (btrans K.out hb)
  replace X := hide (X.out.below hb)
  clear hb x0 x1 OB ho
  obtain ⟨x0, x1⟩ : w6.cell? ⟨g2, 0, none⟩ = some (.int .i64 S.ob) ∧ w6.cell? ⟨g2, 1, none⟩ = some (.slice A S.sl.length cp) := ⟨X.out.cell 0, X.out.cell 1⟩
  have d1 : decide (nd < 0) = false := decide_eq_false (by have := HF.out.1; omega)
  have d2 : decide (200 < nd) = false := decide_eq_false (by have := HF.out.2.1; omega)
  have d3 : decide (pa + rr < n) = false := decide_eq_false (by have := HF.out.2.2.1; omega)
  by_cases hz : 0 < nd
  · have d4 : decide (0 < nd) = true := decide_eq_true hz
    have hw6 : IntKind.i64.wrap pb = pb := by rw [IntKind.wrap_i64]; have := HF.out.2.2.2.1 hz; have := HF.out.2.2.2.2.2.2 hz; have := HR.out.1; omega
    have hw7 : IntKind.i64.wrap (pb + rr) = pb + rr := by rw [IntKind.wrap_i64]; have := HF.out.2.2.2.1 hz; have := HF.out.2.2.2.2.2.2 hz; have := HR.out.1; omega
    have d5 : decide (n ≤ pb + rr) = false := decide_eq_false (by have := HF.out.2.2.2.1 hz; omega)
    go_wp2_with fail
    refine (AWK.out _).mono ?_
    rintro e w9 ⟨rfl, hb⟩
    replace K := hide (btrans K.out hb)
    clear hb
    go_wp2
    go_ret
    exact ⟨rfl, K.out⟩
  · have d4 : decide (0 < nd) = false := decide_eq_false hz
    go_wp2_with fail
    refine (AWK.out _).mono ?_
    rintro e w9 ⟨rfl, hb⟩
    replace K := hide (btrans K.out hb)
    clear hb
    go_wp2
    go_ret
    exact ⟨rfl, K.out⟩
end Go.Proofs.Ytncjicggolmofaa.Sb
