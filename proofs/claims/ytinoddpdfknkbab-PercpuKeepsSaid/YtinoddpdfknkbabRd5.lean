import Derived.Test.YtinoddpdfknkbabRd4
namespace Go.Proofs.Ytinoddpdfknkbab.Pc
open Go Go.RowKit
set_option linter.unusedVariables false
theorem zc_false {z : Int} (h : z < 1 ∨ 6 < z) : zc z = false := by unfold zc; exact decide_eq_false (by omega)
theorem zc_true {z : Int} (h : ¬ (z < 1 ∨ 6 < z)) : zc z = true := by unfold zc; exact decide_eq_true (by omega)
theorem cell_box1 {W : World} {g : Nat} {t : TypeId} {x : Value} (h : Box W g t #[x]) : W.cell? ⟨g, 0, none⟩ = some x := h.cell 0
theorem check_any (v : Value) (C : Ls) (z : Int) (w : World) (h : CaIn w v C) (hS : Sz 1000 1000 C) :
    Calls Try.prog 14 #[v, .int .i64 z] w fun e w' => e = .returned (.int .i64 (chk C z)) ∧ Below w.heap.size w w' := by
  have hI := h
  obtain ⟨A, c, rfl, hc, r⟩ := h
  have K0 := hide (bal (brefl w) (.cells #[.slice A C.length c] 24))
  have X := hide (Box.new w 24 #[.slice A C.length c])
  have CF := hide (cf_any _ C _ (hI.below K0.out) hS)
  have ZC := hide (fun w => zc_any z w)
  have ln := hS.1
  have s1 := cell_box1 X.out
  clear r hS hI
  by_cases h1 : z < 1 ∨ 6 < z
  · rw [chk_out h1]
    rw [zc_false h1] at ZC
    go_enter Try.func14, Try.ntmps14
    go_wp2_with fail
    refine (ZC.out _).mono ?_
    rintro e w1 ⟨rfl, rfl⟩
    go_wp2
    go_ret
    exact ⟨rfl, K0.out⟩
  · have e1 : chk C z = if (C.length : Int) ≠ z then 3 else frE C := by unfold chk; rw [if_neg h1]
    rw [zc_true h1] at ZC
    rw [e1]
    clear h1 e1
    by_cases h2 : (C.length : Int) = z
    · subst h2
      rw [if_neg (by simp)]
      generalize frE C = er at *
      go_enter Try.func14, Try.ntmps14
      go_wp2_with fail
      refine (ZC.out _).mono ?_
      rintro e w1 ⟨rfl, rfl⟩
      go_wp2_with fail
      refine CF.out.mono ?_
      rintro e w1 ⟨rfl, hb⟩
      have HB := hide hb
      clear hb
      go_wp2
      go_ret
      exact ⟨rfl, btrans K0.out HB.out⟩
    · rw [if_pos h2]
      have hd : ((C.length : Int) != z) = true := by simpa using h2
      go_enter Try.func14, Try.ntmps14
      go_wp2_with fail
      refine (ZC.out _).mono ?_
      rintro e w1 ⟨rfl, rfl⟩
      go_wp2_with fail
      go_ret
      exact ⟨rfl, K0.out⟩
theorem czE_of {C : Ls} {z : Int} (h : chk C C.length ≠ 0) : czE C z = chk C C.length := by unfold czE; rw [if_pos h]
theorem czE_of0 {C : Ls} {z : Int} (h : chk C C.length = 0) : czE C z = if z < 0 ∨ (C.length : Int) ≤ z then 2 else 0 := by unfold czE; rw [if_neg (fun x => x h)]
set_option maxHeartbeats 1000000 in
theorem cz_any (v : Value) (C : Ls) (z : Int) (w : World) (h : CaIn w v C) (hS : Sz 1000 1000 C) :
    Calls Try.prog 31 #[v, .int .i64 z] w fun e w' => e = .returned (.int .i64 (czE C z)) ∧ Below w.heap.size w w' := by
  have hI := h
  obtain ⟨A, c, rfl, hc, r⟩ := h
  have K0 := hide (bal (brefl w) (.cells #[.slice A C.length c] 24))
  have X := hide (Box.new w 24 #[.slice A C.length c])
  have CF := hide (check_any _ C C.length _ (hI.below K0.out) hS)
  have ln := hS.1
  have s1 := cell_box1 X.out
  clear r hS hI
  by_cases h0 : chk C C.length = 0
  · rw [czE_of0 h0]
    rw [h0] at CF
    clear h0
    by_cases h1 : z < 0
    · rw [if_pos (.inl h1)]
      have d1 : decide (z < 0) = true := decide_eq_true h1
      go_enter Try.func31, Try.ntmps31
      go_wp2_with fail
      refine CF.out.mono ?_
      rintro e w1 ⟨rfl, hb⟩
      have HB := hide hb
      have s2 := cell_box1 (X.out.below hb)
      clear hb
      go_wp2
      go_ret
      exact ⟨rfl, btrans K0.out HB.out⟩
    · have d1 : decide (z < 0) = false := decide_eq_false h1
      by_cases h2 : (C.length : Int) ≤ z
      · rw [if_pos (.inr h2)]
        have d2 : decide ((C.length : Int) ≤ z) = true := decide_eq_true h2
        go_enter Try.func31, Try.ntmps31
        go_wp2_with fail
        refine CF.out.mono ?_
        rintro e w1 ⟨rfl, hb⟩
        have HB := hide hb
        have s2 := cell_box1 (X.out.below hb)
        clear hb
        go_wp2
        go_ret
        exact ⟨rfl, btrans K0.out HB.out⟩
      · rw [if_neg (by omega)]
        have d2 : decide ((C.length : Int) ≤ z) = false := decide_eq_false h2
        go_enter Try.func31, Try.ntmps31
        go_wp2_with fail
        refine CF.out.mono ?_
        rintro e w1 ⟨rfl, hb⟩
        have HB := hide hb
        have s2 := cell_box1 (X.out.below hb)
        clear hb
        go_wp2
        go_ret
        exact ⟨rfl, btrans K0.out HB.out⟩
  · rw [czE_of h0]
    have hd : (chk C C.length == 0) = false := by simpa using h0
    generalize chk C C.length = er at *
    clear h0
    go_enter Try.func31, Try.ntmps31
    go_wp2_with fail
    refine CF.out.mono ?_
    rintro e w1 ⟨rfl, hb⟩
    have HB := hide hb
    have s2 := cell_box1 (X.out.below hb)
    clear hb
    go_wp2
    go_ret
    exact ⟨rfl, btrans K0.out HB.out⟩
set_option maxHeartbeats 1000000 in
theorem count_any (v : Value) (C : Ls) (z : Int) (w : World) (h : CaIn w v C) (hS : Sz 1000 1000 C) :
    Calls Try.prog 16 #[v, .int .i64 z] w fun e w' => e = .returned (.int .i64 (cnt C z)) ∧ Below w.heap.size w w' := by
  have hI := h
  obtain ⟨A, c, rfl, hc, r⟩ := h
  have K0 := hide (bal (brefl w) (.cells #[.slice A C.length c] 24))
  have X := hide (Box.new w 24 #[.slice A C.length c])
  have R := hide (r.below K0.out)
  have CZ := hide (cz_any _ C z _ (hI.below K0.out) hS)
  have ln := hS.1
  have HS := hide hS.2
  have s1 := cell_box1 X.out
  clear r hS hI
  unfold cnt
  by_cases h0 : czE C z = 0
  · rw [if_pos h0]
    rw [h0] at CZ
    obtain ⟨_, _, hz0, hz1⟩ := czE_zero.1 h0
    clear h0
    obtain ⟨k, rfl⟩ : ∃ k : Nat, z = k := ⟨z.toNat, by omega⟩
    have hk : k < C.length := by omega
    rw [Int.toNat_natCast]
    clear hz0 hz1
    obtain ⟨n, hn⟩ : ∃ n, n = (lAt C k).length := ⟨_, rfl⟩
    rw [← hn]
    have HN := hide hn
    clear hn
    go_enter Try.func16, Try.ntmps16
    go_wp2_with fail
    refine CZ.out.mono ?_
    rintro e w1 ⟨rfl, hb⟩
    have HB := hide hb
    have s2 := cell_box1 (X.out.below hb)
    obtain ⟨b1, o1, u1, rfl, hl1, x1, hv1⟩ := R.out.cells hb hk
    obtain ⟨D1, d1, rfl, _, q1⟩ := hv1
    have lk := HS.out k hk
    clear hb q1
    rw [← HN.out] at x1 lk
    go_wp2
    go_ret
    exact ⟨rfl, btrans K0.out HB.out⟩
  · rw [if_neg h0]
    have hd : (czE C z != 0) = true := by simpa using h0
    generalize czE C z = er at *
    clear h0
    go_enter Try.func16, Try.ntmps16
    go_wp2_with fail
    refine CZ.out.mono ?_
    rintro e w1 ⟨rfl, hb⟩
    have HB := hide hb
    clear hb
    go_wp2
    go_ret
    exact ⟨rfl, btrans K0.out HB.out⟩
end Go.Proofs.Ytinoddpdfknkbab.Pc
