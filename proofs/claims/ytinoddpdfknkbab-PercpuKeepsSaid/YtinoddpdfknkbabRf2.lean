import Derived.Test.YtinoddpdfknkbabRf1
namespace Go.Proofs.Ytinoddpdfknkbab.Pc
open Go Go.RowKit
set_option linter.unusedVariables false
/-- the reference's check -/
theorem rcheck_any (v : Value) (C : Ls) (z : Int) (w : World) (h : CaIn w v C) (hS : Sz 1000 1000 C) :
    Calls Try.prog 15 #[v, .int .i64 z] w fun e w' => e = .returned (.int .i64 (chk C z)) ∧ Below w.heap.size w w' := by
  by_cases h1 : z < 1 ∨ 6 < z
  · obtain ⟨A, c, rfl, hc, r⟩ := h
    have K0 := hide (bal (brefl w) (.cells #[.slice A C.length c] 24))
    have ln := hS.1
    clear r hS
    rw [chk_out h1]
    by_cases h2 : z < 1
    · have d1 : decide (z < 1) = true := decide_eq_true h2
      clear h1 h2
      go_enter Try.func15, Try.ntmps15
      go_wp2
      go_ret
      exact ⟨rfl, K0.out⟩
    · have d1 : decide (z < 1) = false := decide_eq_false h2
      have d2 : decide (6 < z) = true := decide_eq_true (by omega)
      clear h1 h2
      go_enter Try.func15, Try.ntmps15
      go_wp2
      go_ret
      exact ⟨rfl, K0.out⟩
  · by_cases h2 : (C.length : Int) = z
    · subst h2
      rw [chk_in h1]
      exact rcheck_in v C w h hS h1
    · obtain ⟨A, c, rfl, hc, r⟩ := h
      have K0 := hide (bal (brefl w) (.cells #[.slice A C.length c] 24))
      have s1 := cell_box1 (Box.new w 24 #[.slice A C.length c])
      have ln := hS.1
      have e1 : chk C z = 3 := by unfold chk; rw [if_neg h1, if_pos h2]
      rw [e1]
      have d1 : decide (z < 1) = false := decide_eq_false (by omega)
      have d2 : decide (6 < z) = false := decide_eq_false (by omega)
      have hd : ((C.length : Int) != z) = true := by simpa using h2
      clear r hS h1 h2 e1
      go_enter Try.func15, Try.ntmps15
      go_wp2
      go_ret
      exact ⟨rfl, K0.out⟩
set_option maxHeartbeats 1000000 in
theorem rcz_any (v : Value) (C : Ls) (z : Int) (w : World) (h : CaIn w v C) (hS : Sz 1000 1000 C) :
    Calls Try.prog 32 #[v, .int .i64 z] w fun e w' => e = .returned (.int .i64 (czE C z)) ∧ Below w.heap.size w w' := by
  have hI := h
  obtain ⟨A, c, rfl, hc, r⟩ := h
  have K0 := hide (bal (brefl w) (.cells #[.slice A C.length c] 24))
  have X := hide (Box.new w 24 #[.slice A C.length c])
  have CF := hide (rcheck_any _ C C.length _ (hI.below K0.out) hS)
  have ln := hS.1
  have s1 := cell_box1 X.out
  clear r hS hI
  by_cases h0 : chk C C.length = 0
  · rw [czE_of0 h0]
    rw [h0] at CF
    clear h0
    by_cases h1 : z < 0
    · rw [if_pos (.inl h1)]
      have d1 : decide (z < 0) = true := decide_eq_true h1
      go_enter Try.func32, Try.ntmps32
      go_wp2_with fail
      refine CF.out.mono ?_
      rintro e w1 ⟨rfl, hb⟩
      have HB := hide hb
      have s2 := cell_box1 (X.out.below hb)
      clear hb
      go_wp2
      go_ret
      exact ⟨rfl, btrans K0.out HB.out⟩
    · have d1 : decide (z < 0) = false := decide_eq_false h1
      by_cases h2 : (C.length : Int) ≤ z
      · rw [if_pos (.inr h2)]
        have d2 : decide ((C.length : Int) ≤ z) = true := decide_eq_true h2
        go_enter Try.func32, Try.ntmps32
        go_wp2_with fail
        refine CF.out.mono ?_
        rintro e w1 ⟨rfl, hb⟩
        have HB := hide hb
        have s2 := cell_box1 (X.out.below hb)
        clear hb
        go_wp2
        go_ret
        exact ⟨rfl, btrans K0.out HB.out⟩
      · rw [if_neg (by omega)]
        have d2 : decide ((C.length : Int) ≤ z) = false := decide_eq_false h2
        go_enter Try.func32, Try.ntmps32
        go_wp2_with fail
        refine CF.out.mono ?_
        rintro e w1 ⟨rfl, hb⟩
        have HB := hide hb
        have s2 := cell_box1 (X.out.below hb)
        clear hb
        go_wp2
        go_ret
        exact ⟨rfl, btrans K0.out HB.out⟩
  · rw [czE_of h0]
    have hd : (chk C C.length != 0) = true := by simpa using h0
    generalize chk C C.length = er at *
    clear h0
    go_enter Try.func32, Try.ntmps32
    go_wp2_with fail
    refine CF.out.mono ?_
    rintro e w1 ⟨rfl, hb⟩
    have HB := hide hb
    have s2 := cell_box1 (X.out.below hb)
    clear hb
    go_wp2
    go_ret
    exact ⟨rfl, btrans K0.out HB.out⟩
set_option maxHeartbeats 1000000 in
theorem rcount_any (v : Value) (C : Ls) (z : Int) (w : World) (h : CaIn w v C) (hS : Sz 1000 1000 C) :
    Calls Try.prog 17 #[v, .int .i64 z] w fun e w' => e = .returned (.int .i64 (cnt C z)) ∧ Below w.heap.size w w' := by
  have hI := h
  obtain ⟨A, c, rfl, hc, r⟩ := h
  have K0 := hide (bal (brefl w) (.cells #[.slice A C.length c] 24))
  have X := hide (Box.new w 24 #[.slice A C.length c])
  have R := hide (r.below K0.out)
  have CZ := hide (rcz_any _ C z _ (hI.below K0.out) hS)
  have ln := hS.1
  have HS := hide hS.2
  have s1 := cell_box1 X.out
  clear r hS hI
  unfold cnt
  by_cases h0 : czE C z = 0
  · rw [if_pos h0]
    rw [h0] at CZ
    obtain ⟨_, _, hz0, hz1⟩ := czE_zero.1 h0
    clear h0
    obtain ⟨k, rfl⟩ : ∃ k : Nat, z = k := ⟨z.toNat, by omega⟩
    have hk : k < C.length := by omega
    rw [Int.toNat_natCast]
    clear hz0 hz1
    obtain ⟨n, hn⟩ : ∃ n, n = (lAt C k).length := ⟨_, rfl⟩
    rw [← hn]
    have HN := hide hn
    clear hn
    go_enter Try.func17, Try.ntmps17
    go_wp2_with fail
    refine CZ.out.mono ?_
    rintro e w1 ⟨rfl, hb⟩
    have HB := hide hb
    have s2 := cell_box1 (X.out.below hb)
    obtain ⟨b1, o1, u1, rfl, hl1, x1, hv1⟩ := R.out.cells hb hk
    obtain ⟨D1, d1, rfl, _, q1⟩ := hv1
    have lk := HS.out k hk
    clear hb q1
    rw [← HN.out] at x1 lk
    go_wp2
    go_ret
    exact ⟨rfl, btrans K0.out HB.out⟩
  · rw [if_neg h0]
    have hd : (czE C z != 0) = true := by simpa using h0
    generalize czE C z = er at *
    clear h0
    go_enter Try.func17, Try.ntmps17
    go_wp2_with fail
    refine CZ.out.mono ?_
    rintro e w1 ⟨rfl, hb⟩
    have HB := hide hb
    clear hb
    go_wp2
    go_ret
    exact ⟨rfl, btrans K0.out HB.out⟩
set_option maxHeartbeats 1000000 in
/-- does it have the frame? -/
theorem has_any (v : Value) (C : Ls) (g : Int) (w : World) (h : CaIn w v C) (hS : Sz 1000 1000 C) :
    Calls Try.prog 38 #[v, .int .i64 g] w fun e w' => e = .returned (.bool (decide (g ∈ C.flatten))) ∧ Below w.heap.size w w' := by
  obtain ⟨A, c, rfl, hc, r⟩ := h
  have K0 := hide (bal (brefl w) (.cells #[.slice A C.length c] 24))
  have X := hide (Box.new w 24 #[.slice A C.length c])
  have R := hide (r.below K0.out)
  have HS := hide hS.2
  have ln := hS.1
  have s1 := cell_box1 X.out
  clear r hS
  obtain ⟨bb, hbb⟩ : ∃ bb, bb = decide (g ∈ C.flatten) := ⟨_, rfl⟩
  rw [← hbb]
  have HB := hide hbb
  clear hbb
  go_enter Try.func38, Try.ntmps38
  go_wp2
  clear s1
  go_loop [12] (fun i => ∃ k : Nat, k ≤ C.length ∧ i = .int .i64 k ∧ Hid (g ∉ (C.take k).flatten)) (fun i => C.length - (intOf i).toNat)
  case atStart => exact ⟨0, Nat.zero_le _, rfl, hide (by simp)⟩
  case round =>
    obtain ⟨k, hk, rfl, HK⟩ := hrel
    by_cases hlt : k < C.length
    · obtain ⟨b1, o1, u1, rfl, hl1, x1, hv1⟩ := R.out.cells (brefl _) hlt
      obtain ⟨D1, d1, rfl, _, q1⟩ := hv1
      have lk := HS.out k hlt
      have FS := hide (flat_snoc hlt)
      have YES := hide (fun (h : g ∈ lAt C k) => HB.out.trans (decide_eq_true (flat_mem hlt h)))
      generalize lAt C k = l at *
      have Q := hide q1
      clear q1
      go_wp2
      clear x1
      go_loop [18] (fun i => ∃ j : Nat, j ≤ l.length ∧ i = .int .i64 j ∧ Hid (g ∉ l.take j)) (fun i => l.length - (intOf i).toNat)
      case atStart => exact ⟨0, Nat.zero_le _, rfl, hide (by simp)⟩
      case round =>
        obtain ⟨j, hj, rfl, HJ⟩ := hrel
        by_cases hlt2 : j < l.length
        · obtain ⟨b2, o2, rfl, hl2, x2⟩ := Q.out.cells (brefl _) hlt2
          have TS := hide (getD_snoc hlt2)
          have MM := hide (getD_mem hlt2)
          generalize l.getD j 0 = z at *
          by_cases hz : z = g
          · subst hz
            obtain rfl : bb = true := YES.out MM.out
            clear YES
            go_wp2
            go_ret
            exact ⟨rfl, K0.out⟩
          · have hd : (z == g) = false := by simpa using hz
            have HN := hide (show g ∉ l.take (j + 1) by rw [TS.out]; simp only [List.mem_append, List.mem_singleton]; intro x; rcases x with x | x; exact HJ.out x; exact hz x.symm)
            clear hz
            go_wp2
            go_round
            case rel => exact ⟨j + 1, by omega, by go_num, HN⟩
            case measure => simp [intOf]; omega
        · obtain rfl : j = l.length := by omega
          have HN := hide (show g ∉ (C.take (k + 1)).flatten by
            rw [FS.out, List.mem_append]
            intro x
            rcases x with x | x
            · exact HK.out x
            · exact HJ.out (by rw [List.take_length]; exact x))
          go_wp2
          go_round
          case rel => exact ⟨k + 1, by omega, by go_num, HN⟩
          case measure => simp [intOf]; omega
    · obtain rfl : k = C.length := by omega
      obtain rfl : bb = false := HB.out.trans (decide_eq_false (by have := HK.out; rwa [List.take_length] at this))
      go_wp2
      go_ret
      exact ⟨rfl, K0.out⟩
end Go.Proofs.Ytinoddpdfknkbab.Pc
