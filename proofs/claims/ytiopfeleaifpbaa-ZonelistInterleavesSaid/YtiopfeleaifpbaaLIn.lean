import Derived.Test.YtiopfeleaifpbaaVa
namespace Go.Proofs.Ytiopfeleaifpbaa.Bd
open Go Go.RowKit Go.Sort Go.Lib
set_option linter.unusedVariables false
set_option linter.unusedSimpArgs false
theorem pR_3 {Z : List Zo} {m t n : Int} {kb : Bool} (h : chE Z = 0) (hm : 1 ≤ m ∧ m < 16) (ht : 0 ≤ t) (hn : n = (un (bt m) 4).getD (t % ((un (bt m) 4).length : Int)).toNat 0) : pkE Z ⟨3, m, t⟩ 0 = 0 ∧ pR Z ⟨3, m, t⟩ 0 kb = oR Z n kb := by
  have e : poE ⟨3, m, t⟩ = 0 := if_pos ⟨by show (0 : Int) ≤ 3; decide, by show (3 : Int) ≤ 3; decide, fun _ => hm, fun _ => ht⟩
  have e2 : pkE Z ⟨3, m, t⟩ 0 = 0 := by unfold pkE; rw [if_pos h, if_pos e, if_pos (by decide)]
  refine ⟨e2, ?_⟩
  have e3 : fo ⟨3, m, t⟩ 0 = n := hn.symm
  unfold pR
  rw [if_pos e2, if_neg (by show ¬ (3 : Int) = 2; decide), e3]
theorem pR_1_0 {Z : List Zo} {kb : Bool} (h : chE Z = 0) : pkE Z ⟨1, 1, 0⟩ 0 = 0 ∧ pR Z ⟨1, 1, 0⟩ 0 kb = oR Z 0 kb := by
  have e : poE ⟨1, 1, 0⟩ = 0 := by decide
  have e2 : pkE Z ⟨1, 1, 0⟩ 0 = 0 := by unfold pkE; rw [if_pos h, if_pos e, if_pos (by decide)]
  refine ⟨e2, ?_⟩
  have e3 : fo ⟨1, 1, 0⟩ 0 = 0 := by decide
  unfold pR
  rw [if_pos e2, if_neg (by show ¬ (1 : Int) = 2; decide), e3]
theorem pR_1_1 {Z : List Zo} {kb : Bool} (h : chE Z = 0) : pkE Z ⟨1, 2, 0⟩ 0 = 0 ∧ pR Z ⟨1, 2, 0⟩ 0 kb = oR Z 1 kb := by
  have e : poE ⟨1, 2, 0⟩ = 0 := by decide
  have e2 : pkE Z ⟨1, 2, 0⟩ 0 = 0 := by unfold pkE; rw [if_pos h, if_pos e, if_pos (by decide)]
  refine ⟨e2, ?_⟩
  have e3 : fo ⟨1, 2, 0⟩ 0 = 1 := by decide
  unfold pR
  rw [if_pos e2, if_neg (by show ¬ (1 : Int) = 2; decide), e3]
theorem pR_1_2 {Z : List Zo} {kb : Bool} (h : chE Z = 0) : pkE Z ⟨1, 4, 0⟩ 0 = 0 ∧ pR Z ⟨1, 4, 0⟩ 0 kb = oR Z 2 kb := by
  have e : poE ⟨1, 4, 0⟩ = 0 := by decide
  have e2 : pkE Z ⟨1, 4, 0⟩ 0 = 0 := by unfold pkE; rw [if_pos h, if_pos e, if_pos (by decide)]
  refine ⟨e2, ?_⟩
  have e3 : fo ⟨1, 4, 0⟩ 0 = 2 := by decide
  unfold pR
  rw [if_pos e2, if_neg (by show ¬ (1 : Int) = 2; decide), e3]
theorem pR_1_3 {Z : List Zo} {kb : Bool} (h : chE Z = 0) : pkE Z ⟨1, 8, 0⟩ 0 = 0 ∧ pR Z ⟨1, 8, 0⟩ 0 kb = oR Z 3 kb := by
  have e : poE ⟨1, 8, 0⟩ = 0 := by decide
  have e2 : pkE Z ⟨1, 8, 0⟩ 0 = 0 := by unfold pkE; rw [if_pos h, if_pos e, if_pos (by decide)]
  refine ⟨e2, ?_⟩
  have e3 : fo ⟨1, 8, 0⟩ 0 = 3 := by decide
  unfold pR
  rw [if_pos e2, if_neg (by show ¬ (1 : Int) = 2; decide), e3]
set_option maxRecDepth 100000 in
set_option maxHeartbeats 16000000 in
theorem law_interleaves (AZ : Option Addr) (cp : Nat) (Z : List Zo) (k m t : Int) (kb : Bool) (W : World) (hr : Zs W AZ Z) (hz : ZIs W Z) (hn : Z.length ≤ 9223372036854775807) : Calls Try.prog 9 #[.slice AZ Z.length cp, .agg #[.int .i64 k, .int .i64 m, .int .i64 t], .bool kb] W fun e w' => e = .returned (.bool true) ∧ Below W.heap.size W w' := by
  have AWK := hide (fun w => awake_any w)
  have HR := hide (fun w (h : Below W.heap.size W w) => hr.below h)
  have HZ := hide (fun w (h : Below W.heap.size W w) => hz.below h)
  obtain ⟨i0, hi0, hz0, hz1, hz2⟩ := info_parts info3
  have X4 := hide (Box.new W 34 #[.int .i64 k, .int .i64 m, .int .i64 t])
  have K0 := hide (bal (brefl W) (.cells #[.int .i64 k, .int .i64 m, .int .i64 t] 34))
  obtain ⟨W0, hW0⟩ : ∃ W0, W0 = (W.alloc (.cells #[.int .i64 k, .int .i64 m, .int .i64 t] 34)) := ⟨_, rfl⟩
  rw [← hW0] at X4 K0
  obtain ⟨g4, hg4⟩ : ∃ g4, g4 = W.heap.size := ⟨_, rfl⟩
  rw [← hg4] at X4
  have x0 := X4.out.cell 0
  have x1 := X4.out.cell 1
  have x2 := X4.out.cell 2
  simp at x0 x1 x2
  have VA := hide (valid_any AZ cp Z 0 W0 (HR.out _ K0.out) hn)
  clear hr hz
  by_cases hv : chE Z = 0 ∧ (0 : Int) ≤ 0 ∧ (0 : Int) < 4
  · rw [show vl Z 0 = true from decide_eq_true hv] at VA
    by_cases m1 : m < 1
    · clear hv
      go_enter Try.func9, Try.ntmps9
      go_upto_region 1 with fail
      rw [← hg4, ← hW0]
      clear hg4 hW0
      go_wp2_with (go_at_call 22; refine VA.out.mono ?_; rintro e w' ⟨rfl, rfl⟩)
      refine (AWK.out _).mono ?_
      rintro e w1 ⟨rfl, hb⟩
      have K1 := hide (K0.out.trans (hb.mono K0.out.size))
      go_wp2
      go_ret
      exact ⟨rfl, K1.out⟩
    · by_cases m2 : 16 ≤ m
      · clear hv
        go_enter Try.func9, Try.ntmps9
        go_upto_region 1 with fail
        rw [← hg4, ← hW0]
        clear hg4 hW0
        go_wp2_with (go_at_call 22; refine VA.out.mono ?_; rintro e w' ⟨rfl, rfl⟩)
        refine (AWK.out _).mono ?_
        rintro e w1 ⟨rfl, hb⟩
        have K1 := hide (K0.out.trans (hb.mono K0.out.size))
        go_wp2
        go_ret
        exact ⟨rfl, K1.out⟩
      · by_cases t1 : t < 0
        · clear hv
          go_enter Try.func9, Try.ntmps9
          go_upto_region 1 with fail
          rw [← hg4, ← hW0]
          clear hg4 hW0
          go_wp2_with (go_at_call 22; refine VA.out.mono ?_; rintro e w' ⟨rfl, rfl⟩)
          refine (AWK.out _).mono ?_
          rintro e w1 ⟨rfl, hb⟩
          have K1 := hide (K0.out.trans (hb.mono K0.out.size))
          go_wp2
          go_ret
          exact ⟨rfl, K1.out⟩
        · by_cases t2 : 1099511627776 < t
          · clear hv
            go_enter Try.func9, Try.ntmps9
            go_upto_region 1 with fail
            rw [← hg4, ← hW0]
            clear hg4 hW0
            go_wp2_with (go_at_call 22; refine VA.out.mono ?_; rintro e w' ⟨rfl, rfl⟩)
            refine (AWK.out _).mono ?_
            rintro e w1 ⟨rfl, hb⟩
            have K1 := hide (K0.out.trans (hb.mono K0.out.size))
            go_wp2
            go_ret
            exact ⟨rfl, K1.out⟩
          · have HC := hide hv.1
            clear hv
            go_enter Try.func9, Try.ntmps9
            go_upto_region 1 with fail
            rw [← hg4, ← hW0]
            clear hg4 hW0
            go_upto_region 5 with (go_at_call 22; refine VA.out.mono ?_; rintro e w' ⟨rfl, rfl⟩)
            clear x0 x1 x2 VA
            obtain ⟨B, hB⟩ : ∃ B, B = W0.heap.size := ⟨_, rfl⟩
            have HB := hide hB
            clear hB
            go_loopw [7, 8] (fun a b wr => ∃ q : Nat, q ≤ 4 ∧ b = .int .i64 q ∧ Hid (OwI B wr a (un (bt m) q)) ∧ Hid (Below B W0 wr)) (fun _ b _ => 4 - (intOf b).toNat)
            case atStart => exact ⟨0, by omega, rfl, hide (ow_nil _ _), hide (Below.refl _ _)⟩
            case round =>
              obtain ⟨q, hq, rfl, O, K⟩ := hrel
              obtain ⟨A1, cap1, ev, hcp⟩ := row_form O.out
              subst ev
              clear hcp
              have hbb : Below W0.heap.size W0 wr := by rw [← HB.out]; exact K.out
              have x0 := (X4.out.below hbb).cell 0
              have x1 := (X4.out.below hbb).cell 1
              have x2 := (X4.out.below hbb).cell 2
              simp at x0 x1 x2
              clear hbb
              by_cases hlt : q < 4
              · have hlt2 : (q : Int) < 4 := by omega
                have hq0 : (0 : Int) ≤ (q : Int) := by omega
                rcases (by omega : q = 0 ∨ q = 1 ∨ q = 2 ∨ q = 3) with rfl | rfl | rfl | rfl
                · by_cases h1 : bt m ((0 : Nat) : Int) = true
                  · have hv1 : m.tmod 2 = 1 := by rw [Int.tmod_eq_emod_of_nonneg (by omega)]; unfold bt at h1; simp at h1; omega
                    have EH := hide (un_1 (h := bt m) h1)
                    clear h1
                    go_upto_region 8 with fail
                    clear hv1 x0 x1 x2
                    have M := bal (brefl wr) (.cells #[.int .i64 ((0 : Nat) : Int)] 3)
                    have OA := hide (row_below O.out M)
                    have NB := hide (cell_one_new wr (.int .i64 ((0 : Nat) : Int)) 3)
                    have SA0 : B ≤ wr.heap.size := by have := K.out.size; rw [HB.out]; exact (HB.out ▸ this)
                    have SA := hide (show B ≤ (wr.alloc (.cells #[.int .i64 ((0 : Nat) : Int)] 3)).heap.size by rw [alloc_size']; omega)
                    have KA := hide (K.out.trans (M.mono SA0))
                    clear M O K SA0
                    obtain ⟨l1, hl1⟩ : ∃ l1, l1 = un (bt m) 0 := ⟨_, rfl⟩
                    obtain ⟨m1, hm1⟩ : ∃ m1, m1 = l1.length := ⟨_, rfl⟩
                    have hfl : m1 ≤ 1000 := by rw [hm1, hl1]; exact by have := un_len (bt m) 0; omega
                    rw [← hl1, ← hm1] at OA
                    rw [← hl1] at EH
                    rw [← hl1, ← hm1]
                    have HLM := hide hm1
                    clear hl1 hm1
                    go_upto_region 6 with (at_builtin; refine wpList_append_own_at _ rfl (.tmp 52) (.tmp 54) 27 rfl B 3 i0 _ 1 8 Try.underlying27 hi0 hz0 hz1 hz2 rfl (by omega) (.slice A1 m1 cap1) m1 (l1.map ic) rfl OA.out ⟨wr.heap.size, 0, none⟩ 1 1 [.int .i64 ((0 : Nat) : Int)] rfl rfl NB.out (by intro u hu; rw [List.mem_singleton.1 hu]; rfl) (by simp only [maxLen]; omega) (by omega) SA.out ?_; intro v4 w4 hown4 hg4 _ hat4; obtain ⟨A4, cp4, ev4, _⟩ := row_form hown4; subst ev4)
                    have e3 : (un (bt m) (0 + 1)).length = m1 + 1 := by rw [EH.out, List.length_append, ← HLM.out]; rfl
                    have O := hide (show OwI B w4 (.slice A4 (m1 + 1) cp4) (un (bt m) (0 + 1)) by
                      unfold OwI
                      rw [e3, EH.out, List.map_append]
                      exact hown4)
                    have B4 := below_grown OA.out hg4 SA.out
                    have K := hide (KA.out.trans B4)
                    rw [← e3] at O ⊢
                    clear B4 hown4 hg4 hat4 OA NB SA KA e3 hfl HLM
                    go_wp2
                    go_roundw
                    case rel => exact ⟨0 + 1, by omega, by go_num, O, K⟩
                    case measure => simp [intOf]
                  · have h1' : bt m ((0 : Nat) : Int) = false := by simpa using h1
                    have hv1 : m.tmod 2 = 0 := by rw [Int.tmod_eq_emod_of_nonneg (by omega)]; unfold bt at h1'; simp at h1'; omega
                    have EH := un_0 (h := bt m) h1'
                    rw [← EH] at O ⊢
                    clear h1 h1' EH
                    go_wp2
                    go_roundw
                    case rel => exact ⟨0 + 1, by omega, by go_num, O, K⟩
                    case measure => simp [intOf]
                · by_cases h1 : bt m ((1 : Nat) : Int) = true
                  · have hv1 : (m / 2).tmod 2 = 1 := by rw [Int.tmod_eq_emod_of_nonneg (by omega)]; unfold bt at h1; simp at h1; omega
                    have EH := hide (un_1 (h := bt m) h1)
                    clear h1
                    go_upto_region 8 with fail
                    clear hv1 x0 x1 x2
                    have M := bal (brefl wr) (.cells #[.int .i64 ((1 : Nat) : Int)] 3)
                    have OA := hide (row_below O.out M)
                    have NB := hide (cell_one_new wr (.int .i64 ((1 : Nat) : Int)) 3)
                    have SA0 : B ≤ wr.heap.size := by have := K.out.size; rw [HB.out]; exact (HB.out ▸ this)
                    have SA := hide (show B ≤ (wr.alloc (.cells #[.int .i64 ((1 : Nat) : Int)] 3)).heap.size by rw [alloc_size']; omega)
                    have KA := hide (K.out.trans (M.mono SA0))
                    clear M O K SA0
                    obtain ⟨l1, hl1⟩ : ∃ l1, l1 = un (bt m) 1 := ⟨_, rfl⟩
                    obtain ⟨m1, hm1⟩ : ∃ m1, m1 = l1.length := ⟨_, rfl⟩
                    have hfl : m1 ≤ 1000 := by rw [hm1, hl1]; exact by have := un_len (bt m) 1; omega
                    rw [← hl1, ← hm1] at OA
                    rw [← hl1] at EH
                    rw [← hl1, ← hm1]
                    have HLM := hide hm1
                    clear hl1 hm1
                    go_upto_region 6 with (at_builtin; refine wpList_append_own_at _ rfl (.tmp 52) (.tmp 54) 27 rfl B 3 i0 _ 1 8 Try.underlying27 hi0 hz0 hz1 hz2 rfl (by omega) (.slice A1 m1 cap1) m1 (l1.map ic) rfl OA.out ⟨wr.heap.size, 0, none⟩ 1 1 [.int .i64 ((1 : Nat) : Int)] rfl rfl NB.out (by intro u hu; rw [List.mem_singleton.1 hu]; rfl) (by simp only [maxLen]; omega) (by omega) SA.out ?_; intro v4 w4 hown4 hg4 _ hat4; obtain ⟨A4, cp4, ev4, _⟩ := row_form hown4; subst ev4)
                    have e3 : (un (bt m) (1 + 1)).length = m1 + 1 := by rw [EH.out, List.length_append, ← HLM.out]; rfl
                    have O := hide (show OwI B w4 (.slice A4 (m1 + 1) cp4) (un (bt m) (1 + 1)) by
                      unfold OwI
                      rw [e3, EH.out, List.map_append]
                      exact hown4)
                    have B4 := below_grown OA.out hg4 SA.out
                    have K := hide (KA.out.trans B4)
                    rw [← e3] at O ⊢
                    clear B4 hown4 hg4 hat4 OA NB SA KA e3 hfl HLM
                    go_wp2
                    go_roundw
                    case rel => exact ⟨1 + 1, by omega, by go_num, O, K⟩
                    case measure => simp [intOf]
                  · have h1' : bt m ((1 : Nat) : Int) = false := by simpa using h1
                    have hv1 : (m / 2).tmod 2 = 0 := by rw [Int.tmod_eq_emod_of_nonneg (by omega)]; unfold bt at h1'; simp at h1'; omega
                    have EH := un_0 (h := bt m) h1'
                    rw [← EH] at O ⊢
                    clear h1 h1' EH
                    go_wp2
                    go_roundw
                    case rel => exact ⟨1 + 1, by omega, by go_num, O, K⟩
                    case measure => simp [intOf]
                · by_cases h1 : bt m ((2 : Nat) : Int) = true
                  · have hv1 : (m / 4).tmod 2 = 1 := by rw [Int.tmod_eq_emod_of_nonneg (by omega)]; unfold bt at h1; simp at h1; omega
                    have EH := hide (un_1 (h := bt m) h1)
                    clear h1
                    go_upto_region 8 with fail
                    clear hv1 x0 x1 x2
                    have M := bal (brefl wr) (.cells #[.int .i64 ((2 : Nat) : Int)] 3)
                    have OA := hide (row_below O.out M)
                    have NB := hide (cell_one_new wr (.int .i64 ((2 : Nat) : Int)) 3)
                    have SA0 : B ≤ wr.heap.size := by have := K.out.size; rw [HB.out]; exact (HB.out ▸ this)
                    have SA := hide (show B ≤ (wr.alloc (.cells #[.int .i64 ((2 : Nat) : Int)] 3)).heap.size by rw [alloc_size']; omega)
                    have KA := hide (K.out.trans (M.mono SA0))
                    clear M O K SA0
                    obtain ⟨l1, hl1⟩ : ∃ l1, l1 = un (bt m) 2 := ⟨_, rfl⟩
                    obtain ⟨m1, hm1⟩ : ∃ m1, m1 = l1.length := ⟨_, rfl⟩
                    have hfl : m1 ≤ 1000 := by rw [hm1, hl1]; exact by have := un_len (bt m) 2; omega
                    rw [← hl1, ← hm1] at OA
                    rw [← hl1] at EH
                    rw [← hl1, ← hm1]
                    have HLM := hide hm1
                    clear hl1 hm1
                    go_upto_region 6 with (at_builtin; refine wpList_append_own_at _ rfl (.tmp 52) (.tmp 54) 27 rfl B 3 i0 _ 1 8 Try.underlying27 hi0 hz0 hz1 hz2 rfl (by omega) (.slice A1 m1 cap1) m1 (l1.map ic) rfl OA.out ⟨wr.heap.size, 0, none⟩ 1 1 [.int .i64 ((2 : Nat) : Int)] rfl rfl NB.out (by intro u hu; rw [List.mem_singleton.1 hu]; rfl) (by simp only [maxLen]; omega) (by omega) SA.out ?_; intro v4 w4 hown4 hg4 _ hat4; obtain ⟨A4, cp4, ev4, _⟩ := row_form hown4; subst ev4)
                    have e3 : (un (bt m) (2 + 1)).length = m1 + 1 := by rw [EH.out, List.length_append, ← HLM.out]; rfl
                    have O := hide (show OwI B w4 (.slice A4 (m1 + 1) cp4) (un (bt m) (2 + 1)) by
                      unfold OwI
                      rw [e3, EH.out, List.map_append]
                      exact hown4)
                    have B4 := below_grown OA.out hg4 SA.out
                    have K := hide (KA.out.trans B4)
                    rw [← e3] at O ⊢
                    clear B4 hown4 hg4 hat4 OA NB SA KA e3 hfl HLM
                    go_wp2
                    go_roundw
                    case rel => exact ⟨2 + 1, by omega, by go_num, O, K⟩
                    case measure => simp [intOf]
                  · have h1' : bt m ((2 : Nat) : Int) = false := by simpa using h1
                    have hv1 : (m / 4).tmod 2 = 0 := by rw [Int.tmod_eq_emod_of_nonneg (by omega)]; unfold bt at h1'; simp at h1'; omega
                    have EH := un_0 (h := bt m) h1'
                    rw [← EH] at O ⊢
                    clear h1 h1' EH
                    go_wp2
                    go_roundw
                    case rel => exact ⟨2 + 1, by omega, by go_num, O, K⟩
                    case measure => simp [intOf]
                · by_cases h1 : bt m ((3 : Nat) : Int) = true
                  · have hv1 : (m / 8).tmod 2 = 1 := by rw [Int.tmod_eq_emod_of_nonneg (by omega)]; unfold bt at h1; simp at h1; omega
                    have EH := hide (un_1 (h := bt m) h1)
                    clear h1
                    go_upto_region 8 with fail
                    clear hv1 x0 x1 x2
                    have M := bal (brefl wr) (.cells #[.int .i64 ((3 : Nat) : Int)] 3)
                    have OA := hide (row_below O.out M)
                    have NB := hide (cell_one_new wr (.int .i64 ((3 : Nat) : Int)) 3)
                    have SA0 : B ≤ wr.heap.size := by have := K.out.size; rw [HB.out]; exact (HB.out ▸ this)
                    have SA := hide (show B ≤ (wr.alloc (.cells #[.int .i64 ((3 : Nat) : Int)] 3)).heap.size by rw [alloc_size']; omega)
                    have KA := hide (K.out.trans (M.mono SA0))
                    clear M O K SA0
                    obtain ⟨l1, hl1⟩ : ∃ l1, l1 = un (bt m) 3 := ⟨_, rfl⟩
                    obtain ⟨m1, hm1⟩ : ∃ m1, m1 = l1.length := ⟨_, rfl⟩
                    have hfl : m1 ≤ 1000 := by rw [hm1, hl1]; exact by have := un_len (bt m) 3; omega
                    rw [← hl1, ← hm1] at OA
                    rw [← hl1] at EH
                    rw [← hl1, ← hm1]
                    have HLM := hide hm1
                    clear hl1 hm1
                    go_upto_region 6 with (at_builtin; refine wpList_append_own_at _ rfl (.tmp 52) (.tmp 54) 27 rfl B 3 i0 _ 1 8 Try.underlying27 hi0 hz0 hz1 hz2 rfl (by omega) (.slice A1 m1 cap1) m1 (l1.map ic) rfl OA.out ⟨wr.heap.size, 0, none⟩ 1 1 [.int .i64 ((3 : Nat) : Int)] rfl rfl NB.out (by intro u hu; rw [List.mem_singleton.1 hu]; rfl) (by simp only [maxLen]; omega) (by omega) SA.out ?_; intro v4 w4 hown4 hg4 _ hat4; obtain ⟨A4, cp4, ev4, _⟩ := row_form hown4; subst ev4)
                    have e3 : (un (bt m) (3 + 1)).length = m1 + 1 := by rw [EH.out, List.length_append, ← HLM.out]; rfl
                    have O := hide (show OwI B w4 (.slice A4 (m1 + 1) cp4) (un (bt m) (3 + 1)) by
                      unfold OwI
                      rw [e3, EH.out, List.map_append]
                      exact hown4)
                    have B4 := below_grown OA.out hg4 SA.out
                    have K := hide (KA.out.trans B4)
                    rw [← e3] at O ⊢
                    clear B4 hown4 hg4 hat4 OA NB SA KA e3 hfl HLM
                    go_wp2
                    go_roundw
                    case rel => exact ⟨3 + 1, by omega, by go_num, O, K⟩
                    case measure => simp [intOf]
                  · have h1' : bt m ((3 : Nat) : Int) = false := by simpa using h1
                    have hv1 : (m / 8).tmod 2 = 0 := by rw [Int.tmod_eq_emod_of_nonneg (by omega)]; unfold bt at h1'; simp at h1'; omega
                    have EH := un_0 (h := bt m) h1'
                    rw [← EH] at O ⊢
                    clear h1 h1' EH
                    go_wp2
                    go_roundw
                    case rel => exact ⟨3 + 1, by omega, by go_num, O, K⟩
                    case measure => simp [intOf]
              · obtain rfl : q = 4 := by omega
                clear x0 x1 x2
                have LN := hide (OwI.bi O.out)
                have KW0 := hide (K0.out.trans (K.out.mono (by rw [HB.out]; exact K0.out.size)))
                have X4w := hide (X4.out.below (show Below W0.heap.size W0 wr by rw [← HB.out]; exact K.out))
                clear O K X4 HB
                have hpos := nm_pos (p := ⟨3, m, 0⟩) ⟨by show 1 ≤ m; omega, by show m < 16; omega⟩
                unfold nm at hpos
                simp only at hpos
                have hl4 := un_len (bt m) 4
                obtain ⟨l, hl⟩ : ∃ l, l = un (bt m) 4 := ⟨_, rfl⟩
                have HL := hide hl
                rw [← hl] at LN hpos hl4 ⊢
                clear hl
                have HW := hide hlt
                clear HW
                obtain ⟨B, hB⟩ : ∃ B, B = wr.heap.size := ⟨_, rfl⟩
                have HB := hide hB
                clear hB
                obtain ⟨w2, hw2⟩ : ∃ w2, w2 = wr := ⟨_, rfl⟩
                rw [← hw2] at LN KW0 X4w HB ⊢
                clear hw2
                go_wp2
                go_loopw [9] (fun b wr => ∃ i : Nat, i ≤ l.length ∧ b = .int .i64 i ∧ Hid (Below B w2 wr)) (fun b _ => l.length - (intOf b).toNat)
                case atStart => exact ⟨0, by omega, rfl, hide (Below.refl _ _)⟩
                case round =>
                  obtain ⟨i, hi, rfl, K⟩ := hrel
                  have hbb : Below w2.heap.size w2 wr := by rw [← HB.out]; exact K.out
                  have KW := hide (KW0.out.trans (hbb.mono KW0.out.size))
                  by_cases hil : i < l.length
                  · have hi2 : (i : Int) < (l.length : Int) := by omega
                    have hi0' : (0 : Int) ≤ (i : Int) := by omega
                    have X4 := hide (X4w.out.below hbb)
                    have x0 := X4.out.cell 0
                    have x1 := X4.out.cell 1
                    have x2 := X4.out.cell 2
                    simp at x0 x1 x2
                    clear X4
                    obtain ⟨hr1, hr2, hr3⟩ := rem_lt (t := t + (i : Int)) hpos (by omega)
                    obtain ⟨ri, hri⟩ : ∃ ri, ri = ((t + (i : Int)) % (l.length : Int)).toNat := ⟨_, rfl⟩
                    have HRI := hide hri
                    rw [← hri] at hr1 hr2
                    clear hr3 hri
                    obtain ⟨gl, ol, rfl, hgl, xl⟩ := LN.out.cells hbb hr1
                    have hn4 := nm_in ⟨3, m, t + (i : Int)⟩ (j := ri) (by show ri < (un (bt m) 4).length; rw [← HL.out]; exact hr1)
                    unfold nm at hn4
                    simp only at hn4
                    rw [← HL.out] at hn4
                    have E3 := hide (pR_3 (kb := kb) HC.out (m := m) (t := t + (i : Int)) (by omega) (by omega) (n := l.getD ri 0) (by rw [HRI.out, HL.out]))
                    have NE := hide (nE_ok HC.out hn4).1
                    obtain ⟨nv, hnv⟩ : ∃ nv, nv = l.getD ri 0 := ⟨_, rfl⟩
                    rw [← hnv] at xl hn4 E3 NE
                    clear hnv hgl
                    generalize l.length = ln at *
                    have hq1 : (ri : Int) < (ln : Int) := by omega
                    have hq2 : ((ln : Int) == 0) = false := beq_eq_false_iff_ne.2 (by omega)
                    have hq3 : ¬ (ln : Int) = 0 := by omega
                    rcases cases4i hn4 with hna | hna | hna | hna
                    · rw [hna] at xl E3 NE
                      have P1 := hide (pR_1_0 (kb := kb) HC.out)
                      clear hna
                      go_wp2_with fail
                      refine (pick_any AZ cp Z ⟨3, m, t + (i : Int)⟩ 0 kb _ (HR.out _ KW.out) (HZ.out _ KW.out) hn).mono ?_
                      rintro e v1 ⟨⟨A1, c1, rfl, hO⟩, hb⟩
                      have R1 := hide (OwI.bi hO)
                      replace K := hide (K.out.trans (hb.mono (HB.out ▸ K.out.size)))
                      replace KW := hide (KW.out.trans (hb.mono KW.out.size))
                      clear hO hb x0 x1 x2 xl
                      rw [E3.out.1] 
                      rw [E3.out.2] at R1 ⊢
                      go_wp2_with fail
                      refine (pick_any AZ cp Z ⟨1, 1, 0⟩ 0 kb _ (HR.out _ KW.out) (HZ.out _ KW.out) hn).mono ?_
                      rintro e v2 ⟨⟨A2, c2, rfl, hO⟩, hb⟩
                      have R2 := hide (OwI.bi hO)
                      replace R1 := hide (R1.out.below hb)
                      replace K := hide (K.out.trans (hb.mono (HB.out ▸ K.out.size)))
                      replace KW := hide (KW.out.trans (hb.mono KW.out.size))
                      clear hO hb
                      rw [P1.out.1]
                      rw [P1.out.2] at R2 ⊢
                      go_wp2_with fail
                      refine (order_any AZ cp Z 0 kb _ (HR.out _ KW.out) (HZ.out _ KW.out) hn).mono ?_
                      rintro e v3 ⟨⟨A3, c3, rfl, hO⟩, hb⟩
                      have R3 := hide (OwI.bi hO)
                      replace R1 := hide (R1.out.below hb)
                      replace R2 := hide (R2.out.below hb)
                      replace K := hide (K.out.trans (hb.mono (HB.out ▸ K.out.size)))
                      replace KW := hide (KW.out.trans (hb.mono KW.out.size))
                      clear hO hb
                      rw [NE.out]
                      have HSO := hide (show (oR Z 0 kb).length ≤ 9223372036854775807 by have := oR_le Z 0 kb; omega)
                      generalize oR Z 0 kb = lO at *
                      go_wp2_with fail
                      refine (same_refl A1 A2 c1 c2 lO _ R1.out R2.out HSO.out).mono ?_
                      rintro e v4 ⟨rfl, hb⟩
                      replace R3 := hide (R3.out.below hb)
                      replace R2 := hide (R2.out.below hb)
                      replace K := hide (K.out.trans (hb.mono (HB.out ▸ K.out.size)))
                      clear hb R1
                      go_wp2_with fail
                      refine (same_refl A2 A3 c2 c3 lO _ R2.out R3.out HSO.out).mono ?_
                      rintro e v5 ⟨rfl, hb⟩
                      replace K := hide (K.out.trans (hb.mono (HB.out ▸ K.out.size)))
                      clear hb R2 R3 HSO E3 P1 NE
                      go_wp2
                      go_roundw
                      case rel => first | exact ⟨i + 1, by omega, by go_num, K⟩ | ((repeat apply Exists.intro); exact ⟨⟨i + 1, by omega, by go_num, K⟩, rfl⟩)
                      case measure => simp [intOf]; omega
                    · rw [hna] at xl E3 NE
                      have P1 := hide (pR_1_1 (kb := kb) HC.out)
                      clear hna
                      go_wp2_with fail
                      refine (pick_any AZ cp Z ⟨3, m, t + (i : Int)⟩ 0 kb _ (HR.out _ KW.out) (HZ.out _ KW.out) hn).mono ?_
                      rintro e v1 ⟨⟨A1, c1, rfl, hO⟩, hb⟩
                      have R1 := hide (OwI.bi hO)
                      replace K := hide (K.out.trans (hb.mono (HB.out ▸ K.out.size)))
                      replace KW := hide (KW.out.trans (hb.mono KW.out.size))
                      clear hO hb x0 x1 x2 xl
                      rw [E3.out.1] 
                      rw [E3.out.2] at R1 ⊢
                      go_wp2_with fail
                      refine (pick_any AZ cp Z ⟨1, 2, 0⟩ 0 kb _ (HR.out _ KW.out) (HZ.out _ KW.out) hn).mono ?_
                      rintro e v2 ⟨⟨A2, c2, rfl, hO⟩, hb⟩
                      have R2 := hide (OwI.bi hO)
                      replace R1 := hide (R1.out.below hb)
                      replace K := hide (K.out.trans (hb.mono (HB.out ▸ K.out.size)))
                      replace KW := hide (KW.out.trans (hb.mono KW.out.size))
                      clear hO hb
                      rw [P1.out.1]
                      rw [P1.out.2] at R2 ⊢
                      go_wp2_with fail
                      refine (order_any AZ cp Z 1 kb _ (HR.out _ KW.out) (HZ.out _ KW.out) hn).mono ?_
                      rintro e v3 ⟨⟨A3, c3, rfl, hO⟩, hb⟩
                      have R3 := hide (OwI.bi hO)
                      replace R1 := hide (R1.out.below hb)
                      replace R2 := hide (R2.out.below hb)
                      replace K := hide (K.out.trans (hb.mono (HB.out ▸ K.out.size)))
                      replace KW := hide (KW.out.trans (hb.mono KW.out.size))
                      clear hO hb
                      rw [NE.out]
                      have HSO := hide (show (oR Z 1 kb).length ≤ 9223372036854775807 by have := oR_le Z 1 kb; omega)
                      generalize oR Z 1 kb = lO at *
                      go_wp2_with fail
                      refine (same_refl A1 A2 c1 c2 lO _ R1.out R2.out HSO.out).mono ?_
                      rintro e v4 ⟨rfl, hb⟩
                      replace R3 := hide (R3.out.below hb)
                      replace R2 := hide (R2.out.below hb)
                      replace K := hide (K.out.trans (hb.mono (HB.out ▸ K.out.size)))
                      clear hb R1
                      go_wp2_with fail
                      refine (same_refl A2 A3 c2 c3 lO _ R2.out R3.out HSO.out).mono ?_
                      rintro e v5 ⟨rfl, hb⟩
                      replace K := hide (K.out.trans (hb.mono (HB.out ▸ K.out.size)))
                      clear hb R2 R3 HSO E3 P1 NE
                      go_wp2
                      go_roundw
                      case rel => first | exact ⟨i + 1, by omega, by go_num, K⟩ | ((repeat apply Exists.intro); exact ⟨⟨i + 1, by omega, by go_num, K⟩, rfl⟩)
                      case measure => simp [intOf]; omega
                    · rw [hna] at xl E3 NE
                      have P1 := hide (pR_1_2 (kb := kb) HC.out)
                      clear hna
                      go_wp2_with fail
                      refine (pick_any AZ cp Z ⟨3, m, t + (i : Int)⟩ 0 kb _ (HR.out _ KW.out) (HZ.out _ KW.out) hn).mono ?_
                      rintro e v1 ⟨⟨A1, c1, rfl, hO⟩, hb⟩
                      have R1 := hide (OwI.bi hO)
                      replace K := hide (K.out.trans (hb.mono (HB.out ▸ K.out.size)))
                      replace KW := hide (KW.out.trans (hb.mono KW.out.size))
                      clear hO hb x0 x1 x2 xl
                      rw [E3.out.1] 
                      rw [E3.out.2] at R1 ⊢
                      go_wp2_with fail
                      refine (pick_any AZ cp Z ⟨1, 4, 0⟩ 0 kb _ (HR.out _ KW.out) (HZ.out _ KW.out) hn).mono ?_
                      rintro e v2 ⟨⟨A2, c2, rfl, hO⟩, hb⟩
                      have R2 := hide (OwI.bi hO)
                      replace R1 := hide (R1.out.below hb)
                      replace K := hide (K.out.trans (hb.mono (HB.out ▸ K.out.size)))
                      replace KW := hide (KW.out.trans (hb.mono KW.out.size))
                      clear hO hb
                      rw [P1.out.1]
                      rw [P1.out.2] at R2 ⊢
                      go_wp2_with fail
                      refine (order_any AZ cp Z 2 kb _ (HR.out _ KW.out) (HZ.out _ KW.out) hn).mono ?_
                      rintro e v3 ⟨⟨A3, c3, rfl, hO⟩, hb⟩
                      have R3 := hide (OwI.bi hO)
                      replace R1 := hide (R1.out.below hb)
                      replace R2 := hide (R2.out.below hb)
                      replace K := hide (K.out.trans (hb.mono (HB.out ▸ K.out.size)))
                      replace KW := hide (KW.out.trans (hb.mono KW.out.size))
                      clear hO hb
                      rw [NE.out]
                      have HSO := hide (show (oR Z 2 kb).length ≤ 9223372036854775807 by have := oR_le Z 2 kb; omega)
                      generalize oR Z 2 kb = lO at *
                      go_wp2_with fail
                      refine (same_refl A1 A2 c1 c2 lO _ R1.out R2.out HSO.out).mono ?_
                      rintro e v4 ⟨rfl, hb⟩
                      replace R3 := hide (R3.out.below hb)
                      replace R2 := hide (R2.out.below hb)
                      replace K := hide (K.out.trans (hb.mono (HB.out ▸ K.out.size)))
                      clear hb R1
                      go_wp2_with fail
                      refine (same_refl A2 A3 c2 c3 lO _ R2.out R3.out HSO.out).mono ?_
                      rintro e v5 ⟨rfl, hb⟩
                      replace K := hide (K.out.trans (hb.mono (HB.out ▸ K.out.size)))
                      clear hb R2 R3 HSO E3 P1 NE
                      go_wp2
                      go_roundw
                      case rel => first | exact ⟨i + 1, by omega, by go_num, K⟩ | ((repeat apply Exists.intro); exact ⟨⟨i + 1, by omega, by go_num, K⟩, rfl⟩)
                      case measure => simp [intOf]; omega
                    · rw [hna] at xl E3 NE
                      have P1 := hide (pR_1_3 (kb := kb) HC.out)
                      clear hna
                      go_wp2_with fail
                      refine (pick_any AZ cp Z ⟨3, m, t + (i : Int)⟩ 0 kb _ (HR.out _ KW.out) (HZ.out _ KW.out) hn).mono ?_
                      rintro e v1 ⟨⟨A1, c1, rfl, hO⟩, hb⟩
                      have R1 := hide (OwI.bi hO)
                      replace K := hide (K.out.trans (hb.mono (HB.out ▸ K.out.size)))
                      replace KW := hide (KW.out.trans (hb.mono KW.out.size))
                      clear hO hb x0 x1 x2 xl
                      rw [E3.out.1] 
                      rw [E3.out.2] at R1 ⊢
                      go_wp2_with fail
                      refine (pick_any AZ cp Z ⟨1, 8, 0⟩ 0 kb _ (HR.out _ KW.out) (HZ.out _ KW.out) hn).mono ?_
                      rintro e v2 ⟨⟨A2, c2, rfl, hO⟩, hb⟩
                      have R2 := hide (OwI.bi hO)
                      replace R1 := hide (R1.out.below hb)
                      replace K := hide (K.out.trans (hb.mono (HB.out ▸ K.out.size)))
                      replace KW := hide (KW.out.trans (hb.mono KW.out.size))
                      clear hO hb
                      rw [P1.out.1]
                      rw [P1.out.2] at R2 ⊢
                      go_wp2_with fail
                      refine (order_any AZ cp Z 3 kb _ (HR.out _ KW.out) (HZ.out _ KW.out) hn).mono ?_
                      rintro e v3 ⟨⟨A3, c3, rfl, hO⟩, hb⟩
                      have R3 := hide (OwI.bi hO)
                      replace R1 := hide (R1.out.below hb)
                      replace R2 := hide (R2.out.below hb)
                      replace K := hide (K.out.trans (hb.mono (HB.out ▸ K.out.size)))
                      replace KW := hide (KW.out.trans (hb.mono KW.out.size))
                      clear hO hb
                      rw [NE.out]
                      have HSO := hide (show (oR Z 3 kb).length ≤ 9223372036854775807 by have := oR_le Z 3 kb; omega)
                      generalize oR Z 3 kb = lO at *
                      go_wp2_with fail
                      refine (same_refl A1 A2 c1 c2 lO _ R1.out R2.out HSO.out).mono ?_
                      rintro e v4 ⟨rfl, hb⟩
                      replace R3 := hide (R3.out.below hb)
                      replace R2 := hide (R2.out.below hb)
                      replace K := hide (K.out.trans (hb.mono (HB.out ▸ K.out.size)))
                      clear hb R1
                      go_wp2_with fail
                      refine (same_refl A2 A3 c2 c3 lO _ R2.out R3.out HSO.out).mono ?_
                      rintro e v5 ⟨rfl, hb⟩
                      replace K := hide (K.out.trans (hb.mono (HB.out ▸ K.out.size)))
                      clear hb R2 R3 HSO E3 P1 NE
                      go_wp2
                      go_roundw
                      case rel => first | exact ⟨i + 1, by omega, by go_num, K⟩ | ((repeat apply Exists.intro); exact ⟨⟨i + 1, by omega, by go_num, K⟩, rfl⟩)
                      case measure => simp [intOf]; omega
                  · obtain rfl : i = l.length := by omega
                    go_wp2_with fail
                    refine (AWK.out _).mono ?_
                    rintro e w9 ⟨rfl, hb⟩
                    have K9 := hide (KW.out.trans (hb.mono KW.out.size))
                    clear hb
                    go_wp2
                    go_ret
                    exact ⟨rfl, K9.out⟩
  · rw [vl_no hv] at VA
    clear hv
    go_enter Try.func9, Try.ntmps9
    go_upto_region 1 with fail
    rw [← hg4, ← hW0]
    clear hg4 hW0
    go_wp2_with (go_at_call 22; refine VA.out.mono ?_; rintro e w' ⟨rfl, rfl⟩)
    refine (AWK.out _).mono ?_
    rintro e w1 ⟨rfl, hb⟩
    have K1 := hide (K0.out.trans (hb.mono K0.out.size))
    go_wp2
    go_ret
    exact ⟨rfl, K1.out⟩
end Go.Proofs.Ytiopfeleaifpbaa.Bd
