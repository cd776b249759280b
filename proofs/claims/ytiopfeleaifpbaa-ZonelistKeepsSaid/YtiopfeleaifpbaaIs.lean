import Derived.Test.YtiopfeleaifpbaaPm
namespace Go.Proofs.Ytiopfeleaifpbaa.Bd
open Go Go.RowKit Go.Sort Go.Lib
set_option linter.unusedVariables false
set_option linter.unusedSimpArgs false
theorem i64_and1 (n : Int) : bits .and .i64 n 1 = n % 2 := by
  have h1 : (BitVec.ofInt 64 1).toNat = 2 ^ 1 - 1 := by decide
  show IntKind.i64.wrap ((BitVec.ofInt 64 n &&& BitVec.ofInt 64 1).toNat : Nat) = n % 2
  rw [BitVec.toNat_and, h1, Nat.and_two_pow_sub_one_eq_mod, IntKind.wrap_i64]
  have hx := toNat_ofInt n
  generalize (BitVec.ofInt 64 n).toNat = a at *
  simp only [Nat.reducePow]
  omega
theorem bq (x y : Int) : (x == y) = decide (x = y) := by by_cases h : x = y <;> simp [h]
theorem isin_any (n m : Int) (hn : 0 ≤ n ∧ n < 4) (w : World) : Calls Try.prog 39 #[.int .i64 n, .int .i64 m] w fun e w' => e = .returned (.bool (bt m n)) ∧ w = w' := by
  rcases cases4i hn with rfl | rfl | rfl | rfl
  all_goals
    go_enter Try.func39, Try.ntmps39
    go_wp2
    go_ret
    refine ⟨ret_bool ?_, rfl⟩
    rw [i64_and1]
    unfold bt
    simp [bq]
theorem rin_any (m n : Int) (hn : 0 ≤ n ∧ n < 4) (hm : 1 ≤ m ∧ m < 16) (w : World) : Calls Try.prog 42 #[.int .i64 m, .int .i64 n] w fun e w' => e = .returned (.bool (bt m n)) ∧ w = w' := by
  have e0 : m.tmod 2 = m % 2 := Int.tmod_eq_emod_of_nonneg (by omega)
  have e1 : (m / 2).tmod 2 = m / 2 % 2 := Int.tmod_eq_emod_of_nonneg (by omega)
  have e2 : (m / 4).tmod 2 = m / 4 % 2 := Int.tmod_eq_emod_of_nonneg (by omega)
  have e3 : (m / 8).tmod 2 = m / 8 % 2 := Int.tmod_eq_emod_of_nonneg (by omega)
  rcases cases4i hn with rfl | rfl | rfl | rfl
  all_goals
    go_enter Try.func42, Try.ntmps42
    go_wp2
    go_ret
    refine ⟨ret_bool ?_, rfl⟩
    unfold bt
    simp [bq, e0, e1, e2, e3]
set_option maxRecDepth 100000 in
set_option maxHeartbeats 4000000 in
theorem nodesof_any (m : Int) (w : World) : Calls Try.prog 36 #[.int .i64 m] w fun e w' => (∃ A c, e = .returned (.slice A (un (bt m) 4).length c) ∧ OwI w.heap.size w' (.slice A (un (bt m) 4).length c) (un (bt m) 4)) ∧ Below w.heap.size w w' := by
  obtain ⟨i0, hi0, hz0, hz1, hz2⟩ := info_parts info3
  have IN := hide (fun (z : Int) (hz : 0 ≤ z ∧ z < 4) w => isin_any z m hz w)
  have K := hide (brefl w)
  obtain ⟨B, hB⟩ : ∃ B, B = w.heap.size := ⟨_, rfl⟩
  rw [← hB] at K
  rw [← hB]
  have HB := hide hB
  clear hB
  go_enter Try.func36, Try.ntmps36
  go_wp2
  go_loopw [3, 5] (fun a b wr => ∃ k : Nat, k ≤ 4 ∧ b = .int .i64 k ∧ Hid (OwI B wr a (un (bt m) k)) ∧ Hid (Below B w wr)) (fun _ b _ => 4 - (intOf b).toNat)
  case atStart => exact ⟨0, by omega, rfl, hide (ow_nil _ _), K⟩
  case round =>
    clear K
    obtain ⟨k, hk, rfl, O, K⟩ := hrel
    obtain ⟨A1, cap1, ev, hcp⟩ := row_form O.out
    subst ev
    clear hcp
    by_cases hlt : k < 4
    · have hlt2 : (k : Int) < 4 := by omega
      have hk0 : (0 : Int) ≤ (k : Int) := by omega
      have C1 := hide (fun w => IN.out (k : Int) ⟨by omega, by omega⟩ w)
      by_cases h1 : bt m k = true
      · have EH := hide (un_1 (h := bt m) h1)
        rw [h1] at C1
        clear h1
        go_upto_region 6 with (go_at_call 39; refine (C1.out _).mono ?_; rintro e w' ⟨rfl, rfl⟩)
        clear C1
        have M := bal (brefl wr) (.cells #[.int .i64 (k : Int)] 3)
        have OA := hide (row_below O.out M)
        have NB := hide (cell_one_new wr (.int .i64 (k : Int)) 3)
        have SA0 : B ≤ wr.heap.size := by have := K.out.size; rw [HB.out]; exact (HB.out ▸ this)
        have SA := hide (show B ≤ (wr.alloc (.cells #[.int .i64 (k : Int)] 3)).heap.size by rw [alloc_size']; omega)
        have KA := hide (K.out.trans (M.mono SA0))
        clear M O K SA0
        obtain ⟨l1, hl1⟩ : ∃ l1, l1 = un (bt m) k := ⟨_, rfl⟩
        obtain ⟨m1, hm1⟩ : ∃ m1, m1 = l1.length := ⟨_, rfl⟩
        have hfl : m1 ≤ 1000 := by rw [hm1, hl1]; exact by have := un_len (bt m) k; omega
        rw [← hl1, ← hm1] at OA
        rw [← hl1] at EH
        rw [← hl1, ← hm1]
        have HLM := hide hm1
        clear hl1 hm1
        go_upto_region 7 with (at_builtin; refine wpList_append_own_at _ rfl (.tmp 11) (.tmp 13) 27 rfl B 3 i0 _ 1 8 Try.underlying27 hi0 hz0 hz1 hz2 rfl (by omega) (.slice A1 m1 cap1) m1 (l1.map ic) rfl OA.out ⟨wr.heap.size, 0, none⟩ 1 1 [.int .i64 (k : Int)] rfl rfl NB.out (by intro u hu; rw [List.mem_singleton.1 hu]; rfl) (by simp only [maxLen]; omega) (by omega) SA.out ?_; intro v4 w4 hown4 hg4 _ hat4; obtain ⟨A4, cp4, ev4, _⟩ := row_form hown4; subst ev4)
        have e3 : (un (bt m) (k + 1)).length = m1 + 1 := by rw [EH.out, List.length_append, ← HLM.out]; rfl
        have O := hide (show OwI B w4 (.slice A4 (m1 + 1) cp4) (un (bt m) (k + 1)) by
          unfold OwI
          rw [e3, EH.out, List.map_append]
          exact hown4)
        have B4 := below_grown OA.out hg4 SA.out
        have K := hide (KA.out.trans B4)
        rw [← e3] at O ⊢
        clear B4 hown4 hg4 hat4 OA NB SA KA e3 hfl HLM
        go_wp2
        go_roundw
        case rel => exact ⟨k + 1, by omega, by go_num, O, K⟩
        case measure => simp [intOf]; omega
      · have h1' : bt m k = false := by simpa using h1
        have EH := un_0 (h := bt m) h1'
        rw [h1'] at C1
        rw [← EH] at O ⊢
        clear h1 h1' EH
        go_wp2_with (go_at_call 39; refine (C1.out _).mono ?_; rintro e w' ⟨rfl, rfl⟩)
        go_roundw
        case rel => exact ⟨k + 1, by omega, by go_num, O, K⟩
        case measure => simp [intOf]; omega
    · obtain rfl : k = 4 := by omega
      go_wp2
      go_ret
      exact ⟨⟨_, _, rfl, O.out⟩, K.out⟩
set_option maxHeartbeats 4000000 in
theorem policy_any (p : Po) (w : World) : Calls Try.prog 40 #[.agg #[.int .i64 p.k, .int .i64 p.m, .int .i64 p.t]] w fun e w' => e = .returned (.int .i64 (poE p)) ∧ Below w.heap.size w w' := by
  obtain ⟨k, m, t⟩ := p
  have K := hide (bal (brefl w) (.cells #[.int .i64 k, .int .i64 m, .int .i64 t] 34))
  have E := hide (show poE ⟨k, m, t⟩ = if 0 ≤ k ∧ k ≤ 3 ∧ (k ≠ 0 → 1 ≤ m ∧ m < 16) ∧ (k = 3 → 0 ≤ t) then 0 else 1 from rfl)
  generalize poE ⟨k, m, t⟩ = pe at *
  simp only
  by_cases a1 : k < 0
  · have E1 := hide (E.out.trans (if_neg (by omega)))
    go_enter Try.func40, Try.ntmps40
    go_wp2
    go_ret
    exact ⟨ret_int E1.out.symm, K.out⟩
  · by_cases a2 : 3 < k
    · have E1 := hide (E.out.trans (if_neg (by omega)))
      go_enter Try.func40, Try.ntmps40
      go_wp2
      go_ret
      exact ⟨ret_int E1.out.symm, K.out⟩
    · by_cases a3 : k = 0
      · have E1 := hide (E.out.trans (if_pos (by omega)))
        subst a3
        go_enter Try.func40, Try.ntmps40
        go_wp2
        go_ret
        exact ⟨ret_int E1.out.symm, K.out⟩
      · have d3 : (k != 0) = true := by simpa using a3
        by_cases a4 : m < 1
        · have E1 := hide (E.out.trans (if_neg (by omega)))
          clear a3
          go_enter Try.func40, Try.ntmps40
          go_wp2
          go_ret
          exact ⟨ret_int E1.out.symm, K.out⟩
        · by_cases a5 : 16 ≤ m
          · have E1 := hide (E.out.trans (if_neg (by omega)))
            clear a3
            go_enter Try.func40, Try.ntmps40
            go_wp2
            go_ret
            exact ⟨ret_int E1.out.symm, K.out⟩
          · by_cases a6 : k = 3
            · by_cases a7 : t < 0
              · have E1 := hide (E.out.trans (if_neg (by omega)))
                subst a6
                clear a3
                go_enter Try.func40, Try.ntmps40
                go_wp2
                go_ret
                exact ⟨ret_int E1.out.symm, K.out⟩
              · have E1 := hide (E.out.trans (if_pos (by omega)))
                subst a6
                clear a3
                go_enter Try.func40, Try.ntmps40
                go_wp2
                go_ret
                exact ⟨ret_int E1.out.symm, K.out⟩
            · have E1 := hide (E.out.trans (if_pos (by omega)))
              have d6 : (k == 3) = false := by simpa using a6
              clear a3 a6
              go_enter Try.func40, Try.ntmps40
              go_wp2
              go_ret
              exact ⟨ret_int E1.out.symm, K.out⟩
end Go.Proofs.Ytiopfeleaifpbaa.Bd
