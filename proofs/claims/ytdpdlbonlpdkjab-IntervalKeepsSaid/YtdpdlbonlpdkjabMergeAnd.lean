import Derived.Test.YtdpdlbonlpdkjabMerge
namespace Go.Proofs.Ytdpdlbonlpdkjab.Iv
open Go Go.RowKit
set_option linter.unusedVariables false
set_option maxHeartbeats 4000000 in
theorem merge_and (A B : Option Addr) (L M : IL) (c d : Nat) (w : World) (hr : Iv w A L) (hs : Iv w B M) (hA : asc (edges L)) (hB : asc (edges M)) (hn : L.length ≤ 500) (hm : M.length ≤ 500)
    :
    Calls Try.prog 47 #[.slice A L.length c, .slice B M.length d, .func (Fn.func 42) #[] #[]] w fun e w' => ∃ A' c' R, e = .returned (.slice A' R.length c') ∧ asc (edges R) ∧ (∀ n, mem R n = (mem L n && mem M n)) ∧ R.length ≤ 2000 ∧ MineI w.heap.size w' A' R ∧ Below w.heap.size w w' := by
  obtain ⟨keep, hkeep⟩ : ∃ k : Bool → Bool → Bool, k = fun x y => x && y := ⟨_, rfl⟩
  have hkf : keep false false = false := by rw [hkeep]; rfl
  have hK : ∀ x y W, Calls Try.prog 42 #[.bool x, .bool y] W fun e w' => e = .returned (.bool (keep x y)) ∧ W = w' := by rw [hkeep]; exact both_any
  obtain ⟨i0, hi0, hz0, hz1, hz2⟩ := info_parts info30
  have HR := hide hr
  have HS := hide hs
  have HAB := hide (And.intro hA (And.intro hB hkf))
  have HKK := hide hK
  obtain ⟨p0, hp0⟩ := MI.start (a := L) (b := M) hkf
  have HP0 := hide hp0
  clear hr hs hA hB hK hkf hp0
  go_enter Try.func47, Try.ntmps47
  go_wp2
  go_loopw [7, 8, 9, 10, 11] (fun v s b i j wr => ∃ (i' j' : Nat) (out : IL) (st : Int) (ins : Bool) (p : Int), i = .int .i64 i' ∧ j = .int .i64 j' ∧ s = .int .i64 st ∧ b = .bool ins ∧ MI (edges L) (edges M) keep p i' j' out st ins ∧ i' ≤ 2 * L.length ∧ j' ≤ 2 * M.length ∧ out.length ≤ i' + j' ∧
      wr.ownsRow w.heap.size 30 2 v out.length ((edges out).map ic) ∧ Below w.heap.size w wr) (fun _ _ _ i j _ => 2 * L.length + 2 * M.length - (intOf i).toNat - (intOf j).toNat)
  case atStart => exact ⟨0, 0, [], 0, false, p0, rfl, rfl, rfl, rfl, HP0.out, by omega, by omega, by simp, ⟨rfl, .inl ⟨rfl, rfl⟩⟩, brefl _⟩
  case round =>
    obtain ⟨i, j, out, st, ins, p, rfl, rfl, rfl, rfl, hmi, hi, hj, hol, hown, hb⟩ := hrel
    have HOWN := hide hown
    have HB := hide hb
    obtain ⟨A1, n1, rfl⟩ := row_form hown
    by_cases hij : i < 2 * L.length ∨ j < 2 * M.length
    · obtain ⟨q, hq⟩ : ∃ q, q = nearE L M i j := ⟨_, rfl⟩
      have hmo := next_more hi hj hij hq
      obtain ⟨k1, k2⟩ := mi_round hmi HAB.out.1 HAB.out.2.1 hij hq
      have HN := hide (near_any A B L M c d i j wr (HR.out.below hb) (HS.out.below hb) (by omega) (by omega) hi hj hij)
      have HEA := hide (fun h => edge_any A L c i wr (HR.out.below hb) (by omega) h)
      have HEB := hide (fun h => edge_any B M d j wr (HS.out.below hb) (by omega) h)
      rw [← hq] at HN
      have hkk := HKK.out (odd (nextI L i q)) (odd (nextI M j q))
      obtain ⟨i2, hi2⟩ : ∃ x, x = nextI L i q := ⟨_, rfl⟩
      obtain ⟨j2, hj2⟩ : ∃ x, x = nextI M j q := ⟨_, rfl⟩
      rw [← hi2, ← hj2] at hkk hmo k1 k2
      unfold nextI goesOn at hi2 hj2
      have HMO := hide hmo
      have o1 := rem2 i2
      have o2 := rem2 j2
      obtain ⟨x1, hx1⟩ : ∃ x, x = odd i2 := ⟨_, rfl⟩
      obtain ⟨x2, hx2⟩ : ∃ x, x = odd j2 := ⟨_, rfl⟩
      obtain ⟨kk, hkk2⟩ : ∃ x, x = keep (odd i2) (odd j2) := ⟨_, rfl⟩
      rw [← hkk2] at hkk k1 k2
      rw [← hx1] at hkk o1
      rw [← hx2] at hkk o2
      have HC := hide hkk
      have K1 := hide k1
      have K2 := hide k2
      clear hkk hkk2 hx1 hx2 k1 k2 hmo hq hmi hown hb HR HS HKK HP0
      by_cases ci : i < 2 * L.length
      · by_cases cj : j < 2 * M.length
        · by_cases ei : edg L i = q
          · by_cases ej : edg M j = q
            · have hi3 : i + 1 = i2 := by rw [hi2, if_pos (by simp [ci, ei])]
              have hj3 : j + 1 = j2 := by rw [hj2, if_pos (by simp [cj, ej])]
              subst hi3 hj3
              push_cast at o1 o2
              have b1 : (edg L i == q) = true := by simpa using ei
              have HEA2 := hide (HEA.out ci)
              have b2 : (edg M j == q) = true := by simpa using ej
              have HEB2 := hide (HEB.out cj)
              clear ei ej hi2 hj2 HEA HEB
              cases ins <;> cases kk
              · go_wp2_with fail
                refine HN.out.mono ?_
                rintro e w' ⟨rfl, rfl⟩
                go_wp2_with fail
                refine HEA2.out.mono ?_
                rintro e w' ⟨rfl, rfl⟩
                go_wp2_with fail
                refine HEB2.out.mono ?_
                rintro e w' ⟨rfl, rfl⟩
                go_wp2_with fail
                refine (HC.out _).mono ?_
                rintro e w' ⟨rfl, rfl⟩
                go_wp2
                go_roundw
                case rel => exact ⟨_, _, out, st, _, q, by go_num, by go_num, rfl, rfl, K1.out (by simp), HMO.out.2.1, HMO.out.2.2, by have := HMO.out.1; omega, HOWN.out, HB.out⟩
                case measure => have := HMO.out; simp [intOf]; omega
              · go_wp2_with fail
                refine HN.out.mono ?_
                rintro e w' ⟨rfl, rfl⟩
                go_wp2_with fail
                refine HEA2.out.mono ?_
                rintro e w' ⟨rfl, rfl⟩
                go_wp2_with fail
                refine HEB2.out.mono ?_
                rintro e w' ⟨rfl, rfl⟩
                go_wp2_with fail
                refine (HC.out _).mono ?_
                rintro e w' ⟨rfl, rfl⟩
                go_wp2
                go_roundw
                case rel => exact ⟨_, _, out, q, _, q, by go_num, by go_num, rfl, rfl, K2.out (by simp), HMO.out.2.1, HMO.out.2.2, by have := HMO.out.1; omega, HOWN.out, HB.out⟩
                case measure => have := HMO.out; simp [intOf]; omega
              · go_wp2_with fail
                refine HN.out.mono ?_
                rintro e w' ⟨rfl, rfl⟩
                go_wp2_with fail
                refine HEA2.out.mono ?_
                rintro e w' ⟨rfl, rfl⟩
                go_wp2_with fail
                refine HEB2.out.mono ?_
                rintro e w' ⟨rfl, rfl⟩
                go_wp2_with fail
                refine (HC.out _).mono ?_
                rintro e w' ⟨rfl, rfl⟩
                go_wp2_with (at_builtin; refine wpList_append_own _ rfl (.tmp 69) (.tmp 73) 22 rfl w.heap.size 30 i0 _ 2 16 Try.underlying22 hi0 hz0 hz1 hz2 rfl (by omega) (.slice A1 out.length n1) out.length ((edges out).map ic) rfl (HOWN.out.alloc _) ⟨wr.heap.size, 0, none⟩ 1 1 [ic st, ic q] rfl rfl (cell_two_new _ _ _ _) (by intro u hu; simp at hu; rcases hu with rfl | rfl <;> rfl) (by simp only [maxLen]; omega) (by omega) (by have := HB.out.size; simp; omega) ?_; intro v1 w1 hown1 hg1 _; obtain ⟨A2, n2, rfl⟩ := row_form hown1; have HO1 := hide hown1; have HG1 := hide hg1; clear hown1 hg1)
                go_wp2
                go_roundw
                case rel => exact ⟨_, _, out ++ [(st, q)], q, _, q, by go_num, by go_num, rfl, rfl, K2.out (by simp), HMO.out.2.1, HMO.out.2.2, by have := HMO.out.1; simp; omega, by rw [List.length_append, edges_append, List.map_append]; exact HO1.out, (bal HB.out _).trans (row_below (HOWN.out.alloc _) HG1.out (Nat.le_refl _) (by have := HB.out.size; simp; omega))⟩
                case measure => have := HMO.out; simp [intOf]; omega
              · go_wp2_with fail
                refine HN.out.mono ?_
                rintro e w' ⟨rfl, rfl⟩
                go_wp2_with fail
                refine HEA2.out.mono ?_
                rintro e w' ⟨rfl, rfl⟩
                go_wp2_with fail
                refine HEB2.out.mono ?_
                rintro e w' ⟨rfl, rfl⟩
                go_wp2_with fail
                refine (HC.out _).mono ?_
                rintro e w' ⟨rfl, rfl⟩
                go_wp2
                go_roundw
                case rel => exact ⟨_, _, out, st, _, q, by go_num, by go_num, rfl, rfl, K1.out (by simp), HMO.out.2.1, HMO.out.2.2, by have := HMO.out.1; omega, HOWN.out, HB.out⟩
                case measure => have := HMO.out; simp [intOf]; omega
            · have hi3 : i + 1 = i2 := by rw [hi2, if_pos (by simp [ci, ei])]
              have hj3 : j = j2 := by rw [hj2, if_neg (by simp [ej])]
              subst hi3 hj3
              push_cast at o1 o2
              have b1 : (edg L i == q) = true := by simpa using ei
              have HEA2 := hide (HEA.out ci)
              have b2 : (edg M j == q) = false := by simpa using ej
              have HEB2 := hide (HEB.out cj)
              clear ei ej hi2 hj2 HEA HEB
              cases ins <;> cases kk
              · go_wp2_with fail
                refine HN.out.mono ?_
                rintro e w' ⟨rfl, rfl⟩
                go_wp2_with fail
                refine HEA2.out.mono ?_
                rintro e w' ⟨rfl, rfl⟩
                go_wp2_with fail
                refine HEB2.out.mono ?_
                rintro e w' ⟨rfl, rfl⟩
                go_wp2_with fail
                refine (HC.out _).mono ?_
                rintro e w' ⟨rfl, rfl⟩
                go_wp2
                go_roundw
                case rel => exact ⟨_, _, out, st, _, q, by go_num, by go_num, rfl, rfl, K1.out (by simp), HMO.out.2.1, HMO.out.2.2, by have := HMO.out.1; omega, HOWN.out, HB.out⟩
                case measure => have := HMO.out; simp [intOf]; omega
              · go_wp2_with fail
                refine HN.out.mono ?_
                rintro e w' ⟨rfl, rfl⟩
                go_wp2_with fail
                refine HEA2.out.mono ?_
                rintro e w' ⟨rfl, rfl⟩
                go_wp2_with fail
                refine HEB2.out.mono ?_
                rintro e w' ⟨rfl, rfl⟩
                go_wp2_with fail
                refine (HC.out _).mono ?_
                rintro e w' ⟨rfl, rfl⟩
                go_wp2
                go_roundw
                case rel => exact ⟨_, _, out, q, _, q, by go_num, by go_num, rfl, rfl, K2.out (by simp), HMO.out.2.1, HMO.out.2.2, by have := HMO.out.1; omega, HOWN.out, HB.out⟩
                case measure => have := HMO.out; simp [intOf]; omega
              · go_wp2_with fail
                refine HN.out.mono ?_
                rintro e w' ⟨rfl, rfl⟩
                go_wp2_with fail
                refine HEA2.out.mono ?_
                rintro e w' ⟨rfl, rfl⟩
                go_wp2_with fail
                refine HEB2.out.mono ?_
                rintro e w' ⟨rfl, rfl⟩
                go_wp2_with fail
                refine (HC.out _).mono ?_
                rintro e w' ⟨rfl, rfl⟩
                go_wp2_with (at_builtin; refine wpList_append_own _ rfl (.tmp 69) (.tmp 73) 22 rfl w.heap.size 30 i0 _ 2 16 Try.underlying22 hi0 hz0 hz1 hz2 rfl (by omega) (.slice A1 out.length n1) out.length ((edges out).map ic) rfl (HOWN.out.alloc _) ⟨wr.heap.size, 0, none⟩ 1 1 [ic st, ic q] rfl rfl (cell_two_new _ _ _ _) (by intro u hu; simp at hu; rcases hu with rfl | rfl <;> rfl) (by simp only [maxLen]; omega) (by omega) (by have := HB.out.size; simp; omega) ?_; intro v1 w1 hown1 hg1 _; obtain ⟨A2, n2, rfl⟩ := row_form hown1; have HO1 := hide hown1; have HG1 := hide hg1; clear hown1 hg1)
                go_wp2
                go_roundw
                case rel => exact ⟨_, _, out ++ [(st, q)], q, _, q, by go_num, by go_num, rfl, rfl, K2.out (by simp), HMO.out.2.1, HMO.out.2.2, by have := HMO.out.1; simp; omega, by rw [List.length_append, edges_append, List.map_append]; exact HO1.out, (bal HB.out _).trans (row_below (HOWN.out.alloc _) HG1.out (Nat.le_refl _) (by have := HB.out.size; simp; omega))⟩
                case measure => have := HMO.out; simp [intOf]; omega
              · go_wp2_with fail
                refine HN.out.mono ?_
                rintro e w' ⟨rfl, rfl⟩
                go_wp2_with fail
                refine HEA2.out.mono ?_
                rintro e w' ⟨rfl, rfl⟩
                go_wp2_with fail
                refine HEB2.out.mono ?_
                rintro e w' ⟨rfl, rfl⟩
                go_wp2_with fail
                refine (HC.out _).mono ?_
                rintro e w' ⟨rfl, rfl⟩
                go_wp2
                go_roundw
                case rel => exact ⟨_, _, out, st, _, q, by go_num, by go_num, rfl, rfl, K1.out (by simp), HMO.out.2.1, HMO.out.2.2, by have := HMO.out.1; omega, HOWN.out, HB.out⟩
                case measure => have := HMO.out; simp [intOf]; omega
          · by_cases ej : edg M j = q
            · have hi3 : i = i2 := by rw [hi2, if_neg (by simp [ei])]
              have hj3 : j + 1 = j2 := by rw [hj2, if_pos (by simp [cj, ej])]
              subst hi3 hj3
              push_cast at o1 o2
              have b1 : (edg L i == q) = false := by simpa using ei
              have HEA2 := hide (HEA.out ci)
              have b2 : (edg M j == q) = true := by simpa using ej
              have HEB2 := hide (HEB.out cj)
              clear ei ej hi2 hj2 HEA HEB
              cases ins <;> cases kk
              · go_wp2_with fail
                refine HN.out.mono ?_
                rintro e w' ⟨rfl, rfl⟩
                go_wp2_with fail
                refine HEA2.out.mono ?_
                rintro e w' ⟨rfl, rfl⟩
                go_wp2_with fail
                refine HEB2.out.mono ?_
                rintro e w' ⟨rfl, rfl⟩
                go_wp2_with fail
                refine (HC.out _).mono ?_
                rintro e w' ⟨rfl, rfl⟩
                go_wp2
                go_roundw
                case rel => exact ⟨_, _, out, st, _, q, by go_num, by go_num, rfl, rfl, K1.out (by simp), HMO.out.2.1, HMO.out.2.2, by have := HMO.out.1; omega, HOWN.out, HB.out⟩
                case measure => have := HMO.out; simp [intOf]; omega
              · go_wp2_with fail
                refine HN.out.mono ?_
                rintro e w' ⟨rfl, rfl⟩
                go_wp2_with fail
                refine HEA2.out.mono ?_
                rintro e w' ⟨rfl, rfl⟩
                go_wp2_with fail
                refine HEB2.out.mono ?_
                rintro e w' ⟨rfl, rfl⟩
                go_wp2_with fail
                refine (HC.out _).mono ?_
                rintro e w' ⟨rfl, rfl⟩
                go_wp2
                go_roundw
                case rel => exact ⟨_, _, out, q, _, q, by go_num, by go_num, rfl, rfl, K2.out (by simp), HMO.out.2.1, HMO.out.2.2, by have := HMO.out.1; omega, HOWN.out, HB.out⟩
                case measure => have := HMO.out; simp [intOf]; omega
              · go_wp2_with fail
                refine HN.out.mono ?_
                rintro e w' ⟨rfl, rfl⟩
                go_wp2_with fail
                refine HEA2.out.mono ?_
                rintro e w' ⟨rfl, rfl⟩
                go_wp2_with fail
                refine HEB2.out.mono ?_
                rintro e w' ⟨rfl, rfl⟩
                go_wp2_with fail
                refine (HC.out _).mono ?_
                rintro e w' ⟨rfl, rfl⟩
                go_wp2_with (at_builtin; refine wpList_append_own _ rfl (.tmp 69) (.tmp 73) 22 rfl w.heap.size 30 i0 _ 2 16 Try.underlying22 hi0 hz0 hz1 hz2 rfl (by omega) (.slice A1 out.length n1) out.length ((edges out).map ic) rfl (HOWN.out.alloc _) ⟨wr.heap.size, 0, none⟩ 1 1 [ic st, ic q] rfl rfl (cell_two_new _ _ _ _) (by intro u hu; simp at hu; rcases hu with rfl | rfl <;> rfl) (by simp only [maxLen]; omega) (by omega) (by have := HB.out.size; simp; omega) ?_; intro v1 w1 hown1 hg1 _; obtain ⟨A2, n2, rfl⟩ := row_form hown1; have HO1 := hide hown1; have HG1 := hide hg1; clear hown1 hg1)
                go_wp2
                go_roundw
                case rel => exact ⟨_, _, out ++ [(st, q)], q, _, q, by go_num, by go_num, rfl, rfl, K2.out (by simp), HMO.out.2.1, HMO.out.2.2, by have := HMO.out.1; simp; omega, by rw [List.length_append, edges_append, List.map_append]; exact HO1.out, (bal HB.out _).trans (row_below (HOWN.out.alloc _) HG1.out (Nat.le_refl _) (by have := HB.out.size; simp; omega))⟩
                case measure => have := HMO.out; simp [intOf]; omega
              · go_wp2_with fail
                refine HN.out.mono ?_
                rintro e w' ⟨rfl, rfl⟩
                go_wp2_with fail
                refine HEA2.out.mono ?_
                rintro e w' ⟨rfl, rfl⟩
                go_wp2_with fail
                refine HEB2.out.mono ?_
                rintro e w' ⟨rfl, rfl⟩
                go_wp2_with fail
                refine (HC.out _).mono ?_
                rintro e w' ⟨rfl, rfl⟩
                go_wp2
                go_roundw
                case rel => exact ⟨_, _, out, st, _, q, by go_num, by go_num, rfl, rfl, K1.out (by simp), HMO.out.2.1, HMO.out.2.2, by have := HMO.out.1; omega, HOWN.out, HB.out⟩
                case measure => have := HMO.out; simp [intOf]; omega
            · exfalso; have := HMO.out.1; rw [hi2, if_neg (by simp [ei]), hj2, if_neg (by simp [ej])] at this; omega
        · by_cases ei : edg L i = q
          · have hi3 : i + 1 = i2 := by rw [hi2, if_pos (by simp [ci, ei])]
            have hj3 : j = j2 := by rw [hj2, if_neg (by simp [cj])]
            subst hi3 hj3
            push_cast at o1 o2
            have b1 : (edg L i == q) = true := by simpa using ei
            have HEA2 := hide (HEA.out ci)
            clear ei hi2 hj2 HEA HEB
            cases ins <;> cases kk
            · go_wp2_with fail
              refine HN.out.mono ?_
              rintro e w' ⟨rfl, rfl⟩
              go_wp2_with fail
              refine HEA2.out.mono ?_
              rintro e w' ⟨rfl, rfl⟩
              go_wp2_with fail
              refine (HC.out _).mono ?_
              rintro e w' ⟨rfl, rfl⟩
              go_wp2
              go_roundw
              case rel => exact ⟨_, _, out, st, _, q, by go_num, by go_num, rfl, rfl, K1.out (by simp), HMO.out.2.1, HMO.out.2.2, by have := HMO.out.1; omega, HOWN.out, HB.out⟩
              case measure => have := HMO.out; simp [intOf]; omega
            · go_wp2_with fail
              refine HN.out.mono ?_
              rintro e w' ⟨rfl, rfl⟩
              go_wp2_with fail
              refine HEA2.out.mono ?_
              rintro e w' ⟨rfl, rfl⟩
              go_wp2_with fail
              refine (HC.out _).mono ?_
              rintro e w' ⟨rfl, rfl⟩
              go_wp2
              go_roundw
              case rel => exact ⟨_, _, out, q, _, q, by go_num, by go_num, rfl, rfl, K2.out (by simp), HMO.out.2.1, HMO.out.2.2, by have := HMO.out.1; omega, HOWN.out, HB.out⟩
              case measure => have := HMO.out; simp [intOf]; omega
            · go_wp2_with fail
              refine HN.out.mono ?_
              rintro e w' ⟨rfl, rfl⟩
              go_wp2_with fail
              refine HEA2.out.mono ?_
              rintro e w' ⟨rfl, rfl⟩
              go_wp2_with fail
              refine (HC.out _).mono ?_
              rintro e w' ⟨rfl, rfl⟩
              go_wp2_with (at_builtin; refine wpList_append_own _ rfl (.tmp 69) (.tmp 73) 22 rfl w.heap.size 30 i0 _ 2 16 Try.underlying22 hi0 hz0 hz1 hz2 rfl (by omega) (.slice A1 out.length n1) out.length ((edges out).map ic) rfl (HOWN.out.alloc _) ⟨wr.heap.size, 0, none⟩ 1 1 [ic st, ic q] rfl rfl (cell_two_new _ _ _ _) (by intro u hu; simp at hu; rcases hu with rfl | rfl <;> rfl) (by simp only [maxLen]; omega) (by omega) (by have := HB.out.size; simp; omega) ?_; intro v1 w1 hown1 hg1 _; obtain ⟨A2, n2, rfl⟩ := row_form hown1; have HO1 := hide hown1; have HG1 := hide hg1; clear hown1 hg1)
              go_wp2
              go_roundw
              case rel => exact ⟨_, _, out ++ [(st, q)], q, _, q, by go_num, by go_num, rfl, rfl, K2.out (by simp), HMO.out.2.1, HMO.out.2.2, by have := HMO.out.1; simp; omega, by rw [List.length_append, edges_append, List.map_append]; exact HO1.out, (bal HB.out _).trans (row_below (HOWN.out.alloc _) HG1.out (Nat.le_refl _) (by have := HB.out.size; simp; omega))⟩
              case measure => have := HMO.out; simp [intOf]; omega
            · go_wp2_with fail
              refine HN.out.mono ?_
              rintro e w' ⟨rfl, rfl⟩
              go_wp2_with fail
              refine HEA2.out.mono ?_
              rintro e w' ⟨rfl, rfl⟩
              go_wp2_with fail
              refine (HC.out _).mono ?_
              rintro e w' ⟨rfl, rfl⟩
              go_wp2
              go_roundw
              case rel => exact ⟨_, _, out, st, _, q, by go_num, by go_num, rfl, rfl, K1.out (by simp), HMO.out.2.1, HMO.out.2.2, by have := HMO.out.1; omega, HOWN.out, HB.out⟩
              case measure => have := HMO.out; simp [intOf]; omega
          · exfalso; have := HMO.out.1; rw [hi2, if_neg (by simp [ei]), hj2, if_neg (by simp [cj])] at this; omega
      · have cj : j < 2 * M.length := by omega
        by_cases ej : edg M j = q
        · have hi3 : i = i2 := by rw [hi2, if_neg (by simp [ci])]
          have hj3 : j + 1 = j2 := by rw [hj2, if_pos (by simp [cj, ej])]
          subst hi3 hj3
          push_cast at o1 o2
          have b2 : (edg M j == q) = true := by simpa using ej
          have HEB2 := hide (HEB.out cj)
          clear ej hi2 hj2 HEA HEB
          cases ins <;> cases kk
          · go_wp2_with fail
            refine HN.out.mono ?_
            rintro e w' ⟨rfl, rfl⟩
            go_wp2_with fail
            refine HEB2.out.mono ?_
            rintro e w' ⟨rfl, rfl⟩
            go_wp2_with fail
            refine (HC.out _).mono ?_
            rintro e w' ⟨rfl, rfl⟩
            go_wp2
            go_roundw
            case rel => exact ⟨_, _, out, st, _, q, by go_num, by go_num, rfl, rfl, K1.out (by simp), HMO.out.2.1, HMO.out.2.2, by have := HMO.out.1; omega, HOWN.out, HB.out⟩
            case measure => have := HMO.out; simp [intOf]; omega
          · go_wp2_with fail
            refine HN.out.mono ?_
            rintro e w' ⟨rfl, rfl⟩
            go_wp2_with fail
            refine HEB2.out.mono ?_
            rintro e w' ⟨rfl, rfl⟩
            go_wp2_with fail
            refine (HC.out _).mono ?_
            rintro e w' ⟨rfl, rfl⟩
            go_wp2
            go_roundw
            case rel => exact ⟨_, _, out, q, _, q, by go_num, by go_num, rfl, rfl, K2.out (by simp), HMO.out.2.1, HMO.out.2.2, by have := HMO.out.1; omega, HOWN.out, HB.out⟩
            case measure => have := HMO.out; simp [intOf]; omega
          · go_wp2_with fail
            refine HN.out.mono ?_
            rintro e w' ⟨rfl, rfl⟩
            go_wp2_with fail
            refine HEB2.out.mono ?_
            rintro e w' ⟨rfl, rfl⟩
            go_wp2_with fail
            refine (HC.out _).mono ?_
            rintro e w' ⟨rfl, rfl⟩
            go_wp2_with (at_builtin; refine wpList_append_own _ rfl (.tmp 69) (.tmp 73) 22 rfl w.heap.size 30 i0 _ 2 16 Try.underlying22 hi0 hz0 hz1 hz2 rfl (by omega) (.slice A1 out.length n1) out.length ((edges out).map ic) rfl (HOWN.out.alloc _) ⟨wr.heap.size, 0, none⟩ 1 1 [ic st, ic q] rfl rfl (cell_two_new _ _ _ _) (by intro u hu; simp at hu; rcases hu with rfl | rfl <;> rfl) (by simp only [maxLen]; omega) (by omega) (by have := HB.out.size; simp; omega) ?_; intro v1 w1 hown1 hg1 _; obtain ⟨A2, n2, rfl⟩ := row_form hown1; have HO1 := hide hown1; have HG1 := hide hg1; clear hown1 hg1)
            go_wp2
            go_roundw
            case rel => exact ⟨_, _, out ++ [(st, q)], q, _, q, by go_num, by go_num, rfl, rfl, K2.out (by simp), HMO.out.2.1, HMO.out.2.2, by have := HMO.out.1; simp; omega, by rw [List.length_append, edges_append, List.map_append]; exact HO1.out, (bal HB.out _).trans (row_below (HOWN.out.alloc _) HG1.out (Nat.le_refl _) (by have := HB.out.size; simp; omega))⟩
            case measure => have := HMO.out; simp [intOf]; omega
          · go_wp2_with fail
            refine HN.out.mono ?_
            rintro e w' ⟨rfl, rfl⟩
            go_wp2_with fail
            refine HEB2.out.mono ?_
            rintro e w' ⟨rfl, rfl⟩
            go_wp2_with fail
            refine (HC.out _).mono ?_
            rintro e w' ⟨rfl, rfl⟩
            go_wp2
            go_roundw
            case rel => exact ⟨_, _, out, st, _, q, by go_num, by go_num, rfl, rfl, K1.out (by simp), HMO.out.2.1, HMO.out.2.2, by have := HMO.out.1; omega, HOWN.out, HB.out⟩
            case measure => have := HMO.out; simp [intOf]; omega
        · exfalso; have := HMO.out.1; rw [hi2, if_neg (by simp [ci]), hj2, if_neg (by simp [ej])] at this; omega
    · obtain ⟨h1, h2⟩ := hmi.done HAB.out.2.2 HAB.out.1 HAB.out.2.1 (by omega) (by omega)
      have HE := hide (And.intro h1 h2)
      have HM := hide (MineI.of_row rfl hown)
      have ci : ¬ (i : Int) < 2 * (L.length : Int) := by omega
      have cj : ¬ (j : Int) < 2 * (M.length : Int) := by omega
      clear hmi hown hb h1 h2
      go_wp2
      go_ret
      exact ⟨A1, n1, out, rfl, HE.out.1, fun n => by have := HE.out.2 n; rw [hkeep] at this; exact this, by omega, HM.out, HB.out⟩
end Go.Proofs.Ytdpdlbonlpdkjab.Iv
