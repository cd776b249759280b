import Derived.Test.YtflplldamefhoaaMath7
import Derived.Sort.OwnSortedInts
namespace Go.Proofs.Ytflplldamefhoaa.Bd
open Go Go.RowKit Go.Sort
set_option linter.unusedVariables false
/-- what the library's sort does with a slice of numbers, and with an empty one -/
def SortC : Prop := ∀ (blk off cap : Nat) (zs : List Int) (w : World), Holds (Value.int .i64) w blk off zs.toArray → blk < w.heap.size → zs.length < 4611686018427387904 →
  Calls Try.prog 56 #[.slice (some ⟨blk, off, none⟩) zs.length cap] w fun e w' => e = .returned (.tuple #[]) ∧ ∃ n os, w' = grow (putRow (Value.int .i64) (Sort.ahead w n) blk off (zs.mergeSort fun x y => decide (x ≤ y)).toArray) os
def SortN : Prop := ∀ (a : Option Addr) (cap : Nat) (w : World), Calls Try.prog 56 #[.slice a 0 cap] w fun e w' => e = .returned (.tuple #[]) ∧ w' = w
theorem fl_sort {p : Pm} {L : Fl} (hp : par p) (V : Vd p L) : ((fl L 5).mergeSort fun x y => decide (x ≤ y)) = fr L 256 := by
  refine List.Perm.eq_of_pairwise (le := fun a b => decide (a ≤ b) = true) (fun a b _ _ h1 h2 => ?_) (List.pairwise_mergeSort (fun a b c h1 h2 => ?_) (fun a b => ?_) _) ?_ ((List.mergeSort_perm _ _).trans (fl_perm hp V))
  · have := of_decide_eq_true h1; have := of_decide_eq_true h2; omega
  · have := of_decide_eq_true h1; have := of_decide_eq_true h2; exact decide_eq_true (by omega)
  · by_cases h : a ≤ b
    · simp [h]
    · have : b ≤ a := by omega
      simp [this]
  · exact (fr_srt L 256).imp fun h => decide_eq_true (Int.le_of_lt h)
theorem all_len {L : Fl} {l : Is} {k i : Nat} (hL : ∀ k, k < 5 → (L k).length ≤ 1000000) (hk : k ≤ 5) (hi : i ≤ 1000000) (f : Int) (j : Nat) (hj : (j : Int) ≤ bw k) : (fl L k ++ ol l k i ++ bl f j).length ≤ 1000000000 := by
  have h1 := fl_len L k
  have h2 := (cb_bd hL k hk).2
  have h3 := ol_len l k i
  have h4 := bl_len f j
  have h5 := bw_le k
  have h6 : (i : Int) * bw k ≤ 1000000 * 16 := Int.mul_le_mul (by omega) h5 (by have := bw_pos k; omega) (by omega)
  rw [List.length_append, List.length_append]
  omega
set_option maxRecDepth 100000 in
set_option maxHeartbeats 8000000 in
theorem frames_any (hS : SortC) (hN : SortN) (p : Pm) (v : Nat → Value) (L : Fl) (w : World) (hz : ZIn w p v L) : Calls Try.prog 32 #[.agg (znC p v)] w fun e w' => ∃ u, e = .returned u ∧ OwI w.heap.size w' u (frs p L) ∧ Below w.heap.size w w' := by
  have X := hide (Box.new w 25 (znC p v))
  have K0 := hide (bal (brefl w) (.cells (znC p v) 25))
  obtain ⟨res, hres⟩ : ∃ r, r = frs p L := ⟨_, rfl⟩
  rw [← hres]
  have HRes := hide hres
  have HS := hide hS
  have HN := hide hN
  obtain ⟨g, hg⟩ : ∃ g, g = w.heap.size := ⟨_, rfl⟩
  have HG := hide hg
  obtain ⟨W0, hW0⟩ : ∃ W0, W0 = (w.alloc (.cells (znC p v) 25)) := ⟨_, rfl⟩
  rw [← hg, ← hW0] at X
  rw [← hW0] at K0
  have CH := hide (check_any p v L W0 (hz.below K0.out))
  have HZ := hide hz
  clear hz hres hS hN
  by_cases hc : chk p L = 0
  · obtain ⟨hp, V⟩ := chk_zero.1 hc
    have E := hide (show res = (fl L 5).mergeSort fun x y => decide (x ≤ y) by rw [HRes.out, fl_sort hp V]; unfold frs; rw [if_pos hc])
    rw [hc] at CH
    have HP := hide hp
    have HV := hide V
    obtain ⟨i0, hi0, hz0, hz1, hz2⟩ := info_parts info3
    obtain ⟨B, hB⟩ : ∃ B, B = w.heap.size := ⟨_, rfl⟩
    have HB := hide hB
    clear hc hp V HRes hB
    go_enter Try.func32, Try.ntmps32
    go_upto_region 1 with fail
    rw [← hg, ← hW0]
    clear hg hW0
    go_upto_region 4 with (first | (refine wpList_load_row rfl 25 _ rfl g rfl 25 (znC p v) (0, 0) _ X.out Try.underlying25 rfl (by kernel_rfl) ?_) | (go_at_call 16; refine CH.out.mono ?_; rintro e w1 ⟨rfl, hb⟩; replace X := hide (X.out.below hb); replace K0 := hide (K0.out.trans (hb.mono K0.out.size)); clear hb))
    have O := hide (show OwI B w1 (.slice none 0 0) (fl L 0) from (ow_zero B w1).row 0 (by omega))
    have SZ := hide (show B ≤ w1.heap.size by rw [HB.out]; exact K0.out.size)
    obtain ⟨y0, y1, y2, y3, y4, y5, y6, y7, y8, y9⟩ := box_all X.out
    clear CH
    go_wp2
    clear y0 y1 y2 y3 y4 y5 y6 y7 y8 y9
    go_loopw [3, 14] (fun a b wr => ∃ k : Nat, k ≤ 5 ∧ b = .int .i64 k ∧ Hid (OwI B wr a (fl L k)) ∧ Hid (B ≤ wr.heap.size) ∧ Hid (Below w.heap.size w wr)) (fun _ b _ => 5 - (intOf b).toNat)
    case atStart => exact ⟨0, by omega, rfl, O, SZ, K0⟩
    case round =>
      clear O SZ K0 X
      obtain ⟨k, hk, rfl, O, SZ, K0⟩ := hrel
      obtain ⟨A, cap, ev, hcp⟩ := row_form O.out
      subst ev
      by_cases h5 : k < 5
      · have hk5 : (k : Int) < 5 := by omega
        have IX := index_any v h5
        obtain ⟨Al, cl, evl, hcapl, rl⟩ := HZ.out.rd k h5
        rw [evl] at IX
        have RL := hide rl
        have H5 := hide h5
        have hln := HZ.out.len k h5
        have HLN := hide hln
        obtain ⟨l, hl⟩ : ∃ l, l = L k := ⟨_, rfl⟩
        have HL := hide hl
        rw [← hl] at RL hln HLN
        rw [← hl] at IX
        have O2 := hide (show OwI B wr (.slice A (fl L k).length cap) (fl L k ++ ol l k 0) by show OwI B wr _ (fl L k ++ []); rw [List.append_nil]; exact O.out)
        clear evl hcapl rl O hcp hl
        generalize (fl L k).length = m0 at *
        go_wp2
        go_loopw [3, 20] (fun a b wr => ∃ i : Nat, i ≤ l.length ∧ b = .int .i64 i ∧ Hid (OwI B wr a (fl L k ++ ol l k i)) ∧ Hid (B ≤ wr.heap.size) ∧ Hid (Below w.heap.size w wr)) (fun _ b _ => l.length - (intOf b).toNat)
        case atStart => exact ⟨0, Nat.zero_le _, rfl, O2, SZ, K0⟩
        case round =>
          clear O2 SZ K0 IX
          obtain ⟨i, hi, rfl, O, SZ, K0⟩ := hrel
          obtain ⟨A, cap, ev, hcp⟩ := row_form O.out
          subst ev
          by_cases hlt : i < l.length
          · have hi2 : (i : Int) < l.length := by omega
            have hdl : decide ((i : Int) < (l.length : Int)) = true := decide_eq_true hi2
            obtain ⟨b, off, eA, hbl, c0⟩ := (RL.out.below K0.out) (List.length_pos_iff.1 (by omega))
            subst eA
            have cell := c0 i hlt
            obtain ⟨f, hf⟩ : ∃ f, f = l.getD i 0 := ⟨_, rfl⟩
            have HF := hide hf
            have hfb : 0 ≤ f ∧ f + bw k ≤ 256 := by rw [hf]; exact blk_bd HP.out (HV.out.blk k h5 _ (by rw [← HL.out]; exact getD_mem hlt))
            have HFB := hide hfb
            rw [← hf] at cell
            have O2 := hide (show OwI B wr (.slice A (fl L k ++ ol l k i).length cap) (fl L k ++ ol l k i ++ bl f 0) by show OwI B wr _ (fl L k ++ ol l k i ++ []); rw [List.append_nil]; exact O.out)
            have hw := wr2 h5
            clear O c0 hf hcp
            generalize (fl L k ++ ol l k i).length = m0 at *
            go_wp2
            rw [hw]
            go_loopw [3, 26] (fun a b wr => ∃ j : Nat, j ≤ bwn k ∧ b = .int .i64 j ∧ Hid (OwI B wr a (fl L k ++ ol l k i ++ bl f j)) ∧ Hid (B ≤ wr.heap.size) ∧ Hid (Below w.heap.size w wr)) (fun _ b _ => 16 - (intOf b).toNat)
            case atStart => exact ⟨0, Nat.zero_le _, rfl, O2, SZ, K0⟩
            case round =>
              clear O2 SZ K0 cell
              obtain ⟨j, hj, rfl, O, SZ, K0⟩ := hrel
              have hbn := bwn_eq k
              have hbl16 := bw_le k
              have hall := all_len (l := l) (i := i) HZ.out.len (Nat.le_of_lt H5.out) (by have := HLN.out; omega) f j (by omega)
              obtain ⟨A, cap, ev, hcp⟩ := row_form O.out
              subst ev
              obtain ⟨q, hq⟩ : ∃ q, q = fl L k ++ ol l k i ++ bl f j := ⟨_, rfl⟩
              obtain ⟨m, hm⟩ : ∃ m, m = q.length := ⟨_, rfl⟩
              have HQ := hide hq
              have HM := hide hm
              rw [← hq, ← hm] at O
              rw [← hq, ← hm] at hall
              rw [← hq, ← hm]
              clear hq hm hcp
              by_cases hlt2 : j < bwn k
              · have hj2 : (j : Int) < bw k := by omega
                have hdj : decide ((j : Int) < bw k) = true := decide_eq_true hj2
                have hsum : -9223372036854775808 ≤ f + (j : Int) ∧ f + (j : Int) ≤ 9223372036854775807 := by omega
                have M := bal (brefl wr) (.cells #[.int .i64 (f + (j : Int))] 3)
                have OA := hide (row_below O.out M)
                rw [← HM.out] at OA
                have NB := hide (cell_one_new wr (.int .i64 (f + (j : Int))) 3)
                have SA := hide (show B ≤ (wr.alloc (.cells #[.int .i64 (f + (j : Int))] 3)).heap.size by rw [alloc_size']; have := SZ.out; omega)
                have KA := hide (btrans K0.out M)
                clear M O K0
                go_upto_region 14 with (at_builtin; refine wpList_append_own_at _ rfl (.tmp 29) (.tmp 33) 22 rfl B 3 i0 _ 1 8 Try.underlying22 hi0 hz0 hz1 hz2 rfl (by omega) (.slice A m cap) m (q.map ic) rfl OA.out ⟨wr.heap.size, 0, none⟩ 1 1 [.int .i64 (f + (j : Int))] rfl rfl NB.out (by intro u hu; rw [List.mem_singleton.1 hu]; rfl) (by simp only [maxLen]; omega) (by omega) SA.out ?_; intro v4 w4 hown4 hg4 _ hat4; obtain ⟨A4, cp4, ev4, _⟩ := row_form hown4; subst ev4)
                have ou := hide (show OwI B w4 (.slice A4 (m + 1) cp4) (fl L k ++ ol l k i ++ bl f (j + 1)) by
                  have e3 : fl L k ++ ol l k i ++ bl f (j + 1) = q ++ [f + (j : Int)] := by rw [HQ.out]; show _ ++ (bl f j ++ [f + (j : Int)]) = _; rw [← List.append_assoc]
                  have e4 : (q ++ [f + (j : Int)]).length = m + 1 := by rw [List.length_append, ← HM.out]; rfl
                  rw [e3]
                  unfold OwI
                  rw [e4, List.map_append]
                  exact hown4)
                have B4 := below_grown OA.out hg4 SA.out
                have K4 := hide (KA.out.trans (B4.mono (Nat.le_of_eq HB.out.symm)))
                have S4 := hide (Nat.le_trans SA.out B4.size)
                clear B4 hown4 hg4 hat4 OA NB SA KA
                go_wp2
                go_roundw
                case rel => exact ⟨j + 1, by omega, by go_num, ou, S4, K4⟩
                case measure => simp [intOf]; omega
              · obtain rfl : j = bwn k := by omega
                have hdj : decide (((bwn k : Nat) : Int) < bw k) = false := decide_eq_false (by omega)
                have O3 := hide (show OwI B wr (.slice A m cap) (fl L k ++ ol l k (i + 1)) by
                  have e3 : fl L k ++ ol l k (i + 1) = q := by rw [HQ.out, HF.out]; show fl L k ++ (ol l k i ++ bl (l.getD i 0) (bwn k)) = _; rw [← List.append_assoc]
                  rw [e3, HM.out] ; rw [HM.out] at O; exact O.out)
                clear O
                go_wp2
                go_roundw
                case rel => exact ⟨i + 1, by omega, by go_num, O3, SZ, K0⟩
                case measure => simp [intOf]; omega
          · obtain rfl : i = l.length := by omega
            have hdl : decide (((l.length : Nat) : Int) < (l.length : Int)) = false := decide_eq_false (by omega)
            have O3 := hide (show OwI B wr (.slice A (fl L k ++ ol l k l.length).length cap) (fl L (k + 1)) by
              have e3 : fl L (k + 1) = fl L k ++ ol l k l.length := by rw [HL.out]; rfl
              rw [e3]; exact O.out)
            generalize (fl L k ++ ol l k l.length).length = m at *
            clear O hcp
            go_wp2
            go_roundw
            case rel => exact ⟨k + 1, by omega, by go_num, O3, SZ, K0⟩
            case measure => simp [intOf]; omega
      · obtain rfl : k = 5 := by omega
        have hl5 : (fl L 5).length < 4611686018427387904 := by
          have h1 := fl_len L 5
          have h2 := (cb_bd HZ.out.len 5 (Nat.le_refl _)).2
          omega
        obtain ⟨l, hl⟩ : ∃ l, l = fl L 5 := ⟨_, rfl⟩
        rw [← hl] at hl5 E
        have O2 := hide (show OwI B wr (.slice A l.length cap) l by rw [hl]; exact O.out)
        rw [← hl]
        clear O hl hcp
        have HL5 := hide hl5
        clear hl5
        rcases Nat.eq_zero_or_pos l.length with h0 | h0
        · have e0 : l = [] := List.eq_nil_of_length_eq_zero h0
          subst e0
          clear h0
          go_wp2_with (go_at_call 56; refine (HN.out _ _ _).mono ?_; rintro e w5 ⟨rfl, rfl⟩)
          go_ret
          refine ⟨_, rfl, ?_, K0.out⟩
          rw [E.out, List.mergeSort_nil, ← HB.out]
          exact O2.out
        · obtain ⟨_, ⟨_, hn0⟩ | ⟨gb, capb, cur, ev, hgb, hh, h1, h2, h3, h4⟩⟩ := O2.out
          · omega
          · cases ev
            have SO := hide (HS.out gb 0 cap l wr (holds_of_blockI hh (by rw [Nat.mul_one] at h4; exact h4)) (blk_lt hh) HL5.out)
            have BASE := hide hgb
            have HH := hide hh
            have H1 := hide h1
            have H2 := hide h2
            have H3 := hide h3
            clear hgb hh h1 h2 h3 h4 h0
            go_wp2_with (go_at_call 56; refine SO.out.mono ?_; rintro e w5 ⟨rfl, n5, os5, hw5⟩; have HW5 := hide hw5; clear hw5)
            go_ret
            have hw5 := HW5.out
            have hgr : wr.grownBy w5 (Value.slice (some ⟨gb, 0, none⟩) l.length cap).ownBlock := by rw [hw5]; exact grownBy_sortedI _
            refine ⟨_, rfl, ?_, K0.out.trans ((below_grown O2.out hgr SZ.out).mono (Nat.le_of_eq HB.out.symm))⟩
            have r := ownsRow_sortedI (w := wr) (n := n5) (os := os5) (ss := l) (ts := l.mergeSort fun x y => decide (x ≤ y)) (List.length_mergeSort _) BASE.out HH.out H1.out H2.out H3.out
            rw [← hw5] at r
            unfold OwI
            rw [E.out, List.length_mergeSort, ← HB.out]
            exact r
  · have E := hide (show res = [] by rw [HRes.out]; unfold frs; rw [if_neg hc])
    have hne : (chk p L != 0) = true := by simpa using hc
    generalize chk p L = ce at *
    clear hc
    go_enter Try.func32, Try.ntmps32
    go_upto_region 1 with fail
    rw [← hg, ← hW0]
    clear hg hW0
    go_wp2_with (first | (refine wpList_load_row rfl 25 _ rfl g rfl 25 (znC p v) (0, 0) _ X.out Try.underlying25 rfl (by kernel_rfl) ?_) | (go_at_call 16; refine CH.out.mono ?_; rintro e w1 ⟨rfl, hb⟩; replace X := hide (X.out.below hb); replace K0 := hide (K0.out.trans (hb.mono K0.out.size)); clear hb))
    go_ret
    exact ⟨_, rfl, by rw [E.out]; exact (ow_zero w.heap.size w1).row 0 (by omega), K0.out⟩
end Go.Proofs.Ytflplldamefhoaa.Bd
