import Derived.Test.YtflplldamefhoaaCt
namespace Go.Proofs.Ytflplldamefhoaa.Bd
open Go Go.RowKit
set_option linter.unusedVariables false
def cnt (p : Pm) (L : Fl) : Int := if chk p L = 0 then cb L 5 else 0
theorem count_any (p : Pm) (v : Nat → Value) (L : Fl) (w : World) (hz : ZIn w p v L) : Calls Try.prog 34 #[.agg (znC p v)] w fun e w' => e = .returned (.int .i64 (cnt p L)) ∧ Below w.heap.size w w' := by
  obtain ⟨res, hres⟩ : ∃ r, r = cnt p L := ⟨_, rfl⟩
  rw [← hres]
  have X := hide (Box.new w 25 (znC p v))
  have K0 := hide (bal (brefl w) (.cells (znC p v) 25))
  have HRes := hide hres
  obtain ⟨g, hg⟩ : ∃ g, g = w.heap.size := ⟨_, rfl⟩
  obtain ⟨W0, hW0⟩ : ∃ W0, W0 = (w.alloc (.cells (znC p v) 25)) := ⟨_, rfl⟩
  rw [← hg, ← hW0] at X
  rw [← hW0] at K0
  have CH := hide (check_any p v L W0 (hz.below K0.out))
  have HZ := hide hz
  clear hz hres
  by_cases hc : chk p L = 0
  · have E := hide (show res = cb L 5 by rw [HRes.out]; unfold cnt; rw [if_pos hc])
    have CB := hide (fun w1 (hb : Below w.heap.size w w1) => below_any p v L 5 (by omega) w1 (HZ.out.below hb))
    rw [hc] at CH
    clear hc
    generalize cb L 5 = n at *
    go_enter Try.func34, Try.ntmps34
    go_upto_region 1 with fail
    rw [← hg, ← hW0]
    clear hg hW0
    go_wp2_with (first | (refine wpList_load_row rfl 25 _ rfl g rfl 25 (znC p v) (0, 0) _ X.out Try.underlying25 rfl (by kernel_rfl) ?_) | (go_at_call 16; refine CH.out.mono ?_; rintro e w1 ⟨rfl, hb⟩; replace X := hide (X.out.below hb); replace K0 := hide (K0.out.trans (hb.mono K0.out.size)); clear hb) | (go_at_call 57; refine (CB.out _ K0.out).mono ?_; rintro e w2 ⟨rfl, hb2⟩))
    go_ret
    exact ⟨ret_int E.out.symm, K0.out.trans (hb2.mono K0.out.size)⟩
  · have E := hide (show res = 0 by rw [HRes.out]; unfold cnt; rw [if_neg hc])
    have hne : (chk p L != 0) = true := by simpa using hc
    generalize chk p L = ce at *
    clear hc
    go_enter Try.func34, Try.ntmps34
    go_upto_region 1 with fail
    rw [← hg, ← hW0]
    clear hg hW0
    go_wp2_with (first | (refine wpList_load_row rfl 25 _ rfl g rfl 25 (znC p v) (0, 0) _ X.out Try.underlying25 rfl (by kernel_rfl) ?_) | (go_at_call 16; refine CH.out.mono ?_; rintro e w1 ⟨rfl, hb⟩; replace X := hide (X.out.below hb); replace K0 := hide (K0.out.trans (hb.mono K0.out.size)); clear hb))
    go_ret
    exact ⟨ret_int E.out.symm, K0.out⟩
def unu (p : Pm) (L : Fl) (o : Int) : Int := if chk p L = 0 ∧ 0 ≤ o ∧ o ≤ 4 then cb L o.toNat else 0
set_option maxRecDepth 100000 in
theorem unus_any (p : Pm) (v : Nat → Value) (L : Fl) (o : Int) (w : World) (hz : ZIn w p v L) : Calls Try.prog 38 #[.agg (znC p v), .int .i64 o] w fun e w' => e = .returned (.int .i64 (unu p L o)) ∧ Below w.heap.size w w' := by
  obtain ⟨res, hres⟩ : ∃ r, r = unu p L o := ⟨_, rfl⟩
  rw [← hres]
  have X := hide (Box.new w 25 (znC p v))
  have K0 := hide (bal (brefl w) (.cells (znC p v) 25))
  have HRes := hide hres
  obtain ⟨g, hg⟩ : ∃ g, g = w.heap.size := ⟨_, rfl⟩
  obtain ⟨W0, hW0⟩ : ∃ W0, W0 = (w.alloc (.cells (znC p v) 25)) := ⟨_, rfl⟩
  rw [← hg, ← hW0] at X
  rw [← hW0] at K0
  have CH := hide (check_any p v L W0 (hz.below K0.out))
  have HZ := hide hz
  clear hz hres
  by_cases hc : chk p L = 0
  · have OR := hide (fun w1 => ord_any o w1)
    by_cases ho : 0 ≤ o ∧ o ≤ 4
    · have E := hide (show res = cb L o.toNat by rw [HRes.out]; unfold unu; rw [if_pos ⟨hc, ho⟩])
      rw [decide_eq_true ho] at OR
      obtain ⟨k, rfl⟩ : ∃ k : Nat, o = k := ⟨o.toNat, by omega⟩
      have CB := hide (fun w1 (hb : Below w.heap.size w w1) => below_any p v L k (by omega) w1 (HZ.out.below hb))
      rw [Int.toNat_natCast] at E
      rw [hc] at CH
      clear hc ho
      generalize cb L k = n at *
      go_enter Try.func38, Try.ntmps38
      go_upto_region 1 with fail
      rw [← hg, ← hW0]
      clear hg hW0
      go_wp2_with (first | (refine wpList_load_row rfl 25 _ rfl g rfl 25 (znC p v) (0, 0) _ X.out Try.underlying25 rfl (by kernel_rfl) ?_) | (go_at_call 16; refine CH.out.mono ?_; rintro e w1 ⟨rfl, hb⟩; replace X := hide (X.out.below hb); replace K0 := hide (K0.out.trans (hb.mono K0.out.size)); clear hb) | (go_at_call 52; refine (OR.out _).mono ?_; rintro e w' ⟨rfl, rfl⟩) | (go_at_call 57; refine (CB.out _ K0.out).mono ?_; rintro e w2 ⟨rfl, hb2⟩))
      go_ret
      exact ⟨ret_int E.out.symm, K0.out.trans (hb2.mono K0.out.size)⟩
    · have E := hide (show res = 0 by rw [HRes.out]; unfold unu; rw [if_neg (fun h => ho h.2)])
      rw [decide_eq_false ho] at OR
      rw [hc] at CH
      clear hc ho
      go_enter Try.func38, Try.ntmps38
      go_upto_region 1 with fail
      rw [← hg, ← hW0]
      clear hg hW0
      go_wp2_with (first | (refine wpList_load_row rfl 25 _ rfl g rfl 25 (znC p v) (0, 0) _ X.out Try.underlying25 rfl (by kernel_rfl) ?_) | (go_at_call 16; refine CH.out.mono ?_; rintro e w1 ⟨rfl, hb⟩; replace X := hide (X.out.below hb); replace K0 := hide (K0.out.trans (hb.mono K0.out.size)); clear hb) | (go_at_call 52; refine (OR.out _).mono ?_; rintro e w' ⟨rfl, rfl⟩))
      go_ret
      exact ⟨ret_int E.out.symm, K0.out⟩
  · have E := hide (show res = 0 by rw [HRes.out]; unfold unu; rw [if_neg (fun h => hc h.1)])
    have hne : (chk p L != 0) = true := by simpa using hc
    generalize chk p L = ce at *
    clear hc
    go_enter Try.func38, Try.ntmps38
    go_upto_region 1 with fail
    rw [← hg, ← hW0]
    clear hg hW0
    go_wp2_with (first | (refine wpList_load_row rfl 25 _ rfl g rfl 25 (znC p v) (0, 0) _ X.out Try.underlying25 rfl (by kernel_rfl) ?_) | (go_at_call 16; refine CH.out.mono ?_; rintro e w1 ⟨rfl, hb⟩; replace X := hide (X.out.below hb); replace K0 := hide (K0.out.trans (hb.mono K0.out.size)); clear hb))
    go_ret
    exact ⟨ret_int E.out.symm, K0.out⟩
/-- the greatest order below k with a free block, or -1 -/
def grt (L : Fl) : Nat → Int
  | 0 => -1
  | k + 1 => if L k = [] then grt L k else k
def lrg (p : Pm) (L : Fl) : Int := if chk p L = 0 then grt L 5 else -1
set_option maxRecDepth 100000 in
theorem larg_any (p : Pm) (v : Nat → Value) (L : Fl) (w : World) (hz : ZIn w p v L) : Calls Try.prog 36 #[.agg (znC p v)] w fun e w' => e = .returned (.int .i64 (lrg p L)) ∧ Below w.heap.size w w' := by
  obtain ⟨res, hres⟩ : ∃ r, r = lrg p L := ⟨_, rfl⟩
  rw [← hres]
  have X := hide (Box.new w 25 (znC p v))
  have K0 := hide (bal (brefl w) (.cells (znC p v) 25))
  have HRes := hide hres
  obtain ⟨g, hg⟩ : ∃ g, g = w.heap.size := ⟨_, rfl⟩
  obtain ⟨W0, hW0⟩ : ∃ W0, W0 = (w.alloc (.cells (znC p v) 25)) := ⟨_, rfl⟩
  rw [← hg, ← hW0] at X
  rw [← hW0] at K0
  have CH := hide (check_any p v L W0 (hz.below K0.out))
  have HZ := hide hz
  clear hz hres
  by_cases hc : chk p L = 0
  · have E := hide (show res = grt L 5 by rw [HRes.out]; unfold lrg; rw [if_pos hc])
    rw [hc] at CH
    clear hc HRes
    go_enter Try.func36, Try.ntmps36
    go_upto_region 1 with fail
    rw [← hg, ← hW0]
    clear hg hW0
    go_wp2_with (first | (refine wpList_load_row rfl 25 _ rfl g rfl 25 (znC p v) (0, 0) _ X.out Try.underlying25 rfl (by kernel_rfl) ?_) | (go_at_call 16; refine CH.out.mono ?_; rintro e w1 ⟨rfl, hb⟩; replace X := hide (X.out.below hb); replace K0 := hide (K0.out.trans (hb.mono K0.out.size)); clear hb))
    go_loopw [3] (fun a wr => ∃ k : Nat, k ≤ 5 ∧ a = .int .i64 ((k : Int) - 1) ∧ Hid (Box wr g 25 (znC p v)) ∧ Hid (Below w.heap.size w wr) ∧ Hid (res = grt L k)) (fun a _ => (intOf a + 1).toNat)
    case atStart => exact ⟨5, Nat.le_refl _, by first | rfl | simp, X, K0, E⟩
    case round =>
      clear X K0 E
      obtain ⟨k, hk, rfl, X, K, E⟩ := hrel
      by_cases hlt : 0 < k
      · obtain ⟨q, rfl⟩ : ∃ q, k = q + 1 := ⟨k - 1, by omega⟩
        have e1 : ((q + 1 : Nat) : Int) - 1 = (q : Int) := by omega
        have h5 : q < 5 := by omega
        have hk5 : (q : Int) < 5 := by omega
        have s0 := box_list X.out h5
        obtain ⟨A, c, ev, hcap, r⟩ := HZ.out.rd q h5
        rw [ev] at s0
        rw [e1]
        by_cases hn : L q = []
        · have E2 := hide (show res = grt L q by rw [E.out]; show (if L q = [] then grt L q else (q : Int)) = _; rw [if_pos hn])
          rw [hn] at s0
          clear hn ev r hcap E e1
          go_wp2
          go_roundw
          case rel => exact ⟨q, by omega, rfl, X, K, E2⟩
          case measure => simp [intOf]
        · have E2 := hide (show res = (q : Int) by rw [E.out]; show (if L q = [] then grt L q else (q : Int)) = _; rw [if_neg hn])
          have hlen : 0 < (L q).length := List.length_pos_iff.2 hn
          have hl0 : ((L q).length == 0) = false := by simp; omega
          have hl1 : (((L q).length : Int) == 0) = false := by simp; omega
          clear hn ev r hcap E e1
          generalize (L q).length = n at *
          go_wp2
          go_ret
          exact ⟨ret_int E2.out.symm, K.out⟩
      · obtain rfl : k = 0 := by omega
        have E2 := hide (show res = -1 from E.out)
        go_wp2
        go_ret
        exact ⟨ret_int E2.out.symm, K.out⟩
  · have E := hide (show res = -1 by rw [HRes.out]; unfold lrg; rw [if_neg hc])
    have hne : (chk p L != 0) = true := by simpa using hc
    generalize chk p L = ce at *
    clear hc
    go_enter Try.func36, Try.ntmps36
    go_upto_region 1 with fail
    rw [← hg, ← hW0]
    clear hg hW0
    go_wp2_with (first | (refine wpList_load_row rfl 25 _ rfl g rfl 25 (znC p v) (0, 0) _ X.out Try.underlying25 rfl (by kernel_rfl) ?_) | (go_at_call 16; refine CH.out.mono ?_; rintro e w1 ⟨rfl, hb⟩; replace X := hide (X.out.below hb); replace K0 := hide (K0.out.trans (hb.mono K0.out.size)); clear hb))
    go_ret
    exact ⟨ret_int E.out.symm, K0.out⟩
end Go.Proofs.Ytflplldamefhoaa.Bd
