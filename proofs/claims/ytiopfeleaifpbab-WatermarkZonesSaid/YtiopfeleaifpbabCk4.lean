import Derived.Test.YtiopfeleaifpbabCk3
namespace Go.Proofs.Ytiopfeleaifpbab.Bd
open Go Go.RowKit
set_option linter.unusedVariables false
/-- a zone that may be an argument: numbers of 64 bits, lists that are not too long -/
structure ZIn (w : World) (p : Pm) (v : Nat → Value) (L : Fl) : Prop where
  pr : Pr p
  rd : RdZ w v L
  wf : ∀ k, k < 5 → ∀ f ∈ L k, i64r f
  len : ∀ k, k < 5 → (L k).length ≤ 9223372036854775807
theorem ZIn.below {w w' : World} {p : Pm} {v : Nat → Value} {L : Fl} (h : ZIn w p v L) (hb : Below w.heap.size w w') : ZIn w' p v L := ⟨h.pr, h.rd.below hb, h.wf, h.len⟩
theorem par_pr {p : Pm} (h : par p) : Pr p := by
  unfold par at h
  constructor <;> (unfold i64r; omega)
theorem ZIn.of_vd {w : World} {p : Pm} {v : Nat → Value} {L : Fl} (hp : par p) (V : Lst p L) (r : RdZ w v L) : ZIn w p v L :=
  ⟨par_pr hp, r, fun k hk f hf => by have := blk_bd hp (V.blk k hk f hf); have := bw_pos k; unfold i64r; omega, fun k hk => by have := lst_len hp V hk; omega⟩
set_option maxRecDepth 100000 in
set_option maxHeartbeats 8000000 in
theorem check_any (p : Pm) (v : Nat → Value) (L : Fl) (w : World) (hz : ZIn w p v L) : Calls Try.prog 33 #[.agg (znC p v)] w fun e w' => e = .returned (.int .i64 (chk p L)) ∧ Below w.heap.size w w' := by
  have X := hide (Box.new w 44 (znC p v))
  have K0 := hide (bal (brefl w) (.cells (znC p v) 44))
  have HZ := hide hz
  have PA := hide (fun w1 => params_any p v hz.pr w1)
  obtain ⟨res, hres⟩ : ∃ r, r = chk p L := ⟨_, rfl⟩
  rw [← hres]
  have HRes := hide hres
  clear hz hres
  obtain ⟨g, hg⟩ : ∃ g, g = w.heap.size := ⟨_, rfl⟩
  obtain ⟨W0, hW0⟩ : ∃ W0, W0 = (w.alloc (.cells (znC p v) 44)) := ⟨_, rfl⟩
  rw [← hg, ← hW0] at X
  rw [← hW0] at K0
  by_cases hp : par p
  · rw [decide_eq_true hp] at PA
    have HP := hide hp
    clear hp
    go_enter Try.func33, Try.ntmps33
    go_upto_region 1 with fail
    rw [← hg, ← hW0]
    clear hg hW0
    go_upto_region 3 with (first | (refine wpList_load_row rfl 44 _ rfl g rfl 44 (znC p v) (0, 0) _ X.out Try.underlying44 rfl (by kernel_rfl) ?_) | (go_at_call 37; refine (PA.out _).mono ?_; rintro e w1 ⟨rfl, hb⟩))
    have K1 := hide (K0.out.trans (hb.mono K0.out.size))
    have X1 := hide (X.out.below hb)
    clear hb X K0
    obtain ⟨y0, y1, y2, y3, y4, y5, y6, y7, y8, y9⟩ := box_all X1.out
    go_wp2
    clear y0 y1 y2 y3 y4 y5 y6 y7 y8 y9
    go_loopw [11] (fun a wr => ∃ k : Nat, k ≤ 5 ∧ a = .int .i64 k ∧ Hid (Box wr g 44 (znC p v)) ∧ Hid (Below w.heap.size w wr) ∧ Hid (∀ j, j < k → eAt p L j = 0)) (fun a _ => 5 - (intOf a).toNat)
    case atStart => exact ⟨0, by omega, rfl, X1, K1, hide (fun j hj => absurd hj (Nat.not_lt_zero _))⟩
    case round =>
      clear X1 K1
      obtain ⟨k, hk, rfl, X, K, N⟩ := hrel
      by_cases h5 : k < 5
      · have hk5 : (k : Int) < 5 := by omega
        have hd := wr_k h5
        have IX := index_any v h5
        obtain ⟨A, c, ev, hcap, r⟩ := HZ.out.rd k h5
        have CL := hide (cl_any p v A c (L k) k h5 wr HP.out (r.below K.out) (HZ.out.wf k h5) (HZ.out.len k h5))
        rw [ev] at IX
        clear ev r hcap
        have ee : lE p k (-1) (L k) = eAt p L k := rfl
        rw [ee] at CL
        by_cases he : eAt p L k = 0
        · have N2 := hide (show ∀ j, j < k + 1 → eAt p L j = 0 from fun j hj => by
            by_cases e : j = k
            · rw [e]; exact he
            · exact N.out j (by omega))
          rw [he] at CL
          clear ee he N
          go_wp2_with (first | (refine wpList_load_row rfl 44 _ rfl g rfl 44 (znC p v) (0, 0) _ X.out Try.underlying44 rfl (by kernel_rfl) ?_) | (go_at_call 38; refine CL.out.mono ?_; rintro e w1 ⟨rfl, hb⟩))
          go_roundw
          case rel => exact ⟨k + 1, by omega, by go_num, hide (X.out.below hb), hide (K.out.trans (hb.mono K.out.size)), N2⟩
          case measure => simp [intOf]; omega
        · have E := hide (show res = eAt p L k by
            rw [HRes.out]
            unfold chk
            rw [if_pos HP.out, listE_at h5 N.out he, if_pos he])
          have hne : (eAt p L k != 0) = true := by simpa using he
          generalize eAt p L k = er at *
          clear ee he N
          go_wp2_with (first | (refine wpList_load_row rfl 44 _ rfl g rfl 44 (znC p v) (0, 0) _ X.out Try.underlying44 rfl (by kernel_rfl) ?_) | (go_at_call 38; refine CL.out.mono ?_; rintro e w1 ⟨rfl, hb⟩))
          go_ret
          exact ⟨ret_int E.out.symm, K.out.trans (hb.mono K.out.size)⟩
      · obtain rfl : k = 5 := by omega
        have HL := hide (lst_of N.out)
        have hz0 : listE p L = 0 := listE_all N.out
        have OV := hide (fun w1 (hb : Below w.heap.size w w1) => overlap_any p v L w1 HP.out HL.out (HZ.out.rd.below hb))
        have HB := hide (fun w1 (hb : Below w.heap.size w w1) => hasb_any p v L w1 HP.out HL.out (HZ.out.rd.below hb))
        by_cases hdj : Dj L
        · rw [decide_eq_false (fun h => h hdj)] at OV
          by_cases hnb : Nb L
          · rw [decide_eq_false (fun h => h hnb)] at HB
            have E := hide (show res = 0 by
              rw [HRes.out]
              unfold chk
              rw [if_pos HP.out, if_neg (fun x => x hz0), if_pos hdj, if_pos hnb])
            clear hz0 N hdj hnb
            go_wp2_with (first | (refine wpList_load_row rfl 44 _ rfl g rfl 44 (znC p v) (0, 0) _ X.out Try.underlying44 rfl (by kernel_rfl) ?_) | (go_at_call 39; refine (OV.out _ K.out).mono ?_; rintro e w1 ⟨rfl, hb⟩; replace X := hide (X.out.below hb); replace K := hide (K.out.trans (hb.mono K.out.size))) | (go_at_call 40; refine (HB.out _ K.out).mono ?_; rintro e w1 ⟨rfl, hb⟩; replace X := hide (X.out.below hb); replace K := hide (K.out.trans (hb.mono K.out.size))))
            go_ret
            exact ⟨ret_int E.out.symm, K.out⟩
          · rw [decide_eq_true hnb] at HB
            have E := hide (show res = 11 by
              rw [HRes.out]
              unfold chk
              rw [if_pos HP.out, if_neg (fun x => x hz0), if_pos hdj, if_neg hnb])
            clear hz0 N hdj hnb
            go_wp2_with (first | (refine wpList_load_row rfl 44 _ rfl g rfl 44 (znC p v) (0, 0) _ X.out Try.underlying44 rfl (by kernel_rfl) ?_) | (go_at_call 39; refine (OV.out _ K.out).mono ?_; rintro e w1 ⟨rfl, hb⟩; replace X := hide (X.out.below hb); replace K := hide (K.out.trans (hb.mono K.out.size))) | (go_at_call 40; refine (HB.out _ K.out).mono ?_; rintro e w1 ⟨rfl, hb⟩; replace X := hide (X.out.below hb); replace K := hide (K.out.trans (hb.mono K.out.size))))
            go_ret
            exact ⟨ret_int E.out.symm, K.out⟩
        · rw [decide_eq_true hdj] at OV
          have E := hide (show res = 7 by
            rw [HRes.out]
            unfold chk
            rw [if_pos HP.out, if_neg (fun x => x hz0), if_neg hdj])
          clear hz0 N hdj HB
          go_wp2_with (first | (refine wpList_load_row rfl 44 _ rfl g rfl 44 (znC p v) (0, 0) _ X.out Try.underlying44 rfl (by kernel_rfl) ?_) | (go_at_call 39; refine (OV.out _ K.out).mono ?_; rintro e w1 ⟨rfl, hb⟩; replace X := hide (X.out.below hb); replace K := hide (K.out.trans (hb.mono K.out.size))))
          go_ret
          exact ⟨ret_int E.out.symm, K.out⟩
  · rw [decide_eq_false hp] at PA
    have E := hide (show res = 2 by rw [HRes.out]; unfold chk; rw [if_neg hp])
    clear hp
    go_enter Try.func33, Try.ntmps33
    go_upto_region 1 with fail
    rw [← hg, ← hW0]
    clear hg hW0
    go_wp2_with (first | (refine wpList_load_row rfl 44 _ rfl g rfl 44 (znC p v) (0, 0) _ X.out Try.underlying44 rfl (by kernel_rfl) ?_) | (go_at_call 37; refine (PA.out _).mono ?_; rintro e w1 ⟨rfl, hb⟩))
    go_ret
    exact ⟨ret_int E.out.symm, K0.out.trans (hb.mono K0.out.size)⟩
end Go.Proofs.Ytiopfeleaifpbab.Bd
