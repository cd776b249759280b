import Derived.Test.YtncdilkcblakhaaF5
namespace Go.Proofs.Ytncdilkcblakhaa.In
open Go Go.RowKit
set_option linter.unusedVariables false
set_option linter.unusedSimpArgs false
theorem ofInt_i64 (a : Nat) (ha : a < 1048576) : (BitVec.ofInt 64 (a : Int)).toNat = a := by
  rw [BitVec.ofInt_natCast, BitVec.toNat_ofNat]; exact Nat.mod_eq_of_lt (by omega)
theorem i64_or_nat (a b : Nat) (ha : a < 1048576) (hb : b < 1048576) : bits .or .i64 (a : Int) (b : Int) = ((a ||| b : Nat) : Int) := by
  have hx : a ||| b < 2 ^ 20 := Nat.or_lt_two_pow (by omega) (by omega)
  show IntKind.i64.wrap ((BitVec.ofInt 64 (a : Int) ||| BitVec.ofInt 64 (b : Int)).toNat : Int) = _
  rw [BitVec.toNat_or, ofInt_i64 a ha, ofInt_i64 b hb, IntKind.wrap_i64]
  omega
theorem i64_and_nat (a b : Nat) (ha : a < 1048576) (hb : b < 1048576) : bits .and .i64 (a : Int) (b : Int) = ((a &&& b : Nat) : Int) := by
  have hx : a &&& b < 2 ^ 20 := Nat.and_lt_two_pow _ (by omega)
  show IntKind.i64.wrap ((BitVec.ofInt 64 (a : Int) &&& BitVec.ofInt 64 (b : Int)).toNat : Int) = _
  rw [BitVec.toNat_and, ofInt_i64 a ha, ofInt_i64 b hb, IntKind.wrap_i64]
  omega
theorem or_mask {y z : Int} (hy : 0 ≤ y ∧ y < 256) (hz : 0 ≤ z ∧ z < 256) : bits .or .i64 y (z * 256) = y + 256 * z := by
  obtain ⟨Y, rfl⟩ := Int.eq_ofNat_of_zero_le hy.1
  obtain ⟨Z, rfl⟩ := Int.eq_ofNat_of_zero_le hz.1
  have h := i64_or_nat Y (256 * Z) (by omega) (by omega)
  rw [Nat.or_comm, nat_join 8 (256 * Z) Y (by omega) (by omega)] at h
  rw [show ((Z : Int) * 256) = ((256 * Z : Nat) : Int) by omega, h]
  omega
def DeR (l : By) (w : World) (e : Ending) (w' : World) : Prop := e = .returned (.tuple #[.int .i64 (dR l).1, .int .i64 (dR l).2, .int .i64 (dE l)]) ∧ Below w.heap.size w w'
set_option maxRecDepth 100000 in
set_option maxHeartbeats 4000000 in
theorem dec_any (A : Option Addr) (c : Nat) (l : By) (w : World) (h : BsB w A l) (hy : Byt l) (hn : l.length ≤ 9223372036854775807) : Calls Try.prog 17 #[.slice A l.length c] w (DeR l w) := by
  by_cases hl : l.length = 32
  · have H4 := hide (h.cells (brefl _) (show 4 < l.length by omega))
    have H5 := h.cells (brefl _) (show 5 < l.length by omega)
    have H6 := h.cells (brefl _) (show 6 < l.length by omega)
    have HH := hide h
    have y4 := hy.at (show 4 < l.length by omega)
    have y5 := hy.at (show 5 < l.length by omega)
    have y6 := hy.at (show 6 < l.length by omega)
    have ES := hide (show dS l = l.getD 4 0 from rfl)
    have EM := hide (show dM l = l.getD 5 0 + 256 * l.getD 6 0 from rfl)
    have HL := hide hl
    have HY := hide hy
    generalize l.getD 4 0 = s at *
    generalize l.getD 5 0 = y at *
    generalize l.getD 6 0 = z at *
    obtain ⟨b, o, rfl, -, x4⟩ := H4.out
    obtain ⟨b', o', e1, -, x5⟩ := H5
    injection e1 with e1
    injection e1 with e1 e2
    subst e1 e2
    obtain ⟨b', o', e1, -, x6⟩ := H6
    injection e1 with e1
    injection e1 with e1 e2
    subst e1 e2
    have w4 : IntKind.i64.wrap s = s := by rw [IntKind.wrap_i64]; omega
    have w5 : IntKind.i64.wrap y = y := by rw [IntKind.wrap_i64]; omega
    have w6 : IntKind.i64.wrap z = z := by rw [IntKind.wrap_i64]; omega
    have w7 : IntKind.i64.wrap (z * 256) = z * 256 := by rw [IntKind.wrap_i64]; omega
    have w8 := or_mask y5 y6
    obtain ⟨m, hm⟩ : ∃ m, m = y + 256 * z := ⟨_, rfl⟩
    rw [← hm] at w8 EM
    have C1 := hide (fun w => enc_any s m w)
    have DE := hide (show dE l = if eE s m = 0 ∧ l = blk s m then 0 else 22 by
      unfold dE; rw [if_neg (by omega), ES.out, EM.out])
    have DR := hide (show dE l = 0 → dR l = (s, m) from fun e => by unfold dR; rw [if_pos e, ES.out, EM.out])
    have DN := hide (show dE l ≠ 0 → dR l = (0, 0) from fun e => by unfold dR; rw [if_neg e])
    have hd : ((32 : Int) != 32) = false := rfl
    unfold DeR
    rw [hl]
    clear hn h hy hl H4 ES EM y4 y5 y6 hm
    by_cases he : eE s m = 0
    · have BL := hide (blk_byt he)
      have EB : eB s m = blk s m := if_pos he
      have DE2 := hide (show dE l = if l = blk s m then 0 else 22 by rw [DE.out]; simp [he])
      unfold EnR at C1
      rw [EB, he, blk_len] at C1
      clear he EB DE
      by_cases hq : l = blk s m
      · have E2 := DE2.out
        rw [if_pos hq] at E2
        rw [E2, DR.out E2]
        have C2 := hide (fun w' A2 c2 (h1 : BsB w' (some ⟨b, o, none⟩) l) (h2 : BsB w' A2 (blk s m)) => equal_any (some ⟨b, o, none⟩) A2 c c2 l (blk s m) w' h1 h2 HY.out BL.out)
        rw [HL.out, blk_len] at C2
        rw [decide_eq_true hq] at C2
        clear hq E2 DE2 DR DN BL
        go_enter Try.func17, Try.ntmps17
        go_wp2
        go_quiet (fail)
        go_wp2_with fail
        refine (C1.out _).mono ?_
        rintro e w' ⟨A2, c2, rfl, hO, hB⟩
        replace hO := hide (show BsB w' A2 (blk s m) from OwB.bs hO)
        replace hB := hide (btrans (below_drewN (brefl w) _) hB)
        have HR := hide (HH.out.below hB.out)
        go_wp2_with fail
        refine (C2.out _ _ _ HR.out hO.out).mono ?_
        rintro e w' ⟨rfl, rfl⟩
        go_wp2
        go_ret3
        exact ⟨rfl, hB.out⟩
      · have E2 := DE2.out
        rw [if_neg hq] at E2
        rw [E2, DN.out (by rw [E2]; omega)]
        have C2 := hide (fun w' A2 c2 (h1 : BsB w' (some ⟨b, o, none⟩) l) (h2 : BsB w' A2 (blk s m)) => equal_any (some ⟨b, o, none⟩) A2 c c2 l (blk s m) w' h1 h2 HY.out BL.out)
        rw [HL.out, blk_len] at C2
        rw [decide_eq_false hq] at C2
        clear hq E2 DE2 DR DN BL
        go_enter Try.func17, Try.ntmps17
        go_wp2
        go_quiet (fail)
        go_wp2_with fail
        refine (C1.out _).mono ?_
        rintro e w' ⟨A2, c2, rfl, hO, hB⟩
        replace hO := hide (show BsB w' A2 (blk s m) from OwB.bs hO)
        replace hB := hide (btrans (below_drewN (brefl w) _) hB)
        have HR := hide (HH.out.below hB.out)
        go_wp2_with fail
        refine (C2.out _ _ _ HR.out hO.out).mono ?_
        rintro e w' ⟨rfl, rfl⟩
        go_wp2
        go_ret3
        exact ⟨rfl, hB.out⟩
    · have EB : eB s m = [] := if_neg he
      have E2 : dE l = 22 := by rw [DE.out, if_neg (fun h => he h.1)]
      rw [E2, DN.out (by rw [E2]; omega)]
      unfold EnR at C1
      rw [EB] at C1
      change Hid (∀ w : World, Calls Try.prog 14 #[.int .i64 s, .int .i64 m] w fun e w' => ∃ A c, e = .returned (.tuple #[.slice A 0 c, .int .i64 (eE s m)]) ∧ OwB w.heap.size w' (.slice A 0 c) [] ∧ Below w.heap.size w w') at C1
      have hne : (eE s m != 0) = true := by simpa using he
      generalize eE s m = er at *
      clear he EB E2 DE DR DN
      go_enter Try.func17, Try.ntmps17
      go_wp2
      go_quiet (fail)
      go_wp2_with fail
      refine (C1.out _).mono ?_
      rintro e w' ⟨A2, c2, rfl, hO, hB⟩
      replace hO := hide (show BsB w' A2 [] from OwB.bs hO)
      replace hB := hide (btrans (below_drewN (brefl w) _) hB)
      have HR := hide (HH.out.below hB.out)
      go_wp2
      go_ret3
      exact ⟨rfl, hB.out⟩
  · have E1 : dE l = 3 := by unfold dE; rw [if_pos hl]
    have E2 : dR l = (0, 0) := by unfold dR; rw [if_neg (by rw [E1]; omega)]
    unfold DeR
    rw [E1, E2]
    have hd : ((l.length : Int) != 32) = true := by simp; omega
    clear E1 E2 hl hy h
    go_enter Try.func17, Try.ntmps17
    go_wp2
    go_ret3
    exact ⟨rfl, brefl _⟩
set_option maxRecDepth 100000 in
set_option maxHeartbeats 4000000 in
theorem rdec_any (A : Option Addr) (c : Nat) (l : By) (w : World) (h : BsB w A l) (hy : Byt l) (hn : l.length ≤ 9223372036854775807) : Calls Try.prog 18 #[.slice A l.length c] w (DeR l w) := by
  by_cases hl : l.length = 32
  · have H4 := hide (h.cells (brefl _) (show 4 < l.length by omega))
    have H5 := h.cells (brefl _) (show 5 < l.length by omega)
    have H6 := h.cells (brefl _) (show 6 < l.length by omega)
    have HH := hide h
    have y4 := hy.at (show 4 < l.length by omega)
    have y5 := hy.at (show 5 < l.length by omega)
    have y6 := hy.at (show 6 < l.length by omega)
    have ES := hide (show dS l = l.getD 4 0 from rfl)
    have EM := hide (show dM l = l.getD 5 0 + 256 * l.getD 6 0 from rfl)
    have HL := hide hl
    have HY := hide hy
    generalize l.getD 4 0 = s at *
    generalize l.getD 5 0 = y at *
    generalize l.getD 6 0 = z at *
    obtain ⟨b, o, rfl, -, x4⟩ := H4.out
    obtain ⟨b', o', e1, -, x5⟩ := H5
    injection e1 with e1
    injection e1 with e1 e2
    subst e1 e2
    obtain ⟨b', o', e1, -, x6⟩ := H6
    injection e1 with e1
    injection e1 with e1 e2
    subst e1 e2
    have w4 : IntKind.i64.wrap s = s := by rw [IntKind.wrap_i64]; omega
    have w5 : IntKind.i64.wrap y = y := by rw [IntKind.wrap_i64]; omega
    have w6 : IntKind.i64.wrap z = z := by rw [IntKind.wrap_i64]; omega
    have w7 : IntKind.i64.wrap (256 * z) = 256 * z := by rw [IntKind.wrap_i64]; omega
    have w8 : IntKind.i64.wrap (y + 256 * z) = y + 256 * z := by rw [IntKind.wrap_i64]; omega
    obtain ⟨m, hm⟩ : ∃ m, m = y + 256 * z := ⟨_, rfl⟩
    have w9 := hm.symm
    rw [← hm] at w8 EM
    have C1 := hide (fun w => renc_any s m w)
    have DE := hide (show dE l = if eE s m = 0 ∧ l = blk s m then 0 else 22 by
      unfold dE; rw [if_neg (by omega), ES.out, EM.out])
    have DR := hide (show dE l = 0 → dR l = (s, m) from fun e => by unfold dR; rw [if_pos e, ES.out, EM.out])
    have DN := hide (show dE l ≠ 0 → dR l = (0, 0) from fun e => by unfold dR; rw [if_neg e])
    have hd : ((32 : Int) != 32) = false := rfl
    unfold DeR
    rw [hl]
    clear hn h hy hl H4 ES EM y4 y5 y6 hm
    by_cases he : eE s m = 0
    · have BL := hide (blk_byt he)
      have EB : eB s m = blk s m := if_pos he
      have DE2 := hide (show dE l = if l = blk s m then 0 else 22 by rw [DE.out]; simp [he])
      unfold EnR at C1
      rw [EB, he, blk_len] at C1
      clear he EB DE
      by_cases hq : l = blk s m
      · have E2 := DE2.out
        rw [if_pos hq] at E2
        rw [E2, DR.out E2]
        have HL2 := hide (blk_len s m)
        clear BL E2 DE2 DR DN 
        go_enter Try.func18, Try.ntmps18
        go_wp2
        go_quiet (fail)
        go_wp2_with fail
        refine (C1.out _).mono ?_
        rintro e w' ⟨A2, c2, rfl, hO, hB⟩
        replace hO := hide (show BsB w' A2 (blk s m) from OwB.bs hO)
        replace hB := hide (btrans (below_drewN (brefl w) _) hB)
        have HR := hide (HH.out.below hB.out)
        go_wp2
        go_loopw [9] (fun i wr => ∃ k : Nat, k ≤ 32 ∧ i = .int .i64 k ∧ Hid (l.take k = (blk s m).take k) ∧ Hid (Below w.heap.size w wr) ∧ Hid (BsB wr A2 (blk s m))) (fun i _ => 32 - (intOf i).toNat)
        case atStart => exact ⟨0, Nat.zero_le _, rfl, hide rfl, hB, hO⟩
        case round =>
          clear hB hO HR
          obtain ⟨k, hk, rfl, N, hB, hO⟩ := hrel
          by_cases hlt : k < 32
          · have hl2 : (k : Int) < 32 := by omega
            have hk0 : (0 : Int) ≤ (k : Int) := by omega
            obtain ⟨b1, o1, e1, _, x1⟩ := HH.out.cells hB.out (show k < l.length by rw [HL.out]; exact hlt)
            injection e1 with e1
            injection e1 with e1 e2
            subst e1 e2
            obtain ⟨b2, o2, rfl, _, x2⟩ := hO.out.cells (brefl _) (show k < (blk s m).length by rw [blk_len]; exact hlt)
            by_cases hc : l.getD k 0 = (blk s m).getD k 0
            · have N2 := hide (eq_nextI (show k < l.length by rw [HL.out]; exact hlt) (by rw [blk_len]; exact hlt) N.out hc)
              rw [← hc] at x2
              clear hc N
              generalize l.getD k 0 = x at *
              go_wp2
              go_quiet (fail)
              go_wp2
              go_roundw
              case rel => exact ⟨k + 1, by omega, by go_num, N2, hide (below_drewN hB.out _), hide (hO.out.below (below_drewN (brefl _) _))⟩
              case measure => simp [intOf]; omega
            · have dn : (l.getD k 0 != (blk s m).getD k 0) = true := by simpa using hc
              exact absurd (by rw [← hq]) hc
          · obtain rfl : k = 32 := by omega
            clear hq
            go_wp2
            go_ret3
            exact ⟨rfl, hB.out⟩
      · have E2 := DE2.out
        rw [if_neg hq] at E2
        rw [E2, DN.out (by rw [E2]; omega)]
        have HL2 := hide (blk_len s m)
        clear BL E2 DE2 DR DN 
        go_enter Try.func18, Try.ntmps18
        go_wp2
        go_quiet (fail)
        go_wp2_with fail
        refine (C1.out _).mono ?_
        rintro e w' ⟨A2, c2, rfl, hO, hB⟩
        replace hO := hide (show BsB w' A2 (blk s m) from OwB.bs hO)
        replace hB := hide (btrans (below_drewN (brefl w) _) hB)
        have HR := hide (HH.out.below hB.out)
        go_wp2
        go_loopw [9] (fun i wr => ∃ k : Nat, k ≤ 32 ∧ i = .int .i64 k ∧ Hid (l.take k = (blk s m).take k) ∧ Hid (Below w.heap.size w wr) ∧ Hid (BsB wr A2 (blk s m))) (fun i _ => 32 - (intOf i).toNat)
        case atStart => exact ⟨0, Nat.zero_le _, rfl, hide rfl, hB, hO⟩
        case round =>
          clear hB hO HR
          obtain ⟨k, hk, rfl, N, hB, hO⟩ := hrel
          by_cases hlt : k < 32
          · have hl2 : (k : Int) < 32 := by omega
            have hk0 : (0 : Int) ≤ (k : Int) := by omega
            obtain ⟨b1, o1, e1, _, x1⟩ := HH.out.cells hB.out (show k < l.length by rw [HL.out]; exact hlt)
            injection e1 with e1
            injection e1 with e1 e2
            subst e1 e2
            obtain ⟨b2, o2, rfl, _, x2⟩ := hO.out.cells (brefl _) (show k < (blk s m).length by rw [blk_len]; exact hlt)
            by_cases hc : l.getD k 0 = (blk s m).getD k 0
            · have N2 := hide (eq_nextI (show k < l.length by rw [HL.out]; exact hlt) (by rw [blk_len]; exact hlt) N.out hc)
              rw [← hc] at x2
              clear hc N
              generalize l.getD k 0 = x at *
              go_wp2
              go_quiet (fail)
              go_wp2
              go_roundw
              case rel => exact ⟨k + 1, by omega, by go_num, N2, hide (below_drewN hB.out _), hide (hO.out.below (below_drewN (brefl _) _))⟩
              case measure => simp [intOf]; omega
            · have dn : (l.getD k 0 != (blk s m).getD k 0) = true := by simpa using hc
              clear hc N
              generalize l.getD k 0 = x at *
              generalize (blk s m).getD k 0 = x' at *
              go_wp2
              go_quiet (fail)
              go_wp2
              go_ret3
              exact ⟨rfl, below_drewN hB.out _⟩
          · obtain rfl : k = 32 := by omega
            exact absurd (by have e := N.out; rwa [← HL.out, List.take_length, HL.out, ← HL2.out, List.take_length] at e) hq
    · have EB : eB s m = [] := if_neg he
      have E2 : dE l = 22 := by rw [DE.out, if_neg (fun h => he h.1)]
      rw [E2, DN.out (by rw [E2]; omega)]
      unfold EnR at C1
      rw [EB] at C1
      change Hid (∀ w : World, Calls Try.prog 15 #[.int .i64 s, .int .i64 m] w fun e w' => ∃ A c, e = .returned (.tuple #[.slice A 0 c, .int .i64 (eE s m)]) ∧ OwB w.heap.size w' (.slice A 0 c) [] ∧ Below w.heap.size w w') at C1
      have hne : (eE s m != 0) = true := by simpa using he
      generalize eE s m = er at *
      clear he EB E2 DE DR DN
      go_enter Try.func18, Try.ntmps18
      go_wp2
      go_quiet (fail)
      go_wp2_with fail
      refine (C1.out _).mono ?_
      rintro e w' ⟨A2, c2, rfl, hO, hB⟩
      replace hO := hide (show BsB w' A2 [] from OwB.bs hO)
      replace hB := hide (btrans (below_drewN (brefl w) _) hB)
      have HR := hide (HH.out.below hB.out)
      go_wp2
      go_ret3
      exact ⟨rfl, hB.out⟩
  · have E1 : dE l = 3 := by unfold dE; rw [if_pos hl]
    have E2 : dR l = (0, 0) := by unfold dR; rw [if_neg (by rw [E1]; omega)]
    unfold DeR
    rw [E1, E2]
    have hd : ((l.length : Int) != 32) = true := by simp; omega
    clear E1 E2 hl hy h
    go_enter Try.func18, Try.ntmps18
    go_wp2
    go_ret3
    exact ⟨rfl, brefl _⟩
end Go.Proofs.Ytncdilkcblakhaa.In
