import Derived.Test.YtimclgmajhhheaaG4
namespace Go.Proofs.Ytimclgmajhhheaa.Gr
open Go Go.RowKit Ac
set_option linter.unusedVariables false
set_option linter.unusedSimpArgs false
theorem OwQ.row {B c : Nat} {w : World} {A : Option Addr} {L : List A4} (h : OwQ B w (.slice A L.length c) L) (hn : L ≠ []) : ∃ b, A = some ⟨b, 0, none⟩ ∧ B ≤ b ∧ RwQ w b c L ∧ L.length ≤ c ∧ c ≤ maxLen := by
  obtain ⟨hl, h | ⟨g, cap, cur, e, hg, hh, h4, h5, h6, ht⟩⟩ := h
  · exact absurd (List.eq_nil_of_length_eq_zero h.2) hn
  · injection e with e1 _ e2
    subst e1 e2
    exact ⟨g, rfl, hg, ⟨cur, hh, h6, ht⟩, h4, h5⟩
theorem cn_bad {Q : List A4} {p e : Int} (h : cnE Q p = e) (h0 : e ≠ 0) : cnL Q p = [] := if_neg (by omega)
theorem cn_ck {Q : List A4} {p : Int} (h : ckQ Q ≠ 0) : cnE Q p = ckQ Q := if_neg h
theorem cn_6 {Q : List A4} {p : Int} (h : ckQ Q = 0) (h2 : freeP Q Q.length p) : cnE Q p = 6 := by unfold cnE; rw [if_pos h, if_pos h2]
theorem cn_0 {Q : List A4} {p : Int} (h : ckQ Q = 0) (h2 : ¬ freeP Q Q.length p) : cnE Q p = 0 ∧ cnL Q p = flt Q p := by
  have e : cnE Q p = 0 := by unfold cnE; rw [if_pos h, if_neg h2]
  exact ⟨e, if_pos e⟩
theorem below_some {B : Nat} {w w' : World} {b : Nat} (h : w.grownBy w' (some b)) (h1 : B ≤ b) (h2 : B ≤ w.heap.size) : Below B w w' :=
  ⟨h.os, h.tape, h.output, h.size, fun k hk => h.block k (by omega) (by simp; omega)⟩
set_option maxRecDepth 100000 in
set_option maxHeartbeats 8000000 in
theorem cancel_any (A : Option Addr) (cp : Nat) (Q : List A4) (p : Int) (w : World) (hr : Qs w A Q) (hn : Q.length ≤ 100) : Calls Try.prog 23 #[.slice A Q.length cp, .int .i64 p] w (PuR (cnL Q p) (cnE Q p) w) := by
  unfold PuR
  have K := hide (bal (brefl w) (.cells #[.int .i64 p] 3))
  have X := hide (Box.new w 3 #[.int .i64 p])
  have HR := hide (fun w' (h : Below w.heap.size w w') => hr.below h)
  have CK := hide (fun w' (h : Below w.heap.size w w') => qcheck_any A cp Q w' (hr.below h) (by omega))
  have CL := hide (fun w' (h : Below w.heap.size w w') => qclone_any A cp Q w' (hr.below h) (by omega))
  unfold QR at CL
  by_cases hc : ckQ Q = 0
  rotate_left 1
  · have E := cn_ck (p := p) hc
    rw [E, cn_bad E hc]
    clear E
    have hc2 := ne_bool hc
    generalize ckQ Q = ca at *
    clear hc hr X
    go_enter Try.func23, Try.ntmps23
    go_wp2_with fail
    refine (CK.out _ K.out).mono ?_
    rintro e w2 ⟨rfl, hb⟩
    replace K := hide (btrans K.out hb)
    clear hb
    go_wp2
    go_ret2
    exact ⟨none, 0, rfl, owq_nil _ _, K.out⟩
  have CQ := hide hc
  rw [hc] at CK
  clear hc hr
  obtain ⟨W0, hW0⟩ : ∃ W0, W0 = w.alloc (.cells #[.int .i64 p] 3) := ⟨_, rfl⟩
  obtain ⟨g3, hg3⟩ : ∃ q, q = w.heap.size := ⟨_, rfl⟩
  rw [← hW0] at X K
  rw [← hg3] at X
  have HW := hide hW0
  have HG := hide hg3
  clear hW0 hg3
  obtain ⟨ce, hce⟩ : ∃ c, c = cnE Q p := ⟨_, rfl⟩
  obtain ⟨L, hL⟩ : ∃ l, l = cnL Q p := ⟨_, rfl⟩
  have E6 := hide (fun (h : freeP Q Q.length p) => (⟨hce.trans (cn_6 CQ.out h), hL.trans (cn_bad (cn_6 CQ.out h) (by omega))⟩ : ce = 6 ∧ L = []))
  have E0 := hide (fun (h : ¬ freeP Q Q.length p) => (⟨hce.trans (cn_0 CQ.out h).1, hL.trans (cn_0 CQ.out h).2⟩ : ce = 0 ∧ L = flt Q p))
  rw [← hce, ← hL]
  clear hce hL
  go_enter Try.func23, Try.ntmps23
  go_upto_region 1 with fail
  rw [← HW.out, ← HG.out]
  go_wp2_with fail
  refine (CK.out _ K.out).mono ?_
  rintro e w2 ⟨rfl, hb⟩
  replace K := hide (btrans K.out hb)
  replace X := hide (X.out.below hb)
  clear hb
  have IX := hide (is_idx A cp Q p g3 w2 (HR.out _ K.out) (by omega) (Box.cell X.out 0) (Box.lt X.out))
  go_wp2_with fail
  refine IX.out.mono ?_
  rintro e w3 ⟨i, rfl, hi, hb⟩
  replace K := hide (btrans K.out hb)
  clear hb IX
  rcases hi with ⟨rfl, hf⟩ | ⟨j, hj, rfl, hjp⟩
  · have E := E6.out hf
    obtain ⟨rfl, rfl⟩ := E
    clear hf E6 E0
    go_wp2
    go_ret2
    exact ⟨none, 0, rfl, owq_nil _ _, K.out⟩
  · obtain ⟨rfl, rfl⟩ := E0.out (fun f => f j hj hjp)
    have CT := hide (flt_cut (ckQ_ok CQ.out).2 hj hjp)
    have hj0 : (0 : Int) ≤ (j : Int) := by omega
    obtain ⟨n, hn1⟩ : ∃ n, Q.length = n + 1 := ⟨Q.length - 1, by omega⟩
    have HN := hide hn1
    have hjn : j ≤ n := by omega
    have HQ := hide (show Q ≠ [] by rintro rfl; simp at hj)
    have hjl : (j : Int) + 1 ≤ 101 := by omega
    have hlf := hide (show (flt Q p).length = n by rw [CT.out, List.length_append, List.length_take, List.length_drop]; omega)
    clear hjp E6 E0 hn1
    go_wp2_with fail
    refine (CL.out _ K.out).mono ?_
    rintro e w4 ⟨A1, c1, rfl, ho, hb⟩
    obtain ⟨b, rfl, hB, hrw, hlc, hm⟩ := OwQ.row ho HQ.out
    have D := hide (del_any b c1 n j Q w4 HN.out hjn hlc hm hrw)
    have HB := hide (show w.heap.size ≤ b from Nat.le_trans K.out.size hB)
    have HC := hide (show n ≤ c1 by have := HN.out; omega)
    have HM := hide hm
    replace K := hide (btrans K.out hb)
    rw [HN.out]
    clear hb ho hrw hlc hm hB
    go_wp2_with fail
    refine D.out.mono ?_
    rintro e w5 ⟨rfl, hrw, hg⟩
    have BG := below_some (B := w.heap.size) hg HB.out K.out.size
    replace K := hide (K.out.trans BG)
    have HO := hide hrw
    clear hg hrw BG
    go_wp2
    go_ret2
    refine ⟨some ⟨b, 0, none⟩, c1, by rw [hlf.out]; rfl, ?_, K.out⟩
    have := RwQ.own (B := w.heap.size) HO.out HB.out (by rw [← CT.out, hlf.out]; exact HC.out) HM.out
    rw [← CT.out] at this
    exact this
set_option maxRecDepth 100000 in
set_option maxHeartbeats 8000000 in
theorem rcancel_any (A : Option Addr) (cp : Nat) (Q : List A4) (p : Int) (w : World) (hr : Qs w A Q) (hn : Q.length ≤ 100) : Calls Try.prog 24 #[.slice A Q.length cp, .int .i64 p] w (PuR (cnL Q p) (cnE Q p) w) := by
  unfold PuR
  have K := hide (brefl w)
  have HR := hide (fun w' (h : Below w.heap.size w w') => hr.below h)
  have CK := hide (fun w' (h : Below w.heap.size w w') => rqcheck_any A cp Q w' (hr.below h) (by omega))
  have AT := hide (fun w' (h : Below w.heap.size w w') => at_any A cp Q p w' (hr.below h) (by omega))
  by_cases hc : ckQ Q = 0
  rotate_left 1
  · have E := cn_ck (p := p) hc
    rw [E, cn_bad E hc]
    clear E
    have hc2 := ne_bool hc
    generalize ckQ Q = ca at *
    clear hc hr
    go_enter Try.func24, Try.ntmps24
    go_wp2_with fail
    refine (CK.out _ K.out).mono ?_
    rintro e w2 ⟨rfl, hb⟩
    replace K := hide (btrans K.out hb)
    clear hb
    go_wp2
    go_ret2
    exact ⟨none, 0, rfl, owq_nil _ _, K.out⟩
  by_cases hf : freeP Q Q.length p
  · have E := cn_6 hc hf
    rw [E, cn_bad E (by omega)]
    rw [hc] at CK
    have HF := hide hf
    clear E hc hr hf
    go_enter Try.func24, Try.ntmps24
    go_wp2_with fail
    refine (CK.out _ K.out).mono ?_
    rintro e w2 ⟨rfl, hb⟩
    replace K := hide (btrans K.out hb)
    clear hb
    go_wp2_with fail
    refine (AT.out _ K.out).mono ?_
    rintro e w4 ⟨i, rfl, hi, rfl⟩
    have h0 : ¬ 0 ≤ i := fun g => (atp_free hi).1 g HF.out
    have h1 : i < 0 := by omega
    clear hi
    go_wp2
    go_ret2
    exact ⟨none, 0, rfl, owq_nil _ _, K.out⟩
  have E := cn_0 hc hf
  rw [E.1, E.2]
  rw [hc] at CK
  have HF := hide hf
  obtain ⟨i0, hi0, hz0, hz1, hz2⟩ := info_parts info27
  clear E hc hr hf
  go_enter Try.func24, Try.ntmps24
  go_wp2_with fail
  refine (CK.out _ K.out).mono ?_
  rintro e w2 ⟨rfl, hb⟩
  replace K := hide (btrans K.out hb)
  clear hb
  go_wp2_with fail
  refine (AT.out _ K.out).mono ?_
  rintro e w4 ⟨i, rfl, hi, rfl⟩
  have h0 : 0 ≤ i := (atp_free hi).2 HF.out
  have h1 : ¬ i < 0 := by omega
  clear hi
  go_wp2
  go_loopw [7, 8] (fun v i wr => ∃ k : Nat, k ≤ Q.length ∧ i = .int .i64 k ∧ Hid (OwQ w.heap.size wr v (flt (Q.take k) p)) ∧ Hid (Below w.heap.size w wr)) (fun _ i _ => Q.length - (intOf i).toNat)
  case atStart => exact ⟨0, by omega, rfl, hide (by rw [List.take_zero]; exact owq_nil _ _), K⟩
  case round =>
    clear K
    obtain ⟨k, hk, rfl, O, K⟩ := hrel
    obtain ⟨A1, cap1, ev, hcp1⟩ := row_form O.out
    subst ev
    clear hcp1
    by_cases hlt : k < Q.length
    · have hl2 : (k : Int) < (Q.length : Int) := by omega
      have hk0 : (0 : Int) ≤ (k : Int) := by omega
      obtain ⟨b, off, rfl, hbl, y0, y1, y2, y3⟩ := (HR.out _ K.out).cells (brefl _) hlt
      have FS := hide (flt_snoc (p := p) hlt)
      have hfl : (flt (Q.take k) p).length ≤ k := by
        have := List.length_filter_le (fun a : A4 => decide (a.pc ≠ p)) (Q.take k)
        rw [List.length_take] at this
        unfold flt
        omega
      obtain ⟨F, hF⟩ : ∃ f, f = flt (Q.take k) p := ⟨_, rfl⟩
      rw [← hF] at O FS hfl ⊢
      clear hF
      obtain ⟨a, ha⟩ : ∃ a, a = qAt Q k := ⟨_, rfl⟩
      rw [← ha] at y0 y1 y2 y3 FS
      clear ha
      obtain ⟨pc, ac, ke, us⟩ := a
      dsimp only at y0 y1 y2 y3 FS
      by_cases hq : pc = p
      · have E := hide (FS.out.trans (if_pos hq))
        have b1 : (pc != p) = false := bne_eq_false_iff_eq.2 hq
        clear hq FS
        go_wp2
        go_roundw
        case rel => exact ⟨k + 1, by omega, by go_num, hide (by rw [E.out]; exact O.out), K⟩
        case measure => simp [intOf]; omega
      · have E := hide (FS.out.trans (if_neg hq))
        have b1 : (pc != p) = true := bne_iff_ne.2 hq
        clear hq FS
        have M := bal (brefl wr) (.cells #[.int .i64 pc, .int .i64 ac, .int .i64 ke, .int .i64 us] 27)
        have OA := hide (row_below O.out M)
        have NB := hide (QB.news (QB.new wr pc ac ke us))
        unfold qC at NB
        dsimp only at NB
        have SB := hide (show w.heap.size ≤ (wr.alloc (.cells #[.int .i64 pc, .int .i64 ac, .int .i64 ke, .int .i64 us] 27)).heap.size from Nat.le_trans K.out.size M.size)
        have KA := hide (btrans K.out M)
        clear M K
        go_wp2_with (at_builtin; refine wpList_append_own_at _ rfl (.tmp 31) (.tmp 36) 22 rfl w.heap.size 27 i0 _ 4 32 Try.underlying22 hi0 hz0 hz1 hz2 rfl (by omega) (.slice A1 F.length cap1) F.length (qcs F) rfl OA.out ⟨wr.heap.size, 0, none⟩ 1 1 [.int .i64 pc, .int .i64 ac, .int .i64 ke, .int .i64 us] rfl rfl NB.out (by intro u hu; simp only [List.mem_cons, List.not_mem_nil, or_false] at hu; rcases hu with rfl | rfl | rfl | rfl <;> rfl) (by simp only [maxLen]; omega) (by omega) SB.out ?_; intro v4 w7 hown4 hg4 _ hat4; obtain ⟨Aw7, cw7, ev4, _⟩ := row_form hown4; subst ev4; have HG4 := hide hg4; have HO4 := hide hown4; clear hown4 hg4 hat4)
        have BG := below_grown (B := 0) OA.out HG4.out SB.out
        have K := hide (KA.out.trans BG)
        have HE : Hid (OwQ w.heap.size w7 (.slice Aw7 (F.length + 1) cw7) (flt (Q.take (k + 1)) p)) := hide (by
          unfold OwQ
          rw [E.out, qcs_append, List.length_append]
          exact HO4.out)
        clear BG HG4 OA NB SB KA HO4 y0 y1 y2 y3
        go_roundw
        case rel => exact ⟨k + 1, by omega, by go_num, HE, K⟩
        case measure => simp [intOf]; omega
    · obtain rfl : k = Q.length := by omega
      rw [List.take_length] at O ⊢
      go_wp2
      go_ret2
      exact ⟨A1, cap1, rfl, O.out, K.out⟩
set_option maxRecDepth 100000 in
set_option maxHeartbeats 4000000 in
theorem qsame_refl (A B : Option Addr) (c d : Nat) (L : List A4) (w : World) (hr : Qs w A L) (hs : Qs w B L) (hn : L.length ≤ 1000) :
    Calls Try.prog 25 #[.slice A L.length c, .slice B L.length d] w fun e w' => e = .returned (.bool true) ∧ Below w.heap.size w w' := by
  have HR := hide hr
  have HS := hide hs
  have K0 := hide (brefl w)
  clear hr hs
  go_enter Try.func25, Try.ntmps25
  go_wp2
  go_loopw [5] (fun i wr => ∃ k : Nat, k ≤ L.length ∧ i = .int .i64 k ∧ Hid (Below w.heap.size w wr)) (fun i _ => L.length - (intOf i).toNat)
  case atStart => exact ⟨0, Nat.zero_le _, rfl, K0⟩
  case round =>
    clear K0
    obtain ⟨k, hk, rfl, K⟩ := hrel
    by_cases hlt : k < L.length
    · obtain ⟨b, off, rfl, _, x0, x1, x2, x3⟩ := HR.out.cells K.out hlt
      obtain ⟨b', off', rfl, _, y0, y1, y2, y3⟩ := HS.out.cells K.out hlt
      have hk0 : (0 : Int) ≤ (k : Int) := by omega
      have hkl : (k : Int) < (L.length : Int) := by omega
      generalize (qAt L k).pc = z0 at *
      generalize (qAt L k).ac = z1 at *
      generalize (qAt L k).ke = z2 at *
      generalize (qAt L k).us = z3 at *
      go_wp2
      go_quiet (fail)
      generalize hwy : World.drewN wr _ = wy
      have hbq : Below wr.heap.size wr wy := by rw [← hwy]; exact below_drewN (brefl _) _
      replace K := hide (btrans K.out hbq)
      clear hwy hbq x0 x1 x2 x3 y0 y1 y2 y3
      go_wp2
      go_roundw
      case rel => exact ⟨k + 1, by omega, by go_num, K⟩
      case measure => simp [intOf]; omega
    · obtain rfl : k = L.length := by omega
      go_wp2
      go_ret
      exact ⟨rfl, K.out⟩
end Go.Proofs.Ytimclgmajhhheaa.Gr
