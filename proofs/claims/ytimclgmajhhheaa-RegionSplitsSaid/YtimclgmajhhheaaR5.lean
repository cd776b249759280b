import Derived.Test.YtimclgmajhhheaaR4
namespace Go.Proofs.Ytimclgmajhhheaa.Rg
open Go Go.RowKit Ac
set_option linter.unusedVariables false
set_option linter.unusedSimpArgs false
set_option maxRecDepth 100000 in
set_option maxHeartbeats 8000000 in
theorem rcut_any (st pg pr fl fi ix : Int) (w : World) (hp : pg ≤ 9223372036854775807) (p n : Int) (hn : n ≤ 9223372036854775807) : Calls Try.prog 58 #[.agg #[.int .i64 st, .int .i64 pg, .int .i64 pr, .int .i64 fl, .int .i64 fi, .int .i64 ix], .int .i64 p, .int .i64 n] w (CuR (cuL ⟨st, pg, pr, fl, fi, ix⟩ p n) (cuE ⟨st, pg, pr, fl, fi, ix⟩ p n) w) := by
  unfold CuR
  have K := hide (bal (brefl w) (.cells #[.int .i64 st, .int .i64 pg, .int .i64 pr, .int .i64 fl, .int .i64 fi, .int .i64 ix] 58))
  have X := hide (RB.new w st pg pr fl fi ix)
  have CK := hide (fun w => rcheck_any st pg pr fl fi ix w hp)
  by_cases hc : ckE ⟨st, pg, pr, fl, fi, ix⟩ = 0
  rotate_left 1
  · have E := cu_1 (p := p) (n := n) hc
    rw [E, cu_bad E hc]
    clear E
    have hc2 := ne_bool hc
    generalize ckE ⟨st, pg, pr, fl, fi, ix⟩ = ca at *
    clear hc
    go_enter Try.func58, Try.ntmps58
    go_wp2_with fail
    refine (CK.out _).mono ?_
    rintro e w2 ⟨rfl, hb⟩
    replace K := hide (btrans K.out hb)
    replace X := hide (X.out.below hb)
    clear hb
    try clear x0 x1 x2 x3 x4 x5
    obtain ⟨x0, x1, x2, x3, x4, x5⟩ := X.out.cells
    go_wp2
    go_ret2
    exact ⟨none, 0, rfl, Rs.nil _ _, K.out⟩
  have C0 := hide hc
  rw [hc] at CK
  clear hc
  by_cases h1 : n < 1
  · have E := cu_2 (p := p) C0.out h1
    rw [E, cu_bad E (by omega)]
    clear E C0
    go_enter Try.func58, Try.ntmps58
    go_wp2_with fail
    refine (CK.out _).mono ?_
    rintro e w2 ⟨rfl, hb⟩
    replace K := hide (btrans K.out hb)
    replace X := hide (X.out.below hb)
    clear hb
    try clear x0 x1 x2 x3 x4 x5
    obtain ⟨x0, x1, x2, x3, x4, x5⟩ := X.out.cells
    go_wp2
    go_ret2
    exact ⟨none, 0, rfl, Rs.nil _ _, K.out⟩
  by_cases h2 : p < 0
  · have E := cu_3 (p := p) C0.out h1 (.inl h2)
    rw [E, cu_bad E (by omega)]
    clear E C0
    go_enter Try.func58, Try.ntmps58
    go_wp2_with fail
    refine (CK.out _).mono ?_
    rintro e w2 ⟨rfl, hb⟩
    replace K := hide (btrans K.out hb)
    replace X := hide (X.out.below hb)
    clear hb
    try clear x0 x1 x2 x3 x4 x5
    obtain ⟨x0, x1, x2, x3, x4, x5⟩ := X.out.cells
    go_wp2
    go_ret2
    exact ⟨none, 0, rfl, Rs.nil _ _, K.out⟩
  by_cases h9 : 512 < n
  · have E := cu_3 (p := p) C0.out h1 (.inr (by omega))
    rw [E, cu_bad E (by omega)]
    clear E C0
    go_enter Try.func58, Try.ntmps58
    go_wp2_with fail
    refine (CK.out _).mono ?_
    rintro e w2 ⟨rfl, hb⟩
    replace K := hide (btrans K.out hb)
    replace X := hide (X.out.below hb)
    clear hb
    try clear x0 x1 x2 x3 x4 x5
    obtain ⟨x0, x1, x2, x3, x4, x5⟩ := X.out.cells
    go_wp2
    go_ret2
    exact ⟨none, 0, rfl, Rs.nil _ _, K.out⟩
  by_cases h3 : 512 - n < p
  · have E := cu_3 (p := p) C0.out h1 (.inr h3)
    rw [E, cu_bad E (by omega)]
    clear E C0
    go_enter Try.func58, Try.ntmps58
    go_wp2_with fail
    refine (CK.out _).mono ?_
    rintro e w2 ⟨rfl, hb⟩
    replace K := hide (btrans K.out hb)
    replace X := hide (X.out.below hb)
    clear hb
    try clear x0 x1 x2 x3 x4 x5
    obtain ⟨x0, x1, x2, x3, x4, x5⟩ := X.out.cells
    go_wp2
    go_ret2
    exact ⟨none, 0, rfl, Rs.nil _ _, K.out⟩
  have E := cu_0 (p := p) C0.out h1 (by omega)
  have hk := ok_iff.1 C0.out
  have o1 := hk.1.1
  have o2 := hk.2.1
  have o3 := hk.2.2.1
  dsimp only at o1 o2 o3
  have s1 : p + n ≤ 512 := by omega
  have s2 : 0 ≤ p + n := by omega
  by_cases h4 : st + pg ≤ p
  · rw [cu_out E (.inl h4), E]
    clear E C0 hk
    go_enter Try.func58, Try.ntmps58
    go_wp2_with fail
    refine (CK.out _).mono ?_
    rintro e w2 ⟨rfl, hb⟩
    replace K := hide (btrans K.out hb)
    replace X := hide (X.out.below hb)
    clear hb
    try clear x0 x1 x2 x3 x4 x5
    obtain ⟨x0, x1, x2, x3, x4, x5⟩ := X.out.cells
    go_wp2
    go_ret2
    exact ⟨some ⟨_, 0, none⟩, 1, rfl, rs_one (RB.new _ st pg pr fl fi ix), bal K.out _⟩
  by_cases h5 : p + n ≤ st
  · rw [cu_out E (.inr h5), E]
    clear E C0 hk
    go_enter Try.func58, Try.ntmps58
    go_wp2_with fail
    refine (CK.out _).mono ?_
    rintro e w2 ⟨rfl, hb⟩
    replace K := hide (btrans K.out hb)
    replace X := hide (X.out.below hb)
    clear hb
    try clear x0 x1 x2 x3 x4 x5
    obtain ⟨x0, x1, x2, x3, x4, x5⟩ := X.out.cells
    go_wp2
    go_ret2
    exact ⟨some ⟨_, 0, none⟩, 1, rfl, rs_one (RB.new _ st pg pr fl fi ix), bal K.out _⟩
  rw [cu_in E (by dsimp only; omega), E]
  have HSZ := hide (show w.heap.size + 1 ≤ (w.alloc (.cells #[.int .i64 st, .int .i64 pg, .int .i64 pr, .int .i64 fl, .int .i64 fi, .int .i64 ix] 58)).heap.size by simp)
  obtain ⟨i0, hi0, hz0, hz1, hz2⟩ := info_parts info58
  have SU := fun (h : st < p + n) (h2 : p + n < st + pg) w => rsplit_any st pg pr fl fi ix w hp (p + n)
  have SL := fun (h : st < p) (h2 : p < st + pg) w => rsplit_any st pg pr fl fi ix w hp p
  have eu := fun (h : st < p + n) (h2 : p + n < st + pg) => spE_0 (r := ⟨st, pg, pr, fl, fi, ix⟩) (p := p + n) C0.out ⟨h, h2⟩
  have el := fun (h : st < p) (h2 : p < st + pg) => spE_0 (r := ⟨st, pg, pr, fl, fi, ix⟩) (p := p) C0.out ⟨h, h2⟩
  unfold A3 at SU SL
  unfold lowR uppR at eu el ⊢
  obtain ⟨up, hup⟩ : ∃ q, q = pg - (p + n - st) := ⟨_, rfl⟩
  obtain ⟨nf, hnf⟩ : ∃ q, q = nog fl := ⟨_, rfl⟩
  obtain ⟨ui, hui⟩ : ∃ q, q = if fi = -1 then ix else ix + (p + n - st) := ⟨_, rfl⟩
  obtain ⟨lup, hlup⟩ : ∃ q, q = pg - (p - st) := ⟨_, rfl⟩
  obtain ⟨lui, hlui⟩ : ∃ q, q = if fi = -1 then ix else ix + (p - st) := ⟨_, rfl⟩
  dsimp only at eu el ⊢
  rw [← hup, ← hnf, ← hui] at eu ⊢
  rw [← hlup, ← hnf, ← hlui] at el
  clear E C0 hk hup hnf hui hlup hlui
  by_cases ha : st < p
  · rw [if_pos ha]
    have e := el ha (by omega)
    replace SL := SL ha (by omega)
    rw [← e.1, ← e.2.1, ← e.2.2] at SL
    unfold rV at SL
    dsimp only at SL
    replace SL := hide SL
    clear e el
    by_cases hb2 : p + n < st + pg
    · rw [if_pos hb2]
      have e := eu (by omega) hb2
      replace SU := SU (by omega) hb2
      rw [← e.1, ← e.2.1, ← e.2.2] at SU
      unfold rV at SU
      dsimp only at SU
      replace SU := hide SU
      clear e eu
      go_enter Try.func58, Try.ntmps58
      go_wp2_with fail
      refine (CK.out _).mono ?_
      rintro e w2 ⟨rfl, hb⟩
      replace K := hide (btrans K.out hb)
      replace X := hide (X.out.below hb)
      replace HSZ := hide (Nat.le_trans HSZ.out hb.size)
      clear hb
      try clear x0 x1 x2 x3 x4 x5
      obtain ⟨x0, x1, x2, x3, x4, x5⟩ := X.out.cells
      go_wp2_with fail
      refine (SL.out _).mono ?_
      rintro e w3 ⟨rfl, hb⟩
      replace K := hide (btrans K.out hb)
      replace X := hide (X.out.below hb)
      replace HSZ := hide (Nat.le_trans HSZ.out hb.size)
      clear hb
      try clear x0 x1 x2 x3 x4 x5
      obtain ⟨x0, x1, x2, x3, x4, x5⟩ := X.out.cells
      go_upto_region 13 with fail
      have M := bal2 w3 (.cells #[.int .i64 st, .int .i64 (p - st), .int .i64 pr, .int .i64 fl, .int .i64 fi, .int .i64 ix] 58) (.cells #[.int .i64 p, .int .i64 lup, .int .i64 pr, .int .i64 nf, .int .i64 fi, .int .i64 lui] 58)
      have U1 : Hid (RB ((w3.alloc (.cells #[.int .i64 st, .int .i64 (p - st), .int .i64 pr, .int .i64 fl, .int .i64 fi, .int .i64 ix] 58)).alloc (.cells #[.int .i64 p, .int .i64 lup, .int .i64 pr, .int .i64 nf, .int .i64 fi, .int .i64 lui] 58)) w3.heap.size ⟨st, (p - st), pr, fl, fi, ix⟩) := hide (Box.more (Box.new w3 58 #[.int .i64 st, .int .i64 (p - st), .int .i64 pr, .int .i64 fl, .int .i64 fi, .int .i64 ix]) (.cells #[.int .i64 p, .int .i64 lup, .int .i64 pr, .int .i64 nf, .int .i64 fi, .int .i64 lui] 58))
      have U2 : Hid (RB ((w3.alloc (.cells #[.int .i64 st, .int .i64 (p - st), .int .i64 pr, .int .i64 fl, .int .i64 fi, .int .i64 ix] 58)).alloc (.cells #[.int .i64 p, .int .i64 lup, .int .i64 pr, .int .i64 nf, .int .i64 fi, .int .i64 lui] 58)) (w3.heap.size + 1) ⟨p, lup, pr, nf, fi, lui⟩) := hide (Box.new2 w3 (.cells #[.int .i64 st, .int .i64 (p - st), .int .i64 pr, .int .i64 fl, .int .i64 fi, .int .i64 ix] 58) 58 #[.int .i64 p, .int .i64 lup, .int .i64 pr, .int .i64 nf, .int .i64 fi, .int .i64 lui])
      replace K := hide (btrans K.out M)
      replace X := hide (X.out.below M)
      replace HSZ := hide (Nat.le_trans HSZ.out M.size)
      clear M
      obtain ⟨bw3, hbx⟩ : ∃ q, q = w3.heap.size := ⟨_, rfl⟩
      rw [← hbx] at U1 U2 ⊢
      clear hbx
      generalize (w3.alloc (.cells #[.int .i64 st, .int .i64 (p - st), .int .i64 pr, .int .i64 fl, .int .i64 fi, .int .i64 ix] 58)).alloc (.cells #[.int .i64 p, .int .i64 lup, .int .i64 pr, .int .i64 nf, .int .i64 fi, .int .i64 lui] 58) = w5 at *
      try clear x0 x1 x2 x3 x4 x5
      obtain ⟨x0, x1, x2, x3, x4, x5⟩ := X.out.cells
      obtain ⟨u0, u1, u2, u3, u4, u5⟩ := U1.out.cells
      obtain ⟨v0, v1, v2, v3, v4, v5⟩ := U2.out.cells
      have M := bal (brefl w5) (.cells #[.int .i64 st, .int .i64 (p - st), .int .i64 pr, .int .i64 fl, .int .i64 fi, .int .i64 ix] 58)
      have OA := hide (row_below (show OwR (w.heap.size + 1) w5 (.slice none 0 0) [] from owr_nil _ _) M)
      have NB := hide (cell6_new w5 ⟨st, (p - st), pr, fl, fi, ix⟩)
      unfold rgC at NB
      dsimp only at NB
      have SB := hide (show w.heap.size + 1 ≤ (w5.alloc (.cells #[.int .i64 st, .int .i64 (p - st), .int .i64 pr, .int .i64 fl, .int .i64 fi, .int .i64 ix] 58)).heap.size by rw [alloc_size']; have := HSZ.out; omega)
      have KA := hide (btrans K.out M)
      replace X := hide (X.out.below M)
      clear M
      go_upto_region 14 with (at_builtin; refine wpList_append_own_at _ rfl (.tmp 63) (.tmp 65) 70 rfl (w.heap.size + 1) 58 i0 _ 6 48 Try.underlying70 hi0 hz0 hz1 hz2 rfl (by omega) (.slice none 0 0) 0 ([]) rfl OA.out ⟨w5.heap.size, 0, none⟩ 1 1 [.int .i64 st, .int .i64 (p - st), .int .i64 pr, .int .i64 fl, .int .i64 fi, .int .i64 ix] rfl rfl NB.out (by intro u hu; simp only [List.mem_cons, List.not_mem_nil, or_false] at hu; rcases hu with rfl | rfl | rfl | rfl | rfl | rfl <;> rfl) (by simp only [maxLen]; omega) (by omega) SB.out ?_; intro v4 w6 hown4 hg4 _ hat4; obtain ⟨Aw6, cw6, ev4, _⟩ := row_form hown4; subst ev4)
      have Ow6 := hide (show OwR (w.heap.size + 1) w6 (.slice Aw6 1 cw6) ([⟨st, p - st, pr, fl, fi, ix⟩]) from hown4)
      have BG := below_grown (B := 0) OA.out hg4 SB.out
      replace X := hide (X.out.belowB BG (Nat.lt_succ_self _))
      replace K := hide (KA.out.trans (BG.mono (Nat.le_succ _)))
      have HSZ2 := Nat.le_trans SB.out BG.size
      replace HSZ := hide HSZ2
      clear BG hown4 hg4 hat4 OA NB SB KA HSZ2
      clear x0 x1 x2 x3 x4 x5 u0 u1 u2 u3 u4 u5 v0 v1 v2 v3 v4 v5 U1 U2
      obtain ⟨x0, x1, x2, x3, x4, x5⟩ := X.out.cells
      go_wp2_with fail
      refine (SU.out _).mono ?_
      rintro e w7 ⟨rfl, hb⟩
      have HB7 := hb
      replace K := hide (btrans K.out hb)
      replace X := hide (X.out.below hb)
      replace HSZ := hide (Nat.le_trans HSZ.out hb.size)
      clear hb
      try clear x0 x1 x2 x3 x4 x5
      obtain ⟨x0, x1, x2, x3, x4, x5⟩ := X.out.cells
      replace Ow6 := hide (row_below Ow6.out HB7)
      clear HB7
      go_upto_region 16 with fail
      have M := bal2 w7 (.cells #[.int .i64 st, .int .i64 (p + n - st), .int .i64 pr, .int .i64 fl, .int .i64 fi, .int .i64 ix] 58) (.cells #[.int .i64 (p + n), .int .i64 up, .int .i64 pr, .int .i64 nf, .int .i64 fi, .int .i64 ui] 58)
      have U1 : Hid (RB ((w7.alloc (.cells #[.int .i64 st, .int .i64 (p + n - st), .int .i64 pr, .int .i64 fl, .int .i64 fi, .int .i64 ix] 58)).alloc (.cells #[.int .i64 (p + n), .int .i64 up, .int .i64 pr, .int .i64 nf, .int .i64 fi, .int .i64 ui] 58)) w7.heap.size ⟨st, (p + n - st), pr, fl, fi, ix⟩) := hide (Box.more (Box.new w7 58 #[.int .i64 st, .int .i64 (p + n - st), .int .i64 pr, .int .i64 fl, .int .i64 fi, .int .i64 ix]) (.cells #[.int .i64 (p + n), .int .i64 up, .int .i64 pr, .int .i64 nf, .int .i64 fi, .int .i64 ui] 58))
      have U2 : Hid (RB ((w7.alloc (.cells #[.int .i64 st, .int .i64 (p + n - st), .int .i64 pr, .int .i64 fl, .int .i64 fi, .int .i64 ix] 58)).alloc (.cells #[.int .i64 (p + n), .int .i64 up, .int .i64 pr, .int .i64 nf, .int .i64 fi, .int .i64 ui] 58)) (w7.heap.size + 1) ⟨(p + n), up, pr, nf, fi, ui⟩) := hide (Box.new2 w7 (.cells #[.int .i64 st, .int .i64 (p + n - st), .int .i64 pr, .int .i64 fl, .int .i64 fi, .int .i64 ix] 58) 58 #[.int .i64 (p + n), .int .i64 up, .int .i64 pr, .int .i64 nf, .int .i64 fi, .int .i64 ui])
      replace K := hide (btrans K.out M)
      replace X := hide (X.out.below M)
      replace HSZ := hide (Nat.le_trans HSZ.out M.size)
      replace Ow6 := hide (row_below Ow6.out M)
      clear M
      obtain ⟨bw7, hbx⟩ : ∃ q, q = w7.heap.size := ⟨_, rfl⟩
      rw [← hbx] at U1 U2 ⊢
      clear hbx
      generalize (w7.alloc (.cells #[.int .i64 st, .int .i64 (p + n - st), .int .i64 pr, .int .i64 fl, .int .i64 fi, .int .i64 ix] 58)).alloc (.cells #[.int .i64 (p + n), .int .i64 up, .int .i64 pr, .int .i64 nf, .int .i64 fi, .int .i64 ui] 58) = w8 at *
      try clear x0 x1 x2 x3 x4 x5
      obtain ⟨x0, x1, x2, x3, x4, x5⟩ := X.out.cells
      obtain ⟨u0, u1, u2, u3, u4, u5⟩ := U1.out.cells
      obtain ⟨v0, v1, v2, v3, v4, v5⟩ := U2.out.cells
      have M := bal (brefl w8) (.cells #[.int .i64 (p + n), .int .i64 up, .int .i64 pr, .int .i64 nf, .int .i64 fi, .int .i64 ui] 58)
      have OA := hide (row_below Ow6.out M)
      have NB := hide (cell6_new w8 ⟨(p + n), up, pr, nf, fi, ui⟩)
      unfold rgC at NB
      dsimp only at NB
      have SB := hide (show w.heap.size + 1 ≤ (w8.alloc (.cells #[.int .i64 (p + n), .int .i64 up, .int .i64 pr, .int .i64 nf, .int .i64 fi, .int .i64 ui] 58)).heap.size by rw [alloc_size']; have := HSZ.out; omega)
      have KA := hide (btrans K.out M)
      replace X := hide (X.out.below M)
      clear M
      go_upto_region 17 with (at_builtin; refine wpList_append_own_at _ rfl (.tmp 85) (.tmp 87) 70 rfl (w.heap.size + 1) 58 i0 _ 6 48 Try.underlying70 hi0 hz0 hz1 hz2 rfl (by omega) (.slice Aw6 1 cw6) 1 (rgs [⟨st, p - st, pr, fl, fi, ix⟩]) rfl OA.out ⟨w8.heap.size, 0, none⟩ 1 1 [.int .i64 (p + n), .int .i64 up, .int .i64 pr, .int .i64 nf, .int .i64 fi, .int .i64 ui] rfl rfl NB.out (by intro u hu; simp only [List.mem_cons, List.not_mem_nil, or_false] at hu; rcases hu with rfl | rfl | rfl | rfl | rfl | rfl <;> rfl) (by simp only [maxLen]; omega) (by omega) SB.out ?_; intro v4 w9 hown4 hg4 _ hat4; obtain ⟨Aw9, cw9, ev4, _⟩ := row_form hown4; subst ev4)
      have Ow9 := hide (show OwR (w.heap.size + 1) w9 (.slice Aw9 2 cw9) ([⟨st, p - st, pr, fl, fi, ix⟩, ⟨p + n, up, pr, nf, fi, ui⟩]) from hown4)
      have BG := below_grown (B := 0) OA.out hg4 SB.out
      replace X := hide (X.out.belowB BG (Nat.lt_succ_self _))
      replace K := hide (KA.out.trans (BG.mono (Nat.le_succ _)))
      have HSZ2 := Nat.le_trans SB.out BG.size
      replace HSZ := hide HSZ2
      clear BG hown4 hg4 hat4 OA NB SB KA HSZ2
      go_wp2
      go_ret2
      first | exact ⟨Aw9, cw9, rfl, OwR.rs Ow9.out, K.out⟩ | exact ⟨Aw9, ⟨cw9, rfl⟩, OwR.rs Ow9.out, K.out⟩
    · clear SU eu
      rw [if_neg hb2]
      go_enter Try.func58, Try.ntmps58
      go_wp2_with fail
      refine (CK.out _).mono ?_
      rintro e w2 ⟨rfl, hb⟩
      replace K := hide (btrans K.out hb)
      replace X := hide (X.out.below hb)
      replace HSZ := hide (Nat.le_trans HSZ.out hb.size)
      clear hb
      try clear x0 x1 x2 x3 x4 x5
      obtain ⟨x0, x1, x2, x3, x4, x5⟩ := X.out.cells
      go_wp2_with fail
      refine (SL.out _).mono ?_
      rintro e w3 ⟨rfl, hb⟩
      replace K := hide (btrans K.out hb)
      replace X := hide (X.out.below hb)
      replace HSZ := hide (Nat.le_trans HSZ.out hb.size)
      clear hb
      try clear x0 x1 x2 x3 x4 x5
      obtain ⟨x0, x1, x2, x3, x4, x5⟩ := X.out.cells
      go_upto_region 13 with fail
      have M := bal2 w3 (.cells #[.int .i64 st, .int .i64 (p - st), .int .i64 pr, .int .i64 fl, .int .i64 fi, .int .i64 ix] 58) (.cells #[.int .i64 p, .int .i64 lup, .int .i64 pr, .int .i64 nf, .int .i64 fi, .int .i64 lui] 58)
      have U1 : Hid (RB ((w3.alloc (.cells #[.int .i64 st, .int .i64 (p - st), .int .i64 pr, .int .i64 fl, .int .i64 fi, .int .i64 ix] 58)).alloc (.cells #[.int .i64 p, .int .i64 lup, .int .i64 pr, .int .i64 nf, .int .i64 fi, .int .i64 lui] 58)) w3.heap.size ⟨st, (p - st), pr, fl, fi, ix⟩) := hide (Box.more (Box.new w3 58 #[.int .i64 st, .int .i64 (p - st), .int .i64 pr, .int .i64 fl, .int .i64 fi, .int .i64 ix]) (.cells #[.int .i64 p, .int .i64 lup, .int .i64 pr, .int .i64 nf, .int .i64 fi, .int .i64 lui] 58))
      have U2 : Hid (RB ((w3.alloc (.cells #[.int .i64 st, .int .i64 (p - st), .int .i64 pr, .int .i64 fl, .int .i64 fi, .int .i64 ix] 58)).alloc (.cells #[.int .i64 p, .int .i64 lup, .int .i64 pr, .int .i64 nf, .int .i64 fi, .int .i64 lui] 58)) (w3.heap.size + 1) ⟨p, lup, pr, nf, fi, lui⟩) := hide (Box.new2 w3 (.cells #[.int .i64 st, .int .i64 (p - st), .int .i64 pr, .int .i64 fl, .int .i64 fi, .int .i64 ix] 58) 58 #[.int .i64 p, .int .i64 lup, .int .i64 pr, .int .i64 nf, .int .i64 fi, .int .i64 lui])
      replace K := hide (btrans K.out M)
      replace X := hide (X.out.below M)
      replace HSZ := hide (Nat.le_trans HSZ.out M.size)
      clear M
      obtain ⟨bw3, hbx⟩ : ∃ q, q = w3.heap.size := ⟨_, rfl⟩
      rw [← hbx] at U1 U2 ⊢
      clear hbx
      generalize (w3.alloc (.cells #[.int .i64 st, .int .i64 (p - st), .int .i64 pr, .int .i64 fl, .int .i64 fi, .int .i64 ix] 58)).alloc (.cells #[.int .i64 p, .int .i64 lup, .int .i64 pr, .int .i64 nf, .int .i64 fi, .int .i64 lui] 58) = w5 at *
      try clear x0 x1 x2 x3 x4 x5
      obtain ⟨x0, x1, x2, x3, x4, x5⟩ := X.out.cells
      obtain ⟨u0, u1, u2, u3, u4, u5⟩ := U1.out.cells
      obtain ⟨v0, v1, v2, v3, v4, v5⟩ := U2.out.cells
      have M := bal (brefl w5) (.cells #[.int .i64 st, .int .i64 (p - st), .int .i64 pr, .int .i64 fl, .int .i64 fi, .int .i64 ix] 58)
      have OA := hide (row_below (show OwR (w.heap.size + 1) w5 (.slice none 0 0) [] from owr_nil _ _) M)
      have NB := hide (cell6_new w5 ⟨st, (p - st), pr, fl, fi, ix⟩)
      unfold rgC at NB
      dsimp only at NB
      have SB := hide (show w.heap.size + 1 ≤ (w5.alloc (.cells #[.int .i64 st, .int .i64 (p - st), .int .i64 pr, .int .i64 fl, .int .i64 fi, .int .i64 ix] 58)).heap.size by rw [alloc_size']; have := HSZ.out; omega)
      have KA := hide (btrans K.out M)
      replace X := hide (X.out.below M)
      clear M
      go_upto_region 14 with (at_builtin; refine wpList_append_own_at _ rfl (.tmp 63) (.tmp 65) 70 rfl (w.heap.size + 1) 58 i0 _ 6 48 Try.underlying70 hi0 hz0 hz1 hz2 rfl (by omega) (.slice none 0 0) 0 ([]) rfl OA.out ⟨w5.heap.size, 0, none⟩ 1 1 [.int .i64 st, .int .i64 (p - st), .int .i64 pr, .int .i64 fl, .int .i64 fi, .int .i64 ix] rfl rfl NB.out (by intro u hu; simp only [List.mem_cons, List.not_mem_nil, or_false] at hu; rcases hu with rfl | rfl | rfl | rfl | rfl | rfl <;> rfl) (by simp only [maxLen]; omega) (by omega) SB.out ?_; intro v4 w6 hown4 hg4 _ hat4; obtain ⟨Aw6, cw6, ev4, _⟩ := row_form hown4; subst ev4)
      have Ow6 := hide (show OwR (w.heap.size + 1) w6 (.slice Aw6 1 cw6) ([⟨st, p - st, pr, fl, fi, ix⟩]) from hown4)
      have BG := below_grown (B := 0) OA.out hg4 SB.out
      replace X := hide (X.out.belowB BG (Nat.lt_succ_self _))
      replace K := hide (KA.out.trans (BG.mono (Nat.le_succ _)))
      have HSZ2 := Nat.le_trans SB.out BG.size
      replace HSZ := hide HSZ2
      clear BG hown4 hg4 hat4 OA NB SB KA HSZ2
      clear x0 x1 x2 x3 x4 x5 u0 u1 u2 u3 u4 u5 v0 v1 v2 v3 v4 v5 U1 U2
      obtain ⟨x0, x1, x2, x3, x4, x5⟩ := X.out.cells
      go_wp2
      go_ret2
      first | exact ⟨Aw6, cw6, rfl, OwR.rs Ow6.out, K.out⟩ | exact ⟨Aw6, ⟨cw6, rfl⟩, OwR.rs Ow6.out, K.out⟩
  · clear SL el
    rw [if_neg ha]
    by_cases hb2 : p + n < st + pg
    · rw [if_pos hb2]
      have e := eu (by omega) hb2
      replace SU := SU (by omega) hb2
      rw [← e.1, ← e.2.1, ← e.2.2] at SU
      unfold rV at SU
      dsimp only at SU
      replace SU := hide SU
      clear e eu
      go_enter Try.func58, Try.ntmps58
      go_wp2_with fail
      refine (CK.out _).mono ?_
      rintro e w2 ⟨rfl, hb⟩
      replace K := hide (btrans K.out hb)
      replace X := hide (X.out.below hb)
      replace HSZ := hide (Nat.le_trans HSZ.out hb.size)
      clear hb
      try clear x0 x1 x2 x3 x4 x5
      obtain ⟨x0, x1, x2, x3, x4, x5⟩ := X.out.cells
      go_wp2_with fail
      refine (SU.out _).mono ?_
      rintro e w7 ⟨rfl, hb⟩
      have HB7 := hb
      replace K := hide (btrans K.out hb)
      replace X := hide (X.out.below hb)
      replace HSZ := hide (Nat.le_trans HSZ.out hb.size)
      clear hb
      try clear x0 x1 x2 x3 x4 x5
      obtain ⟨x0, x1, x2, x3, x4, x5⟩ := X.out.cells
      clear HB7
      go_upto_region 16 with fail
      have M := bal2 w7 (.cells #[.int .i64 st, .int .i64 (p + n - st), .int .i64 pr, .int .i64 fl, .int .i64 fi, .int .i64 ix] 58) (.cells #[.int .i64 (p + n), .int .i64 up, .int .i64 pr, .int .i64 nf, .int .i64 fi, .int .i64 ui] 58)
      have U1 : Hid (RB ((w7.alloc (.cells #[.int .i64 st, .int .i64 (p + n - st), .int .i64 pr, .int .i64 fl, .int .i64 fi, .int .i64 ix] 58)).alloc (.cells #[.int .i64 (p + n), .int .i64 up, .int .i64 pr, .int .i64 nf, .int .i64 fi, .int .i64 ui] 58)) w7.heap.size ⟨st, (p + n - st), pr, fl, fi, ix⟩) := hide (Box.more (Box.new w7 58 #[.int .i64 st, .int .i64 (p + n - st), .int .i64 pr, .int .i64 fl, .int .i64 fi, .int .i64 ix]) (.cells #[.int .i64 (p + n), .int .i64 up, .int .i64 pr, .int .i64 nf, .int .i64 fi, .int .i64 ui] 58))
      have U2 : Hid (RB ((w7.alloc (.cells #[.int .i64 st, .int .i64 (p + n - st), .int .i64 pr, .int .i64 fl, .int .i64 fi, .int .i64 ix] 58)).alloc (.cells #[.int .i64 (p + n), .int .i64 up, .int .i64 pr, .int .i64 nf, .int .i64 fi, .int .i64 ui] 58)) (w7.heap.size + 1) ⟨(p + n), up, pr, nf, fi, ui⟩) := hide (Box.new2 w7 (.cells #[.int .i64 st, .int .i64 (p + n - st), .int .i64 pr, .int .i64 fl, .int .i64 fi, .int .i64 ix] 58) 58 #[.int .i64 (p + n), .int .i64 up, .int .i64 pr, .int .i64 nf, .int .i64 fi, .int .i64 ui])
      replace K := hide (btrans K.out M)
      replace X := hide (X.out.below M)
      replace HSZ := hide (Nat.le_trans HSZ.out M.size)
      clear M
      obtain ⟨bw7, hbx⟩ : ∃ q, q = w7.heap.size := ⟨_, rfl⟩
      rw [← hbx] at U1 U2 ⊢
      clear hbx
      generalize (w7.alloc (.cells #[.int .i64 st, .int .i64 (p + n - st), .int .i64 pr, .int .i64 fl, .int .i64 fi, .int .i64 ix] 58)).alloc (.cells #[.int .i64 (p + n), .int .i64 up, .int .i64 pr, .int .i64 nf, .int .i64 fi, .int .i64 ui] 58) = w8 at *
      try clear x0 x1 x2 x3 x4 x5
      obtain ⟨x0, x1, x2, x3, x4, x5⟩ := X.out.cells
      obtain ⟨u0, u1, u2, u3, u4, u5⟩ := U1.out.cells
      obtain ⟨v0, v1, v2, v3, v4, v5⟩ := U2.out.cells
      have M := bal (brefl w8) (.cells #[.int .i64 (p + n), .int .i64 up, .int .i64 pr, .int .i64 nf, .int .i64 fi, .int .i64 ui] 58)
      have OA := hide (row_below (show OwR (w.heap.size + 1) w8 (.slice none 0 0) [] from owr_nil _ _) M)
      have NB := hide (cell6_new w8 ⟨(p + n), up, pr, nf, fi, ui⟩)
      unfold rgC at NB
      dsimp only at NB
      have SB := hide (show w.heap.size + 1 ≤ (w8.alloc (.cells #[.int .i64 (p + n), .int .i64 up, .int .i64 pr, .int .i64 nf, .int .i64 fi, .int .i64 ui] 58)).heap.size by rw [alloc_size']; have := HSZ.out; omega)
      have KA := hide (btrans K.out M)
      replace X := hide (X.out.below M)
      clear M
      go_upto_region 17 with (at_builtin; refine wpList_append_own_at _ rfl (.tmp 85) (.tmp 87) 70 rfl (w.heap.size + 1) 58 i0 _ 6 48 Try.underlying70 hi0 hz0 hz1 hz2 rfl (by omega) (.slice none 0 0) 0 ([]) rfl OA.out ⟨w8.heap.size, 0, none⟩ 1 1 [.int .i64 (p + n), .int .i64 up, .int .i64 pr, .int .i64 nf, .int .i64 fi, .int .i64 ui] rfl rfl NB.out (by intro u hu; simp only [List.mem_cons, List.not_mem_nil, or_false] at hu; rcases hu with rfl | rfl | rfl | rfl | rfl | rfl <;> rfl) (by simp only [maxLen]; omega) (by omega) SB.out ?_; intro v4 w9 hown4 hg4 _ hat4; obtain ⟨Aw9, cw9, ev4, _⟩ := row_form hown4; subst ev4)
      have Ow9 := hide (show OwR (w.heap.size + 1) w9 (.slice Aw9 1 cw9) ([⟨p + n, up, pr, nf, fi, ui⟩]) from hown4)
      have BG := below_grown (B := 0) OA.out hg4 SB.out
      replace X := hide (X.out.belowB BG (Nat.lt_succ_self _))
      replace K := hide (KA.out.trans (BG.mono (Nat.le_succ _)))
      have HSZ2 := Nat.le_trans SB.out BG.size
      replace HSZ := hide HSZ2
      clear BG hown4 hg4 hat4 OA NB SB KA HSZ2
      go_wp2
      go_ret2
      first | exact ⟨Aw9, cw9, rfl, OwR.rs Ow9.out, K.out⟩ | exact ⟨Aw9, ⟨cw9, rfl⟩, OwR.rs Ow9.out, K.out⟩
    · clear SU eu
      rw [if_neg hb2]
      go_enter Try.func58, Try.ntmps58
      go_wp2_with fail
      refine (CK.out _).mono ?_
      rintro e w2 ⟨rfl, hb⟩
      replace K := hide (btrans K.out hb)
      replace X := hide (X.out.below hb)
      replace HSZ := hide (Nat.le_trans HSZ.out hb.size)
      clear hb
      try clear x0 x1 x2 x3 x4 x5
      obtain ⟨x0, x1, x2, x3, x4, x5⟩ := X.out.cells
      go_wp2
      go_ret2
      exact ⟨none, 0, rfl, Rs.nil _ _, K.out⟩
end Go.Proofs.Ytimclgmajhhheaa.Rg
