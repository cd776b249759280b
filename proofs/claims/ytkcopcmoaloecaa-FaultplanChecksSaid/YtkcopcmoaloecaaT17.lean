import Derived.Test.YtkcopcmoaloecaaT16
import Derived.Test.YtkcopcmoaloecaaT15
namespace Go.Proofs.Ytkcopcmoaloecaa.Fp
open Go Go.RowKit
set_option linter.unusedVariables false
set_option linter.unusedSimpArgs false
theorem pl_bif (c : Fc) : pl c = bif rl 0 c then rp 0 c.mi else bif rl 1 c then rp 1 c.mi else bif rl 2 c then rp 2 c.mi else bif rl 3 c then rp 3 c.mi else bif rl 4 c then rp 4 c.mi else bif rl 5 c then rp 5 c.mi else bif rl 6 c then rp 6 c.mi else bif rl 7 c then rp 7 c.mi else bif rl 8 c then rp 8 c.mi else bif rl 9 c then rp 9 c.mi else bif rl 10 c then rp 10 c.mi else bif rl 11 c then rp 11 c.mi else bif rl 12 c then rp 12 c.mi else bif rl 13 c then rp 13 c.mi else bif rl 14 c then rp 14 c.mi else rp 15 c.mi := by
  unfold pl ix
  iterate 15
    unfold fst
    generalize hq : rl _ c = q
    cases q
    rotate_left 1
    · rfl
    simp only [cond_false, Bool.false_eq_true, if_false]
  rfl
theorem rs_page (wr rg : Bool) (pr : Int) (sh fi be bu : Bool) (en : Int) (wb tr ow on ca ba di fu : Bool) (mi : Int) (h : chk ⟨wr, rg, pr, sh, fi, be, bu, en, wb, tr, ow, on, ca, ba, di, fu, mi⟩ = 0) (hr : rg = true) (he : en = 1) : (bif rl 6 ⟨wr, rg, pr, sh, fi, be, bu, en, wb, tr, ow, on, ca, ba, di, fu, mi⟩ then rp 6 mi else bif rl 7 ⟨wr, rg, pr, sh, fi, be, bu, en, wb, tr, ow, on, ca, ba, di, fu, mi⟩ then rp 7 mi else bif rl 8 ⟨wr, rg, pr, sh, fi, be, bu, en, wb, tr, ow, on, ca, ba, di, fu, mi⟩ then rp 8 mi else bif rl 9 ⟨wr, rg, pr, sh, fi, be, bu, en, wb, tr, ow, on, ca, ba, di, fu, mi⟩ then rp 9 mi else bif rl 10 ⟨wr, rg, pr, sh, fi, be, bu, en, wb, tr, ow, on, ca, ba, di, fu, mi⟩ then rp 10 mi else bif rl 11 ⟨wr, rg, pr, sh, fi, be, bu, en, wb, tr, ow, on, ca, ba, di, fu, mi⟩ then rp 11 mi else bif rl 12 ⟨wr, rg, pr, sh, fi, be, bu, en, wb, tr, ow, on, ca, ba, di, fu, mi⟩ then rp 12 mi else bif rl 13 ⟨wr, rg, pr, sh, fi, be, bu, en, wb, tr, ow, on, ca, ba, di, fu, mi⟩ then rp 13 mi else bif rl 14 ⟨wr, rg, pr, sh, fi, be, bu, en, wb, tr, ow, on, ca, ba, di, fu, mi⟩ then rp 14 mi else rp 15 mi) = wrP ⟨wr, rg, pr, sh, fi, be, bu, en, wb, tr, ow, on, ca, ba, di, fu, mi⟩ := by
  obtain ⟨-, -, -, hf⟩ := chk_0 h hr
  subst he hr
  have h1 : (sh && ow) = false := by
    unfold fmB at hf
    dsimp only at hf
    cases e : (sh && ow)
    · rfl
    · rw [e] at hf; simp at hf
  unfold wrP
  simp only [rl, pgB, rp]
  cases sh <;> cases ow <;> (try (simp at h1; done)) <;> cases on <;> cases di <;> cases fu <;> rfl
set_option maxRecDepth 100000 in
set_option maxHeartbeats 16000000 in
theorem rplan_case (wr rg : Bool) (pr : Int) (sh fi be bu : Bool) (en : Int) (wb tr ow on ca ba di fu : Bool) (mi : Int) (w : World) : Calls Try.prog 14 #[.agg #[.bool wr, .bool rg, .int .i64 pr, .bool sh, .bool fi, .bool be, .bool bu, .int .i64 en, .bool wb, .bool tr, .bool ow, .bool on, .bool ca, .bool ba, .bool di, .bool fu, .int .i64 mi]] w (PlR ⟨wr, rg, pr, sh, fi, be, bu, en, wb, tr, ow, on, ca, ba, di, fu, mi⟩ w) := by
  have CK := fun w => rcheck_any wr rg pr sh fi be bu en wb tr ow on ca ba di fu mi w
  have WR := hide (fun w => write_any wr rg pr sh fi be bu en wb tr ow on ca ba di fu mi w)
  have CW := fun w => rcw_any wr rg pr sh fi be bu en wb tr ow on ca ba di fu mi w
  have OC := fun w => roc_any wr rg pr sh fi be bu en wb tr ow on ca ba di fu mi w
  unfold PlR
  obtain ⟨ch, hch⟩ : ∃ n, n = chk ⟨wr, rg, pr, sh, fi, be, bu, en, wb, tr, ow, on, ca, ba, di, fu, mi⟩ := ⟨_, rfl⟩
  obtain ⟨q0, hq0⟩ : ∃ n, n = plE ⟨wr, rg, pr, sh, fi, be, bu, en, wb, tr, ow, on, ca, ba, di, fu, mi⟩ := ⟨_, rfl⟩
  obtain ⟨r, hr⟩ : ∃ n, n = cwB ⟨wr, rg, pr, sh, fi, be, bu, en, wb, tr, ow, on, ca, ba, di, fu, mi⟩ := ⟨_, rfl⟩
  obtain ⟨q, hq⟩ : ∃ n, n = hcB ⟨wr, rg, pr, sh, fi, be, bu, en, wb, tr, ow, on, ca, ba, di, fu, mi⟩ := ⟨_, rfl⟩
  obtain ⟨b6, hb6⟩ : ∃ b, b = (wr && !r) := ⟨_, rfl⟩
  obtain ⟨b8, hb8⟩ : ∃ b, b = (be && !q) := ⟨_, rfl⟩
  obtain ⟨b10, hb10⟩ : ∃ b, b = ((en == 1) && (!wr || wb)) := ⟨_, rfl⟩
  obtain ⟨b12, hb12⟩ : ∃ b, b = (bu && !q) := ⟨_, rfl⟩
  obtain ⟨RS, hRS⟩ : ∃ b, b = (bif rl 6 ⟨wr, rg, pr, sh, fi, be, bu, en, wb, tr, ow, on, ca, ba, di, fu, mi⟩ then rp 6 mi else bif rl 7 ⟨wr, rg, pr, sh, fi, be, bu, en, wb, tr, ow, on, ca, ba, di, fu, mi⟩ then rp 7 mi else bif rl 8 ⟨wr, rg, pr, sh, fi, be, bu, en, wb, tr, ow, on, ca, ba, di, fu, mi⟩ then rp 8 mi else bif rl 9 ⟨wr, rg, pr, sh, fi, be, bu, en, wb, tr, ow, on, ca, ba, di, fu, mi⟩ then rp 9 mi else bif rl 10 ⟨wr, rg, pr, sh, fi, be, bu, en, wb, tr, ow, on, ca, ba, di, fu, mi⟩ then rp 10 mi else bif rl 11 ⟨wr, rg, pr, sh, fi, be, bu, en, wb, tr, ow, on, ca, ba, di, fu, mi⟩ then rp 11 mi else bif rl 12 ⟨wr, rg, pr, sh, fi, be, bu, en, wb, tr, ow, on, ca, ba, di, fu, mi⟩ then rp 12 mi else bif rl 13 ⟨wr, rg, pr, sh, fi, be, bu, en, wb, tr, ow, on, ca, ba, di, fu, mi⟩ then rp 13 mi else bif rl 14 ⟨wr, rg, pr, sh, fi, be, bu, en, wb, tr, ow, on, ca, ba, di, fu, mi⟩ then rp 14 mi else rp 15 mi) := ⟨_, rfl⟩
  have HN := hide (show ch ≠ 0 → q0 = p0 from fun h => by rw [hch] at h; rw [hq0]; unfold plE; rw [if_neg h])
  have HQ := hide (show ch = 0 → q0 = bif !rg then ⟨1, 13, 0, 0, 0⟩ else bif b6 then ⟨1, 12, 0, 0, 0⟩ else bif b8 then ⟨1, 14, 0, 0, 0⟩ else bif b10 then ⟨0, 0, 0, 0, 0⟩ else bif b12 then ⟨2, 0, 4, 0, 0⟩ else bif tr then ⟨2, 0, 3, 0, 0⟩ else RS from fun h => by
    rw [hch] at h
    rw [hq0]
    unfold plE
    rw [if_pos h, pl_bif, hb6, hb8, hb10, hb12, hRS, hr, hq]
    rfl)
  have HPG := hide (show ch = 0 → rg = true → en = 1 → RS = wrP ⟨wr, rg, pr, sh, fi, be, bu, en, wb, tr, ow, on, ca, ba, di, fu, mi⟩ from fun h h2 h3 => by rw [hch] at h; rw [hRS]; exact rs_page wr rg pr sh fi be bu en wb tr ow on ca ba di fu mi h h2 h3)
  rw [← hr] at CW
  rw [← hq] at OC
  rw [← hch] at CK
  rw [← hq0, ← hch]
  have Hb6 := hide hb6
  have Hb8 := hide hb8
  have Hb10 := hide hb10
  have Hb12 := hide hb12
  have HRS := hide hRS
  clear hch hq0 hr hq hb6 hb8 hb10 hb12 hRS
  replace CK := hide CK
  replace CW := hide CW
  replace OC := hide OC
  have s0 := hide (S3.new w ⟨wr, rg, pr, sh, fi, be, bu, en, wb, tr, ow, on, ca, ba, di, fu, mi⟩)
  go_enter Try.func14, Try.ntmps14
  go_upto_region 1 with fail
  obtain ⟨W0, hW0⟩ : ∃ W0, W0 = (w.alloc (.cells (fC ⟨wr, rg, pr, sh, fi, be, bu, en, wb, tr, ow, on, ca, ba, di, fu, mi⟩) 23)).alloc (.cells (pC p0) 28) := ⟨_, rfl⟩
  obtain ⟨g2, hg2⟩ : ∃ g2, g2 = w.heap.size := ⟨_, rfl⟩
  rw [← hW0, ← hg2] at s0
  unfold fC pC p0 at hW0
  dsimp only at hW0
  rw [← hW0, ← hg2]
  clear hW0 hg2
  go_wp2_with (refine wpList_load_row rfl 23 _ rfl g2 rfl 23 _ (0, 0) _ s0.out.X Try.underlying23 rfl (by kernel_rfl) ?_)
  refine (CK.out _).mono ?_
  rintro e w1 ⟨rfl, hb⟩
  have s := hide (s0.out.below hb)
  clear hb s0 CK
  by_cases hc : ch = 0
  rotate_left 1
  · obtain rfl := HN.out hc
    have hb : (ch != 0) = true := bne_iff_ne.2 hc
    clear HQ HPG
    go_wp2_with (refine wpList_store_row rfl 28 _ _ rfl (g2 + 1) (pC p0) rfl rfl 28 _ s.out.Z (by kernel_rfl) rfl (by kernel_rfl) ?_)
    exact ret_pi rfl rfl rfl rfl (s.out.ret p0).Z ⟨rfl, (s.out.ret p0).K⟩
  subst hc
  replace HQ := hide (HQ.out rfl)
  replace HPG := hide (HPG.out rfl)
  clear HN
  obtain ⟨x0, x1, x2, x3, x4, x5, x6, x7, x8, x9, x10, x11, x12, x13, x14, x15, x16⟩ := s.out.X.cells
  cases rg
  · clear HPG
    go_wp2_with fail
    refine (rrefuse_any 13 _).mono ?_
    rintro e w9 ⟨rfl, hb⟩
    have s9 := hide (s.out.below hb)
    clear hb
    go_wp2_with (refine wpList_store_row rfl 28 _ _ rfl (g2 + 1) (pC ⟨1, 13, 0, 0, 0⟩) rfl rfl 28 _ s9.out.Z (by kernel_rfl) rfl (by kernel_rfl) ?_)
    exact ret_pi (p := ⟨1, 13, 0, 0, 0⟩) rfl rfl rfl rfl (S3.ret s9.out (⟨1, 13, 0, 0, 0⟩ : P5)).Z ⟨by rw [HQ.out]; rfl, (S3.ret s9.out (⟨1, 13, 0, 0, 0⟩ : P5)).K⟩
  go_upto_region 6 with fail
  go_cut [23] (fun v wx => v = .bool b6 ∧ Hid (S3 w wx g2 (g2 + 1) ⟨wr, true, pr, sh, fi, be, bu, en, wb, tr, ow, on, ca, ba, di, fu, mi⟩ p0))
  case first => as_aux_lemma =>
    cases wr
    · go_wp2
      go_meet
      exact ⟨by rw [Hb6.out]; first | rfl | (simp [*]; done) | (simp; omega), s⟩
    · go_wp2_with (refine load_g (by kernel_rfl) 23 _ rfl g2 rfl 23 _ (0, 0) _ s.out.X Try.underlying23 rfl (by kernel_rfl) ?_)
      refine (CW.out _).mono ?_
      rintro e w11 ⟨rfl, hb⟩
      replace s := hide (s.out.below hb)
      clear hb
      try clear x0 x1 x2 x3 x4 x5 x6 x7 x8 x9 x10 x11 x12 x13 x14 x15 x16
      obtain ⟨x0, x1, x2, x3, x4, x5, x6, x7, x8, x9, x10, x11, x12, x13, x14, x15, x16⟩ := s.out.X.cells
      cases r
      · go_wp2
        go_meet
        exact ⟨by rw [Hb6.out]; first | rfl | (simp [*]; done) | (simp; omega), s⟩
      · go_wp2
        go_meet
        exact ⟨by rw [Hb6.out]; first | rfl | (simp [*]; done) | (simp; omega), s⟩
  case rest =>
  obtain ⟨rfl, s⟩ := hcut
  try clear x0 x1 x2 x3 x4 x5 x6 x7 x8 x9 x10 x11 x12 x13 x14 x15 x16
  obtain ⟨x0, x1, x2, x3, x4, x5, x6, x7, x8, x9, x10, x11, x12, x13, x14, x15, x16⟩ := s.out.X.cells
  cases b6
  rotate_left 1
  · clear HPG
    go_wp2_with fail
    refine (rrefuse_any 12 _).mono ?_
    rintro e w9 ⟨rfl, hb⟩
    have s9 := hide (s.out.below hb)
    clear hb
    go_wp2_with (refine wpList_store_row rfl 28 _ _ rfl (g2 + 1) (pC ⟨1, 12, 0, 0, 0⟩) rfl rfl 28 _ s9.out.Z (by kernel_rfl) rfl (by kernel_rfl) ?_)
    exact ret_pi (p := ⟨1, 12, 0, 0, 0⟩) rfl rfl rfl rfl (S3.ret s9.out (⟨1, 12, 0, 0, 0⟩ : P5)).Z ⟨by rw [HQ.out]; rfl, (S3.ret s9.out (⟨1, 12, 0, 0, 0⟩ : P5)).K⟩
  go_upto_region 8 with fail
  go_cut [33] (fun v wx => v = .bool b8 ∧ Hid (S3 w wx g2 (g2 + 1) ⟨wr, true, pr, sh, fi, be, bu, en, wb, tr, ow, on, ca, ba, di, fu, mi⟩ p0))
  case first => as_aux_lemma =>
    cases be
    · go_wp2
      go_meet
      exact ⟨by rw [Hb8.out]; first | rfl | (simp [*]; done) | (simp; omega), s⟩
    · go_wp2_with (refine load_g (by kernel_rfl) 23 _ rfl g2 rfl 23 _ (0, 0) _ s.out.X Try.underlying23 rfl (by kernel_rfl) ?_)
      refine (OC.out _).mono ?_
      rintro e w11 ⟨rfl, hb⟩
      replace s := hide (s.out.below hb)
      clear hb
      try clear x0 x1 x2 x3 x4 x5 x6 x7 x8 x9 x10 x11 x12 x13 x14 x15 x16
      obtain ⟨x0, x1, x2, x3, x4, x5, x6, x7, x8, x9, x10, x11, x12, x13, x14, x15, x16⟩ := s.out.X.cells
      cases q
      · go_wp2
        go_meet
        exact ⟨by rw [Hb8.out]; first | rfl | (simp [*]; done) | (simp; omega), s⟩
      · go_wp2
        go_meet
        exact ⟨by rw [Hb8.out]; first | rfl | (simp [*]; done) | (simp; omega), s⟩
  case rest =>
  obtain ⟨rfl, s⟩ := hcut
  try clear x0 x1 x2 x3 x4 x5 x6 x7 x8 x9 x10 x11 x12 x13 x14 x15 x16
  obtain ⟨x0, x1, x2, x3, x4, x5, x6, x7, x8, x9, x10, x11, x12, x13, x14, x15, x16⟩ := s.out.X.cells
  cases b8
  rotate_left 1
  · clear HPG
    go_wp2_with fail
    refine (rrefuse_any 14 _).mono ?_
    rintro e w9 ⟨rfl, hb⟩
    have s9 := hide (s.out.below hb)
    clear hb
    go_wp2_with (refine wpList_store_row rfl 28 _ _ rfl (g2 + 1) (pC ⟨1, 14, 0, 0, 0⟩) rfl rfl 28 _ s9.out.Z (by kernel_rfl) rfl (by kernel_rfl) ?_)
    exact ret_pi (p := ⟨1, 14, 0, 0, 0⟩) rfl rfl rfl rfl (S3.ret s9.out (⟨1, 14, 0, 0, 0⟩ : P5)).Z ⟨by rw [HQ.out]; rfl, (S3.ret s9.out (⟨1, 14, 0, 0, 0⟩ : P5)).K⟩
  go_upto_region 10 with fail
  go_cut [48] (fun v wx => v = .bool b10 ∧ Hid (S3 w wx g2 (g2 + 1) ⟨wr, true, pr, sh, fi, be, bu, en, wb, tr, ow, on, ca, ba, di, fu, mi⟩ p0))
  case first => as_aux_lemma =>
    by_cases hp2 : en = 1
    · cases wr
      · go_wp2
        go_meet
        exact ⟨by rw [Hb10.out]; first | rfl | (simp [*]; done) | (simp; omega), s⟩
      · cases wb
        · go_wp2
          go_meet
          exact ⟨by rw [Hb10.out]; first | rfl | (simp [*]; done) | (simp; omega), s⟩
        · go_wp2
          go_meet
          exact ⟨by rw [Hb10.out]; first | rfl | (simp [*]; done) | (simp; omega), s⟩
    · go_wp2
      go_meet
      exact ⟨by rw [Hb10.out]; first | rfl | (simp [*]; done) | (simp; omega), s⟩
  case rest =>
  obtain ⟨rfl, s⟩ := hcut
  try clear x0 x1 x2 x3 x4 x5 x6 x7 x8 x9 x10 x11 x12 x13 x14 x15 x16
  obtain ⟨x0, x1, x2, x3, x4, x5, x6, x7, x8, x9, x10, x11, x12, x13, x14, x15, x16⟩ := s.out.X.cells
  cases b10
  rotate_left 1
  · clear HPG
    go_wp2_with fail
    refine (rplan_any 0 0 0 _).mono ?_
    rintro e w9 ⟨rfl, hb⟩
    have s9 := hide (s.out.below hb)
    clear hb
    go_wp2_with (refine wpList_store_row rfl 28 _ _ rfl (g2 + 1) (pC ⟨0, 0, 0, 0, 0⟩) rfl rfl 28 _ s9.out.Z (by kernel_rfl) rfl (by kernel_rfl) ?_)
    exact ret_pi (p := ⟨0, 0, 0, 0, 0⟩) rfl rfl rfl rfl (S3.ret s9.out (⟨0, 0, 0, 0, 0⟩ : P5)).Z ⟨by rw [HQ.out]; rfl, (S3.ret s9.out (⟨0, 0, 0, 0, 0⟩ : P5)).K⟩
  go_upto_region 12 with fail
  go_cut [58] (fun v wx => v = .bool b12 ∧ Hid (S3 w wx g2 (g2 + 1) ⟨wr, true, pr, sh, fi, be, bu, en, wb, tr, ow, on, ca, ba, di, fu, mi⟩ p0))
  case first => as_aux_lemma =>
    cases bu
    · go_wp2
      go_meet
      exact ⟨by rw [Hb12.out]; first | rfl | (simp [*]; done) | (simp; omega), s⟩
    · go_wp2_with (refine load_g (by kernel_rfl) 23 _ rfl g2 rfl 23 _ (0, 0) _ s.out.X Try.underlying23 rfl (by kernel_rfl) ?_)
      refine (OC.out _).mono ?_
      rintro e w11 ⟨rfl, hb⟩
      replace s := hide (s.out.below hb)
      clear hb
      try clear x0 x1 x2 x3 x4 x5 x6 x7 x8 x9 x10 x11 x12 x13 x14 x15 x16
      obtain ⟨x0, x1, x2, x3, x4, x5, x6, x7, x8, x9, x10, x11, x12, x13, x14, x15, x16⟩ := s.out.X.cells
      cases q
      · go_wp2
        go_meet
        exact ⟨by rw [Hb12.out]; first | rfl | (simp [*]; done) | (simp; omega), s⟩
      · go_wp2
        go_meet
        exact ⟨by rw [Hb12.out]; first | rfl | (simp [*]; done) | (simp; omega), s⟩
  case rest =>
  obtain ⟨rfl, s⟩ := hcut
  try clear x0 x1 x2 x3 x4 x5 x6 x7 x8 x9 x10 x11 x12 x13 x14 x15 x16
  obtain ⟨x0, x1, x2, x3, x4, x5, x6, x7, x8, x9, x10, x11, x12, x13, x14, x15, x16⟩ := s.out.X.cells
  cases b12
  rotate_left 1
  · clear HPG
    go_wp2_with fail
    refine (rwait_any 4 _).mono ?_
    rintro e w9 ⟨rfl, hb⟩
    have s9 := hide (s.out.below hb)
    clear hb
    go_wp2_with (refine wpList_store_row rfl 28 _ _ rfl (g2 + 1) (pC ⟨2, 0, 4, 0, 0⟩) rfl rfl 28 _ s9.out.Z (by kernel_rfl) rfl (by kernel_rfl) ?_)
    exact ret_pi (p := ⟨2, 0, 4, 0, 0⟩) rfl rfl rfl rfl (S3.ret s9.out (⟨2, 0, 4, 0, 0⟩ : P5)).Z ⟨by rw [HQ.out]; rfl, (S3.ret s9.out (⟨2, 0, 4, 0, 0⟩ : P5)).K⟩
  cases tr
  rotate_left 1
  · clear HPG
    go_wp2_with fail
    refine (rwait_any 3 _).mono ?_
    rintro e w9 ⟨rfl, hb⟩
    have s9 := hide (s.out.below hb)
    clear hb
    go_wp2_with (refine wpList_store_row rfl 28 _ _ rfl (g2 + 1) (pC ⟨2, 0, 3, 0, 0⟩) rfl rfl 28 _ s9.out.Z (by kernel_rfl) rfl (by kernel_rfl) ?_)
    exact ret_pi (p := ⟨2, 0, 3, 0, 0⟩) rfl rfl rfl rfl (S3.ret s9.out (⟨2, 0, 3, 0, 0⟩ : P5)).Z ⟨by rw [HQ.out]; rfl, (S3.ret s9.out (⟨2, 0, 3, 0, 0⟩ : P5)).K⟩
  by_cases e1 : en = 1
  · have E1 := hide (HPG.out (by first | rfl | trivial) e1)
    subst e1
    go_upto_region 18 with fail
    clear x0 x1 x2 x3 x4 x5 x6 x7 x8 x9 x10 x11 x12 x13 x14 x15 x16
    go_wp2_with (refine wpList_load_row rfl 23 _ rfl g2 rfl 23 _ (0, 0) _ s.out.X Try.underlying23 rfl (by kernel_rfl) ?_)
    refine (WR.out _).mono ?_
    rintro e w9 ⟨rfl, hb⟩
    have s9 := hide (s.out.below hb)
    clear hb
    obtain ⟨P, hP⟩ : ∃ P, P = wrP ⟨wr, true, pr, sh, fi, be, bu, 1, wb, false, ow, on, ca, ba, di, fu, mi⟩ := ⟨_, rfl⟩
    rw [← hP]
    have E2 := hide (show q0 = P by rw [HQ.out, hP]; exact E1.out)
    clear hP
    obtain ⟨ac, er, wa, ke, us⟩ := P
    go_wp2_with (refine wpList_store_row rfl 28 _ _ rfl (g2 + 1) (pC ⟨ac, er, wa, ke, us⟩) rfl rfl 28 _ s9.out.Z (by kernel_rfl) rfl (by kernel_rfl) ?_)
    exact ret_pi (p := ⟨ac, er, wa, ke, us⟩) rfl rfl rfl rfl (S3.ret s9.out (⟨ac, er, wa, ke, us⟩ : P5)).Z ⟨by rw [E2.out], (S3.ret s9.out (⟨ac, er, wa, ke, us⟩ : P5)).K⟩
  clear HPG WR
  by_cases e2 : en = 2
  · subst e2
    clear e1
    cases ca
    · go_wp2_with fail
      refine (rplan_any 11 0 1 _).mono ?_
      rintro e w9 ⟨rfl, hb⟩
      have s9 := hide (s.out.below hb)
      clear hb
      go_wp2_with (refine wpList_store_row rfl 28 _ _ rfl (g2 + 1) (pC ⟨11, 0, 0, 0, 1⟩) rfl rfl 28 _ s9.out.Z (by kernel_rfl) rfl (by kernel_rfl) ?_)
      exact ret_pi (p := ⟨11, 0, 0, 0, 1⟩) rfl rfl rfl rfl (S3.ret s9.out (⟨11, 0, 0, 0, 1⟩ : P5)).Z ⟨by rw [HQ.out]; show Ending.returned (.tuple #[pV _, _]) = .returned (.tuple #[pV RS, _]); rw [HRS.out]; simp [rl, rp, pgB, swB], (S3.ret s9.out (⟨11, 0, 0, 0, 1⟩ : P5)).K⟩
    · go_wp2_with fail
      refine (rplan_any 10 0 0 _).mono ?_
      rintro e w9 ⟨rfl, hb⟩
      have s9 := hide (s.out.below hb)
      clear hb
      go_wp2_with (refine wpList_store_row rfl 28 _ _ rfl (g2 + 1) (pC ⟨10, 0, 0, 0, 0⟩) rfl rfl 28 _ s9.out.Z (by kernel_rfl) rfl (by kernel_rfl) ?_)
      exact ret_pi (p := ⟨10, 0, 0, 0, 0⟩) rfl rfl rfl rfl (S3.ret s9.out (⟨10, 0, 0, 0, 0⟩ : P5)).Z ⟨by rw [HQ.out]; show Ending.returned (.tuple #[pV _, _]) = .returned (.tuple #[pV RS, _]); rw [HRS.out]; simp [rl, rp, pgB, swB], (S3.ret s9.out (⟨10, 0, 0, 0, 0⟩ : P5)).K⟩
  have n1 : (en == 1) = false := beq_eq_false_iff_ne.2 e1
  have n2 : (en == 2) = false := beq_eq_false_iff_ne.2 e2
  have N1 := hide n1
  have N2 := hide n2
  cases fi
  · go_wp2_with fail
    refine (rplan_any 3 mi 1 _).mono ?_
    rintro e w9 ⟨rfl, hb⟩
    have s9 := hide (s.out.below hb)
    clear hb
    go_wp2_with (refine wpList_store_row rfl 28 _ _ rfl (g2 + 1) (pC ⟨3, 0, 0, mi, 1⟩) rfl rfl 28 _ s9.out.Z (by kernel_rfl) rfl (by kernel_rfl) ?_)
    exact ret_pi (p := ⟨3, 0, 0, mi, 1⟩) rfl rfl rfl rfl (S3.ret s9.out (⟨3, 0, 0, mi, 1⟩ : P5)).Z ⟨by rw [HQ.out]; show Ending.returned (.tuple #[pV _, _]) = .returned (.tuple #[pV RS, _]); rw [HRS.out]; simp [rl, rp, pgB, swB, N1.out, N2.out], (S3.ret s9.out (⟨3, 0, 0, mi, 1⟩ : P5)).K⟩
  cases ca
  rotate_left 1
  · go_wp2_with fail
    refine (rplan_any 6 mi 0 _).mono ?_
    rintro e w9 ⟨rfl, hb⟩
    have s9 := hide (s.out.below hb)
    clear hb
    go_wp2_with (refine wpList_store_row rfl 28 _ _ rfl (g2 + 1) (pC ⟨6, 0, 0, mi, 0⟩) rfl rfl 28 _ s9.out.Z (by kernel_rfl) rfl (by kernel_rfl) ?_)
    exact ret_pi (p := ⟨6, 0, 0, mi, 0⟩) rfl rfl rfl rfl (S3.ret s9.out (⟨6, 0, 0, mi, 0⟩ : P5)).Z ⟨by rw [HQ.out]; show Ending.returned (.tuple #[pV _, _]) = .returned (.tuple #[pV RS, _]); rw [HRS.out]; simp [rl, rp, pgB, swB, N1.out, N2.out], (S3.ret s9.out (⟨6, 0, 0, mi, 0⟩ : P5)).K⟩
  cases ba
  · go_wp2_with fail
    refine (rplan_any 4 mi 1 _).mono ?_
    rintro e w9 ⟨rfl, hb⟩
    have s9 := hide (s.out.below hb)
    clear hb
    go_wp2_with (refine wpList_store_row rfl 28 _ _ rfl (g2 + 1) (pC ⟨4, 0, 0, mi, 1⟩) rfl rfl 28 _ s9.out.Z (by kernel_rfl) rfl (by kernel_rfl) ?_)
    exact ret_pi (p := ⟨4, 0, 0, mi, 1⟩) rfl rfl rfl rfl (S3.ret s9.out (⟨4, 0, 0, mi, 1⟩ : P5)).Z ⟨by rw [HQ.out]; show Ending.returned (.tuple #[pV _, _]) = .returned (.tuple #[pV RS, _]); rw [HRS.out]; simp [rl, rp, pgB, swB, N1.out, N2.out], (S3.ret s9.out (⟨4, 0, 0, mi, 1⟩ : P5)).K⟩
  · go_wp2_with fail
    refine (rplan_any 5 0 1 _).mono ?_
    rintro e w9 ⟨rfl, hb⟩
    have s9 := hide (s.out.below hb)
    clear hb
    go_wp2_with (refine wpList_store_row rfl 28 _ _ rfl (g2 + 1) (pC ⟨5, 0, 0, 0, 1⟩) rfl rfl 28 _ s9.out.Z (by kernel_rfl) rfl (by kernel_rfl) ?_)
    exact ret_pi (p := ⟨5, 0, 0, 0, 1⟩) rfl rfl rfl rfl (S3.ret s9.out (⟨5, 0, 0, 0, 1⟩ : P5)).Z ⟨by rw [HQ.out]; show Ending.returned (.tuple #[pV _, _]) = .returned (.tuple #[pV RS, _]); rw [HRS.out]; simp [rl, rp, pgB, swB, N1.out, N2.out], (S3.ret s9.out (⟨5, 0, 0, 0, 1⟩ : P5)).K⟩
end Go.Proofs.Ytkcopcmoaloecaa.Fp
