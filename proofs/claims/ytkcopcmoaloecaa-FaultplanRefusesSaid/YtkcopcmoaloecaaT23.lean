import Derived.Test.YtkcopcmoaloecaaT21
namespace Go.Proofs.Ytkcopcmoaloecaa.Fp
open Go Go.RowKit
set_option linter.unusedVariables false
set_option linter.unusedSimpArgs false
theorem pl_er (c : Fc) : (pl c).er = bif rl 0 c then 13 else bif rl 1 c then 12 else bif rl 2 c then 14 else 0 := by
  rw [pl_bif]
  cases rl 0 c
  rotate_left 1
  · rfl
  cases rl 1 c
  rotate_left 1
  · rfl
  cases rl 2 c
  rotate_left 1
  · rfl
  cases rl 3 c
  rotate_left 1
  · rfl
  cases rl 4 c
  rotate_left 1
  · rfl
  cases rl 5 c
  rotate_left 1
  · rfl
  cases rl 6 c
  rotate_left 1
  · rfl
  cases rl 7 c
  rotate_left 1
  · rfl
  cases rl 8 c
  rotate_left 1
  · rfl
  cases rl 9 c
  rotate_left 1
  · rfl
  cases rl 10 c
  rotate_left 1
  · rfl
  cases rl 11 c
  rotate_left 1
  · rfl
  cases rl 12 c
  rotate_left 1
  · rfl
  cases rl 13 c
  rotate_left 1
  · rfl
  cases rl 14 c
  rotate_left 1
  · rfl
  rfl
set_option maxRecDepth 100000 in
set_option maxHeartbeats 16000000 in
theorem law_refuses (wr rg : Bool) (pr : Int) (sh fi be bu : Bool) (en : Int) (wb tr ow on ca ba di fu : Bool) (mi : Int) (w : World) : Calls Try.prog 8 #[.agg #[.bool wr, .bool rg, .int .i64 pr, .bool sh, .bool fi, .bool be, .bool bu, .int .i64 en, .bool wb, .bool tr, .bool ow, .bool on, .bool ca, .bool ba, .bool di, .bool fu, .int .i64 mi]] w fun e w' => e = .returned (.bool true) ∧ Below w.heap.size w w' := by
  have AWK := hide (fun w => awake_any w)
  have CP := fun w => plan_any wr rg pr sh fi be bu en wb tr ow on ca ba di fu mi w
  unfold PlR at CP
  obtain ⟨ch, hch⟩ : ∃ n, n = chk ⟨wr, rg, pr, sh, fi, be, bu, en, wb, tr, ow, on, ca, ba, di, fu, mi⟩ := ⟨_, rfl⟩
  obtain ⟨P, hP⟩ : ∃ n, n = plE ⟨wr, rg, pr, sh, fi, be, bu, en, wb, tr, ow, on, ca, ba, di, fu, mi⟩ := ⟨_, rfl⟩
  rw [← hch, ← hP] at CP
  obtain ⟨ac, er, wa, ke, us⟩ := P
  have HE := hide (show ch = 0 → er = bif !rg then 13 else bif wr && !(pr == 3) then 12 else bif be && !(en == 2 || ow && (en == 1 || en == 3)) then 14 else 0 from fun h => by
    rw [hch] at h
    have e1 : plE ⟨wr, rg, pr, sh, fi, be, bu, en, wb, tr, ow, on, ca, ba, di, fu, mi⟩ = pl ⟨wr, rg, pr, sh, fi, be, bu, en, wb, tr, ow, on, ca, ba, di, fu, mi⟩ := by unfold plE; rw [if_pos h]
    have e2 := pl_er ⟨wr, rg, pr, sh, fi, be, bu, en, wb, tr, ow, on, ca, ba, di, fu, mi⟩
    rw [← e1, ← hP] at e2
    exact e2)
  have HV := hide (show ch = 0 → rg = true → (pr = 1 ∨ pr = 3) ∧ (en = 0 ∨ en = 1 ∨ en = 2 ∨ en = 3) from fun h h2 => by
    rw [hch] at h
    have := chk_0 h h2
    exact ⟨this.2.2.1, this.1⟩)
  clear hch hP
  unfold pV at CP
  dsimp only at CP
  replace CP := hide CP
  have K := hide (bal (brefl w) (.cells #[.bool wr, .bool rg, .int .i64 pr, .bool sh, .bool fi, .bool be, .bool bu, .int .i64 en, .bool wb, .bool tr, .bool ow, .bool on, .bool ca, .bool ba, .bool di, .bool fu, .int .i64 mi] 23))
  have X := hide (CB.new w wr rg pr sh fi be bu en wb tr ow on ca ba di fu mi)
  go_enter Try.func8, Try.ntmps8
  go_upto_region 1 with fail
  obtain ⟨W0, hW0⟩ : ∃ W0, W0 = w.alloc (.cells #[.bool wr, .bool rg, .int .i64 pr, .bool sh, .bool fi, .bool be, .bool bu, .int .i64 en, .bool wb, .bool tr, .bool ow, .bool on, .bool ca, .bool ba, .bool di, .bool fu, .int .i64 mi] 23) := ⟨_, rfl⟩
  rw [← hW0] at X K
  obtain ⟨g2, hg2⟩ : ∃ g2, g2 = w.heap.size := ⟨_, rfl⟩
  rw [← hg2] at X
  rw [← hW0, ← hg2]
  clear hW0 hg2
  go_wp2_with (refine wpList_load_row rfl 23 _ rfl g2 rfl 23 _ (0, 0) _ X.out Try.underlying23 rfl (by kernel_rfl) ?_)
  refine (CP.out _).mono ?_
  rintro e w1 ⟨rfl, hb⟩
  replace K := hide (btrans K.out hb)
  replace X := hide (X.out.below hb)
  clear hb
  go_upto_region 2 with fail
  have M : Below w1.heap.size w1 (w1.alloc (.cells #[.int .i64 ac, .int .i64 er, .int .i64 wa, .int .i64 ke, .int .i64 us] 28)) := bal (brefl w1) _
  replace K := hide (btrans K.out M)
  replace X := hide (X.out.below M)
  have Y := hide (show PB (w1.alloc (.cells #[.int .i64 ac, .int .i64 er, .int .i64 wa, .int .i64 ke, .int .i64 us] 28)) w1.heap.size ⟨ac, er, wa, ke, us⟩ from Box.new w1 28 _)
  obtain ⟨g3, hg3⟩ : ∃ q, q = w1.heap.size := ⟨_, rfl⟩
  rw [← hg3] at Y
  rw [← hg3]
  clear hg3
  generalize w1.alloc (.cells #[.int .i64 ac, .int .i64 er, .int .i64 wa, .int .i64 ke, .int .i64 us] 28) = v1 at *
  clear M
  by_cases hc : ch = 0
  rotate_left 1
  · have hb : (ch != 0) = true := bne_iff_ne.2 hc
    go_wp2_with fail
    refine (AWK.out _).mono ?_
    rintro e w9 ⟨rfl, hb⟩
    replace K := hide (btrans K.out hb)
    clear hb
    go_wp2
    go_ret
    exact ⟨rfl, K.out⟩
  subst hc
  replace HE := hide (HE.out rfl)
  replace HV := hide (HV.out rfl)
  obtain ⟨p0, p1, p2, p3, p4⟩ := Y.out.cells
  obtain ⟨x0, x1, x2, x3, x4, x5, x6, x7, x8, x9, x10, x11, x12, x13, x14, x15, x16⟩ := X.out.cells
  cases rg
  · obtain rfl : er = 13 := by rw [HE.out]; rfl
    clear HE HV
    go_wp2_with fail
    refine (AWK.out _).mono ?_
    rintro e w9 ⟨rfl, hb⟩
    replace K := hide (btrans K.out hb)
    clear hb
    go_wp2
    go_ret
    exact ⟨rfl, K.out⟩
  obtain ⟨PR, EN⟩ := HV.out rfl
  cases wr
  · cases be
    · obtain rfl : er = 0 := by rw [HE.out]; rfl
      clear HE HV
      go_wp2_with fail
      refine (AWK.out _).mono ?_
      rintro e w9 ⟨rfl, hb⟩
      replace K := hide (btrans K.out hb)
      clear hb
      go_wp2
      go_ret
      exact ⟨rfl, K.out⟩
    · rcases EN with rfl | rfl | rfl | rfl
      · obtain rfl : er = 14 := by rw [HE.out]; cases ow <;> rfl
        clear HE HV
        go_wp2_with fail
        refine (AWK.out _).mono ?_
        rintro e w9 ⟨rfl, hb⟩
        replace K := hide (btrans K.out hb)
        clear hb
        go_wp2
        go_ret
        exact ⟨rfl, K.out⟩
      · cases ow
        · obtain rfl : er = 14 := by rw [HE.out]; rfl
          clear HE HV
          go_wp2_with fail
          refine (AWK.out _).mono ?_
          rintro e w9 ⟨rfl, hb⟩
          replace K := hide (btrans K.out hb)
          clear hb
          go_wp2
          go_ret
          exact ⟨rfl, K.out⟩
        · obtain rfl : er = 0 := by rw [HE.out]; rfl
          clear HE HV
          go_wp2_with fail
          refine (AWK.out _).mono ?_
          rintro e w9 ⟨rfl, hb⟩
          replace K := hide (btrans K.out hb)
          clear hb
          go_wp2
          go_ret
          exact ⟨rfl, K.out⟩
      · obtain rfl : er = 0 := by rw [HE.out]; rfl
        clear HE HV
        go_wp2_with fail
        refine (AWK.out _).mono ?_
        rintro e w9 ⟨rfl, hb⟩
        replace K := hide (btrans K.out hb)
        clear hb
        go_wp2
        go_ret
        exact ⟨rfl, K.out⟩
      · cases ow
        · obtain rfl : er = 14 := by rw [HE.out]; rfl
          clear HE HV
          go_wp2_with fail
          refine (AWK.out _).mono ?_
          rintro e w9 ⟨rfl, hb⟩
          replace K := hide (btrans K.out hb)
          clear hb
          go_wp2
          go_ret
          exact ⟨rfl, K.out⟩
        · obtain rfl : er = 0 := by rw [HE.out]; rfl
          clear HE HV
          go_wp2_with fail
          refine (AWK.out _).mono ?_
          rintro e w9 ⟨rfl, hb⟩
          replace K := hide (btrans K.out hb)
          clear hb
          go_wp2
          go_ret
          exact ⟨rfl, K.out⟩
  rcases PR with rfl | rfl
  · clear EN
    obtain rfl : er = 12 := by rw [HE.out]; rfl
    clear HE HV
    go_wp2_with fail
    refine (AWK.out _).mono ?_
    rintro e w9 ⟨rfl, hb⟩
    replace K := hide (btrans K.out hb)
    clear hb
    go_wp2
    go_ret
    exact ⟨rfl, K.out⟩
  · cases be
    · obtain rfl : er = 0 := by rw [HE.out]; rfl
      clear HE HV
      go_wp2_with fail
      refine (AWK.out _).mono ?_
      rintro e w9 ⟨rfl, hb⟩
      replace K := hide (btrans K.out hb)
      clear hb
      go_wp2
      go_ret
      exact ⟨rfl, K.out⟩
    · rcases EN with rfl | rfl | rfl | rfl
      · obtain rfl : er = 14 := by rw [HE.out]; cases ow <;> rfl
        clear HE HV
        go_wp2_with fail
        refine (AWK.out _).mono ?_
        rintro e w9 ⟨rfl, hb⟩
        replace K := hide (btrans K.out hb)
        clear hb
        go_wp2
        go_ret
        exact ⟨rfl, K.out⟩
      · cases ow
        · obtain rfl : er = 14 := by rw [HE.out]; rfl
          clear HE HV
          go_wp2_with fail
          refine (AWK.out _).mono ?_
          rintro e w9 ⟨rfl, hb⟩
          replace K := hide (btrans K.out hb)
          clear hb
          go_wp2
          go_ret
          exact ⟨rfl, K.out⟩
        · obtain rfl : er = 0 := by rw [HE.out]; rfl
          clear HE HV
          go_wp2_with fail
          refine (AWK.out _).mono ?_
          rintro e w9 ⟨rfl, hb⟩
          replace K := hide (btrans K.out hb)
          clear hb
          go_wp2
          go_ret
          exact ⟨rfl, K.out⟩
      · obtain rfl : er = 0 := by rw [HE.out]; rfl
        clear HE HV
        go_wp2_with fail
        refine (AWK.out _).mono ?_
        rintro e w9 ⟨rfl, hb⟩
        replace K := hide (btrans K.out hb)
        clear hb
        go_wp2
        go_ret
        exact ⟨rfl, K.out⟩
      · cases ow
        · obtain rfl : er = 14 := by rw [HE.out]; rfl
          clear HE HV
          go_wp2_with fail
          refine (AWK.out _).mono ?_
          rintro e w9 ⟨rfl, hb⟩
          replace K := hide (btrans K.out hb)
          clear hb
          go_wp2
          go_ret
          exact ⟨rfl, K.out⟩
        · obtain rfl : er = 0 := by rw [HE.out]; rfl
          clear HE HV
          go_wp2_with fail
          refine (AWK.out _).mono ?_
          rintro e w9 ⟨rfl, hb⟩
          replace K := hide (btrans K.out hb)
          clear hb
          go_wp2
          go_ret
          exact ⟨rfl, K.out⟩
set_option maxRecDepth 100000 in
set_option maxHeartbeats 16000000 in
theorem needs_0 (wr rg : Bool) (pr : Int) (sh fi be bu : Bool) (en : Int) (wb tr ow on ca ba di fu : Bool) (mi : Int) (w : World) (CP : Hid (∀ w, Calls Try.prog 13 #[.agg #[.bool wr, .bool rg, .int .i64 pr, .bool sh, .bool fi, .bool be, .bool bu, .int .i64 en, .bool wb, .bool tr, .bool ow, .bool on, .bool ca, .bool ba, .bool di, .bool fu, .int .i64 mi]] w fun e w' => e = .returned (.tuple #[.agg #[.int .i64 1, .int .i64 13, .int .i64 0, .int .i64 0, .int .i64 0], .int .i64 0]) ∧ Below w.heap.size w w')) : Calls Try.prog 7 #[.agg #[.bool wr, .bool rg, .int .i64 pr, .bool sh, .bool fi, .bool be, .bool bu, .int .i64 en, .bool wb, .bool tr, .bool ow, .bool on, .bool ca, .bool ba, .bool di, .bool fu, .int .i64 mi]] w fun e w' => e = .returned (.bool true) ∧ Below w.heap.size w w' := by
  have AWK := hide (fun w => awake_any w)
  have K := hide (bal (brefl w) (.cells #[.bool wr, .bool rg, .int .i64 pr, .bool sh, .bool fi, .bool be, .bool bu, .int .i64 en, .bool wb, .bool tr, .bool ow, .bool on, .bool ca, .bool ba, .bool di, .bool fu, .int .i64 mi] 23))
  have X := hide (CB.new w wr rg pr sh fi be bu en wb tr ow on ca ba di fu mi)
  go_enter Try.func7, Try.ntmps7
  go_upto_region 1 with fail
  obtain ⟨W0, hW0⟩ : ∃ W0, W0 = w.alloc (.cells #[.bool wr, .bool rg, .int .i64 pr, .bool sh, .bool fi, .bool be, .bool bu, .int .i64 en, .bool wb, .bool tr, .bool ow, .bool on, .bool ca, .bool ba, .bool di, .bool fu, .int .i64 mi] 23) := ⟨_, rfl⟩
  rw [← hW0] at X K
  obtain ⟨g2, hg2⟩ : ∃ g2, g2 = w.heap.size := ⟨_, rfl⟩
  rw [← hg2] at X
  rw [← hW0, ← hg2]
  clear hW0 hg2
  go_wp2_with (refine wpList_load_row rfl 23 _ rfl g2 rfl 23 _ (0, 0) _ X.out Try.underlying23 rfl (by kernel_rfl) ?_)
  refine (CP.out _).mono ?_
  rintro e w1 ⟨rfl, hb⟩
  replace K := hide (btrans K.out hb)
  replace X := hide (X.out.below hb)
  clear hb
  go_upto_region 2 with fail
  have M : Below w1.heap.size w1 (w1.alloc (.cells #[.int .i64 1, .int .i64 13, .int .i64 0, .int .i64 0, .int .i64 0] 28)) := bal (brefl w1) _
  replace K := hide (btrans K.out M)
  replace X := hide (X.out.below M)
  have Y := hide (show PB (w1.alloc (.cells #[.int .i64 1, .int .i64 13, .int .i64 0, .int .i64 0, .int .i64 0] 28)) w1.heap.size ⟨1, 13, 0, 0, 0⟩ from Box.new w1 28 _)
  obtain ⟨g3, hg3⟩ : ∃ q, q = w1.heap.size := ⟨_, rfl⟩
  rw [← hg3] at Y
  rw [← hg3]
  clear hg3
  generalize w1.alloc (.cells #[.int .i64 1, .int .i64 13, .int .i64 0, .int .i64 0, .int .i64 0] 28) = v1 at *
  clear M
  obtain ⟨p0, p1, p2, p3, p4⟩ := Y.out.cells
  obtain ⟨x0, x1, x2, x3, x4, x5, x6, x7, x8, x9, x10, x11, x12, x13, x14, x15, x16⟩ := X.out.cells
  go_wp2_with fail
  refine (AWK.out _).mono ?_
  rintro e w9 ⟨rfl, hb⟩
  replace K := hide (btrans K.out hb)
  clear hb
  go_wp2
  go_ret
  exact ⟨rfl, K.out⟩
set_option maxRecDepth 100000 in
set_option maxHeartbeats 16000000 in
theorem needs_1 (wr rg : Bool) (pr : Int) (sh fi be bu : Bool) (en : Int) (wb tr ow on ca ba di fu : Bool) (mi : Int) (w : World) (CP : Hid (∀ w, Calls Try.prog 13 #[.agg #[.bool wr, .bool rg, .int .i64 pr, .bool sh, .bool fi, .bool be, .bool bu, .int .i64 en, .bool wb, .bool tr, .bool ow, .bool on, .bool ca, .bool ba, .bool di, .bool fu, .int .i64 mi]] w fun e w' => e = .returned (.tuple #[.agg #[.int .i64 1, .int .i64 12, .int .i64 0, .int .i64 0, .int .i64 0], .int .i64 0]) ∧ Below w.heap.size w w')) : Calls Try.prog 7 #[.agg #[.bool wr, .bool rg, .int .i64 pr, .bool sh, .bool fi, .bool be, .bool bu, .int .i64 en, .bool wb, .bool tr, .bool ow, .bool on, .bool ca, .bool ba, .bool di, .bool fu, .int .i64 mi]] w fun e w' => e = .returned (.bool true) ∧ Below w.heap.size w w' := by
  have AWK := hide (fun w => awake_any w)
  have K := hide (bal (brefl w) (.cells #[.bool wr, .bool rg, .int .i64 pr, .bool sh, .bool fi, .bool be, .bool bu, .int .i64 en, .bool wb, .bool tr, .bool ow, .bool on, .bool ca, .bool ba, .bool di, .bool fu, .int .i64 mi] 23))
  have X := hide (CB.new w wr rg pr sh fi be bu en wb tr ow on ca ba di fu mi)
  go_enter Try.func7, Try.ntmps7
  go_upto_region 1 with fail
  obtain ⟨W0, hW0⟩ : ∃ W0, W0 = w.alloc (.cells #[.bool wr, .bool rg, .int .i64 pr, .bool sh, .bool fi, .bool be, .bool bu, .int .i64 en, .bool wb, .bool tr, .bool ow, .bool on, .bool ca, .bool ba, .bool di, .bool fu, .int .i64 mi] 23) := ⟨_, rfl⟩
  rw [← hW0] at X K
  obtain ⟨g2, hg2⟩ : ∃ g2, g2 = w.heap.size := ⟨_, rfl⟩
  rw [← hg2] at X
  rw [← hW0, ← hg2]
  clear hW0 hg2
  go_wp2_with (refine wpList_load_row rfl 23 _ rfl g2 rfl 23 _ (0, 0) _ X.out Try.underlying23 rfl (by kernel_rfl) ?_)
  refine (CP.out _).mono ?_
  rintro e w1 ⟨rfl, hb⟩
  replace K := hide (btrans K.out hb)
  replace X := hide (X.out.below hb)
  clear hb
  go_upto_region 2 with fail
  have M : Below w1.heap.size w1 (w1.alloc (.cells #[.int .i64 1, .int .i64 12, .int .i64 0, .int .i64 0, .int .i64 0] 28)) := bal (brefl w1) _
  replace K := hide (btrans K.out M)
  replace X := hide (X.out.below M)
  have Y := hide (show PB (w1.alloc (.cells #[.int .i64 1, .int .i64 12, .int .i64 0, .int .i64 0, .int .i64 0] 28)) w1.heap.size ⟨1, 12, 0, 0, 0⟩ from Box.new w1 28 _)
  obtain ⟨g3, hg3⟩ : ∃ q, q = w1.heap.size := ⟨_, rfl⟩
  rw [← hg3] at Y
  rw [← hg3]
  clear hg3
  generalize w1.alloc (.cells #[.int .i64 1, .int .i64 12, .int .i64 0, .int .i64 0, .int .i64 0] 28) = v1 at *
  clear M
  obtain ⟨p0, p1, p2, p3, p4⟩ := Y.out.cells
  obtain ⟨x0, x1, x2, x3, x4, x5, x6, x7, x8, x9, x10, x11, x12, x13, x14, x15, x16⟩ := X.out.cells
  go_wp2_with fail
  refine (AWK.out _).mono ?_
  rintro e w9 ⟨rfl, hb⟩
  replace K := hide (btrans K.out hb)
  clear hb
  go_wp2
  go_ret
  exact ⟨rfl, K.out⟩
set_option maxRecDepth 100000 in
set_option maxHeartbeats 16000000 in
theorem needs_2 (wr rg : Bool) (pr : Int) (sh fi be bu : Bool) (en : Int) (wb tr ow on ca ba di fu : Bool) (mi : Int) (w : World) (CP : Hid (∀ w, Calls Try.prog 13 #[.agg #[.bool wr, .bool rg, .int .i64 pr, .bool sh, .bool fi, .bool be, .bool bu, .int .i64 en, .bool wb, .bool tr, .bool ow, .bool on, .bool ca, .bool ba, .bool di, .bool fu, .int .i64 mi]] w fun e w' => e = .returned (.tuple #[.agg #[.int .i64 1, .int .i64 14, .int .i64 0, .int .i64 0, .int .i64 0], .int .i64 0]) ∧ Below w.heap.size w w')) : Calls Try.prog 7 #[.agg #[.bool wr, .bool rg, .int .i64 pr, .bool sh, .bool fi, .bool be, .bool bu, .int .i64 en, .bool wb, .bool tr, .bool ow, .bool on, .bool ca, .bool ba, .bool di, .bool fu, .int .i64 mi]] w fun e w' => e = .returned (.bool true) ∧ Below w.heap.size w w' := by
  have AWK := hide (fun w => awake_any w)
  have K := hide (bal (brefl w) (.cells #[.bool wr, .bool rg, .int .i64 pr, .bool sh, .bool fi, .bool be, .bool bu, .int .i64 en, .bool wb, .bool tr, .bool ow, .bool on, .bool ca, .bool ba, .bool di, .bool fu, .int .i64 mi] 23))
  have X := hide (CB.new w wr rg pr sh fi be bu en wb tr ow on ca ba di fu mi)
  go_enter Try.func7, Try.ntmps7
  go_upto_region 1 with fail
  obtain ⟨W0, hW0⟩ : ∃ W0, W0 = w.alloc (.cells #[.bool wr, .bool rg, .int .i64 pr, .bool sh, .bool fi, .bool be, .bool bu, .int .i64 en, .bool wb, .bool tr, .bool ow, .bool on, .bool ca, .bool ba, .bool di, .bool fu, .int .i64 mi] 23) := ⟨_, rfl⟩
  rw [← hW0] at X K
  obtain ⟨g2, hg2⟩ : ∃ g2, g2 = w.heap.size := ⟨_, rfl⟩
  rw [← hg2] at X
  rw [← hW0, ← hg2]
  clear hW0 hg2
  go_wp2_with (refine wpList_load_row rfl 23 _ rfl g2 rfl 23 _ (0, 0) _ X.out Try.underlying23 rfl (by kernel_rfl) ?_)
  refine (CP.out _).mono ?_
  rintro e w1 ⟨rfl, hb⟩
  replace K := hide (btrans K.out hb)
  replace X := hide (X.out.below hb)
  clear hb
  go_upto_region 2 with fail
  have M : Below w1.heap.size w1 (w1.alloc (.cells #[.int .i64 1, .int .i64 14, .int .i64 0, .int .i64 0, .int .i64 0] 28)) := bal (brefl w1) _
  replace K := hide (btrans K.out M)
  replace X := hide (X.out.below M)
  have Y := hide (show PB (w1.alloc (.cells #[.int .i64 1, .int .i64 14, .int .i64 0, .int .i64 0, .int .i64 0] 28)) w1.heap.size ⟨1, 14, 0, 0, 0⟩ from Box.new w1 28 _)
  obtain ⟨g3, hg3⟩ : ∃ q, q = w1.heap.size := ⟨_, rfl⟩
  rw [← hg3] at Y
  rw [← hg3]
  clear hg3
  generalize w1.alloc (.cells #[.int .i64 1, .int .i64 14, .int .i64 0, .int .i64 0, .int .i64 0] 28) = v1 at *
  clear M
  obtain ⟨p0, p1, p2, p3, p4⟩ := Y.out.cells
  obtain ⟨x0, x1, x2, x3, x4, x5, x6, x7, x8, x9, x10, x11, x12, x13, x14, x15, x16⟩ := X.out.cells
  go_wp2_with fail
  refine (AWK.out _).mono ?_
  rintro e w9 ⟨rfl, hb⟩
  replace K := hide (btrans K.out hb)
  clear hb
  go_wp2
  go_ret
  exact ⟨rfl, K.out⟩
set_option maxRecDepth 100000 in
set_option maxHeartbeats 16000000 in
theorem needs_3 (wr rg : Bool) (pr : Int) (sh fi be bu : Bool) (en : Int) (wb tr ow on ca ba di fu : Bool) (mi : Int) (w : World) (CP : Hid (∀ w, Calls Try.prog 13 #[.agg #[.bool wr, .bool rg, .int .i64 pr, .bool sh, .bool fi, .bool be, .bool bu, .int .i64 en, .bool wb, .bool tr, .bool ow, .bool on, .bool ca, .bool ba, .bool di, .bool fu, .int .i64 mi]] w fun e w' => e = .returned (.tuple #[.agg #[.int .i64 0, .int .i64 0, .int .i64 0, .int .i64 0, .int .i64 0], .int .i64 0]) ∧ Below w.heap.size w w')) : Calls Try.prog 7 #[.agg #[.bool wr, .bool rg, .int .i64 pr, .bool sh, .bool fi, .bool be, .bool bu, .int .i64 en, .bool wb, .bool tr, .bool ow, .bool on, .bool ca, .bool ba, .bool di, .bool fu, .int .i64 mi]] w fun e w' => e = .returned (.bool true) ∧ Below w.heap.size w w' := by
  have AWK := hide (fun w => awake_any w)
  have K := hide (bal (brefl w) (.cells #[.bool wr, .bool rg, .int .i64 pr, .bool sh, .bool fi, .bool be, .bool bu, .int .i64 en, .bool wb, .bool tr, .bool ow, .bool on, .bool ca, .bool ba, .bool di, .bool fu, .int .i64 mi] 23))
  have X := hide (CB.new w wr rg pr sh fi be bu en wb tr ow on ca ba di fu mi)
  go_enter Try.func7, Try.ntmps7
  go_upto_region 1 with fail
  obtain ⟨W0, hW0⟩ : ∃ W0, W0 = w.alloc (.cells #[.bool wr, .bool rg, .int .i64 pr, .bool sh, .bool fi, .bool be, .bool bu, .int .i64 en, .bool wb, .bool tr, .bool ow, .bool on, .bool ca, .bool ba, .bool di, .bool fu, .int .i64 mi] 23) := ⟨_, rfl⟩
  rw [← hW0] at X K
  obtain ⟨g2, hg2⟩ : ∃ g2, g2 = w.heap.size := ⟨_, rfl⟩
  rw [← hg2] at X
  rw [← hW0, ← hg2]
  clear hW0 hg2
  go_wp2_with (refine wpList_load_row rfl 23 _ rfl g2 rfl 23 _ (0, 0) _ X.out Try.underlying23 rfl (by kernel_rfl) ?_)
  refine (CP.out _).mono ?_
  rintro e w1 ⟨rfl, hb⟩
  replace K := hide (btrans K.out hb)
  replace X := hide (X.out.below hb)
  clear hb
  go_upto_region 2 with fail
  have M : Below w1.heap.size w1 (w1.alloc (.cells #[.int .i64 0, .int .i64 0, .int .i64 0, .int .i64 0, .int .i64 0] 28)) := bal (brefl w1) _
  replace K := hide (btrans K.out M)
  replace X := hide (X.out.below M)
  have Y := hide (show PB (w1.alloc (.cells #[.int .i64 0, .int .i64 0, .int .i64 0, .int .i64 0, .int .i64 0] 28)) w1.heap.size ⟨0, 0, 0, 0, 0⟩ from Box.new w1 28 _)
  obtain ⟨g3, hg3⟩ : ∃ q, q = w1.heap.size := ⟨_, rfl⟩
  rw [← hg3] at Y
  rw [← hg3]
  clear hg3
  generalize w1.alloc (.cells #[.int .i64 0, .int .i64 0, .int .i64 0, .int .i64 0, .int .i64 0] 28) = v1 at *
  clear M
  obtain ⟨p0, p1, p2, p3, p4⟩ := Y.out.cells
  obtain ⟨x0, x1, x2, x3, x4, x5, x6, x7, x8, x9, x10, x11, x12, x13, x14, x15, x16⟩ := X.out.cells
  go_wp2_with fail
  refine (AWK.out _).mono ?_
  rintro e w9 ⟨rfl, hb⟩
  replace K := hide (btrans K.out hb)
  clear hb
  go_wp2
  go_ret
  exact ⟨rfl, K.out⟩
set_option maxRecDepth 100000 in
set_option maxHeartbeats 16000000 in
theorem needs_4 (wr rg : Bool) (pr : Int) (sh fi be bu : Bool) (en : Int) (wb tr ow on ca ba di fu : Bool) (mi : Int) (w : World) (CP : Hid (∀ w, Calls Try.prog 13 #[.agg #[.bool wr, .bool rg, .int .i64 pr, .bool sh, .bool fi, .bool be, .bool bu, .int .i64 en, .bool wb, .bool tr, .bool ow, .bool on, .bool ca, .bool ba, .bool di, .bool fu, .int .i64 mi]] w fun e w' => e = .returned (.tuple #[.agg #[.int .i64 2, .int .i64 0, .int .i64 4, .int .i64 0, .int .i64 0], .int .i64 0]) ∧ Below w.heap.size w w')) : Calls Try.prog 7 #[.agg #[.bool wr, .bool rg, .int .i64 pr, .bool sh, .bool fi, .bool be, .bool bu, .int .i64 en, .bool wb, .bool tr, .bool ow, .bool on, .bool ca, .bool ba, .bool di, .bool fu, .int .i64 mi]] w fun e w' => e = .returned (.bool true) ∧ Below w.heap.size w w' := by
  have AWK := hide (fun w => awake_any w)
  have K := hide (bal (brefl w) (.cells #[.bool wr, .bool rg, .int .i64 pr, .bool sh, .bool fi, .bool be, .bool bu, .int .i64 en, .bool wb, .bool tr, .bool ow, .bool on, .bool ca, .bool ba, .bool di, .bool fu, .int .i64 mi] 23))
  have X := hide (CB.new w wr rg pr sh fi be bu en wb tr ow on ca ba di fu mi)
  go_enter Try.func7, Try.ntmps7
  go_upto_region 1 with fail
  obtain ⟨W0, hW0⟩ : ∃ W0, W0 = w.alloc (.cells #[.bool wr, .bool rg, .int .i64 pr, .bool sh, .bool fi, .bool be, .bool bu, .int .i64 en, .bool wb, .bool tr, .bool ow, .bool on, .bool ca, .bool ba, .bool di, .bool fu, .int .i64 mi] 23) := ⟨_, rfl⟩
  rw [← hW0] at X K
  obtain ⟨g2, hg2⟩ : ∃ g2, g2 = w.heap.size := ⟨_, rfl⟩
  rw [← hg2] at X
  rw [← hW0, ← hg2]
  clear hW0 hg2
  go_wp2_with (refine wpList_load_row rfl 23 _ rfl g2 rfl 23 _ (0, 0) _ X.out Try.underlying23 rfl (by kernel_rfl) ?_)
  refine (CP.out _).mono ?_
  rintro e w1 ⟨rfl, hb⟩
  replace K := hide (btrans K.out hb)
  replace X := hide (X.out.below hb)
  clear hb
  go_upto_region 2 with fail
  have M : Below w1.heap.size w1 (w1.alloc (.cells #[.int .i64 2, .int .i64 0, .int .i64 4, .int .i64 0, .int .i64 0] 28)) := bal (brefl w1) _
  replace K := hide (btrans K.out M)
  replace X := hide (X.out.below M)
  have Y := hide (show PB (w1.alloc (.cells #[.int .i64 2, .int .i64 0, .int .i64 4, .int .i64 0, .int .i64 0] 28)) w1.heap.size ⟨2, 0, 4, 0, 0⟩ from Box.new w1 28 _)
  obtain ⟨g3, hg3⟩ : ∃ q, q = w1.heap.size := ⟨_, rfl⟩
  rw [← hg3] at Y
  rw [← hg3]
  clear hg3
  generalize w1.alloc (.cells #[.int .i64 2, .int .i64 0, .int .i64 4, .int .i64 0, .int .i64 0] 28) = v1 at *
  clear M
  obtain ⟨p0, p1, p2, p3, p4⟩ := Y.out.cells
  obtain ⟨x0, x1, x2, x3, x4, x5, x6, x7, x8, x9, x10, x11, x12, x13, x14, x15, x16⟩ := X.out.cells
  go_wp2_with fail
  refine (AWK.out _).mono ?_
  rintro e w9 ⟨rfl, hb⟩
  replace K := hide (btrans K.out hb)
  clear hb
  go_wp2
  go_ret
  exact ⟨rfl, K.out⟩
set_option maxRecDepth 100000 in
set_option maxHeartbeats 16000000 in
theorem needs_5 (wr rg : Bool) (pr : Int) (sh fi be bu : Bool) (en : Int) (wb tr ow on ca ba di fu : Bool) (mi : Int) (w : World) (CP : Hid (∀ w, Calls Try.prog 13 #[.agg #[.bool wr, .bool rg, .int .i64 pr, .bool sh, .bool fi, .bool be, .bool bu, .int .i64 en, .bool wb, .bool tr, .bool ow, .bool on, .bool ca, .bool ba, .bool di, .bool fu, .int .i64 mi]] w fun e w' => e = .returned (.tuple #[.agg #[.int .i64 2, .int .i64 0, .int .i64 3, .int .i64 0, .int .i64 0], .int .i64 0]) ∧ Below w.heap.size w w')) : Calls Try.prog 7 #[.agg #[.bool wr, .bool rg, .int .i64 pr, .bool sh, .bool fi, .bool be, .bool bu, .int .i64 en, .bool wb, .bool tr, .bool ow, .bool on, .bool ca, .bool ba, .bool di, .bool fu, .int .i64 mi]] w fun e w' => e = .returned (.bool true) ∧ Below w.heap.size w w' := by
  have AWK := hide (fun w => awake_any w)
  have K := hide (bal (brefl w) (.cells #[.bool wr, .bool rg, .int .i64 pr, .bool sh, .bool fi, .bool be, .bool bu, .int .i64 en, .bool wb, .bool tr, .bool ow, .bool on, .bool ca, .bool ba, .bool di, .bool fu, .int .i64 mi] 23))
  have X := hide (CB.new w wr rg pr sh fi be bu en wb tr ow on ca ba di fu mi)
  go_enter Try.func7, Try.ntmps7
  go_upto_region 1 with fail
  obtain ⟨W0, hW0⟩ : ∃ W0, W0 = w.alloc (.cells #[.bool wr, .bool rg, .int .i64 pr, .bool sh, .bool fi, .bool be, .bool bu, .int .i64 en, .bool wb, .bool tr, .bool ow, .bool on, .bool ca, .bool ba, .bool di, .bool fu, .int .i64 mi] 23) := ⟨_, rfl⟩
  rw [← hW0] at X K
  obtain ⟨g2, hg2⟩ : ∃ g2, g2 = w.heap.size := ⟨_, rfl⟩
  rw [← hg2] at X
  rw [← hW0, ← hg2]
  clear hW0 hg2
  go_wp2_with (refine wpList_load_row rfl 23 _ rfl g2 rfl 23 _ (0, 0) _ X.out Try.underlying23 rfl (by kernel_rfl) ?_)
  refine (CP.out _).mono ?_
  rintro e w1 ⟨rfl, hb⟩
  replace K := hide (btrans K.out hb)
  replace X := hide (X.out.below hb)
  clear hb
  go_upto_region 2 with fail
  have M : Below w1.heap.size w1 (w1.alloc (.cells #[.int .i64 2, .int .i64 0, .int .i64 3, .int .i64 0, .int .i64 0] 28)) := bal (brefl w1) _
  replace K := hide (btrans K.out M)
  replace X := hide (X.out.below M)
  have Y := hide (show PB (w1.alloc (.cells #[.int .i64 2, .int .i64 0, .int .i64 3, .int .i64 0, .int .i64 0] 28)) w1.heap.size ⟨2, 0, 3, 0, 0⟩ from Box.new w1 28 _)
  obtain ⟨g3, hg3⟩ : ∃ q, q = w1.heap.size := ⟨_, rfl⟩
  rw [← hg3] at Y
  rw [← hg3]
  clear hg3
  generalize w1.alloc (.cells #[.int .i64 2, .int .i64 0, .int .i64 3, .int .i64 0, .int .i64 0] 28) = v1 at *
  clear M
  obtain ⟨p0, p1, p2, p3, p4⟩ := Y.out.cells
  obtain ⟨x0, x1, x2, x3, x4, x5, x6, x7, x8, x9, x10, x11, x12, x13, x14, x15, x16⟩ := X.out.cells
  go_wp2_with fail
  refine (AWK.out _).mono ?_
  rintro e w9 ⟨rfl, hb⟩
  replace K := hide (btrans K.out hb)
  clear hb
  go_wp2
  go_ret
  exact ⟨rfl, K.out⟩
set_option maxRecDepth 100000 in
set_option maxHeartbeats 16000000 in
theorem needs_6 (wr rg : Bool) (pr : Int) (sh fi be bu : Bool) (en : Int) (wb tr ow on ca ba di fu : Bool) (mi : Int) (w : World) (CP : Hid (∀ w, Calls Try.prog 13 #[.agg #[.bool wr, .bool rg, .int .i64 pr, .bool sh, .bool fi, .bool be, .bool bu, .int .i64 en, .bool wb, .bool tr, .bool ow, .bool on, .bool ca, .bool ba, .bool di, .bool fu, .int .i64 mi]] w fun e w' => e = .returned (.tuple #[.agg #[.int .i64 8, .int .i64 0, .int .i64 0, .int .i64 0, .int .i64 0], .int .i64 0]) ∧ Below w.heap.size w w')) : Calls Try.prog 7 #[.agg #[.bool wr, .bool rg, .int .i64 pr, .bool sh, .bool fi, .bool be, .bool bu, .int .i64 en, .bool wb, .bool tr, .bool ow, .bool on, .bool ca, .bool ba, .bool di, .bool fu, .int .i64 mi]] w fun e w' => e = .returned (.bool true) ∧ Below w.heap.size w w' := by
  have AWK := hide (fun w => awake_any w)
  have K := hide (bal (brefl w) (.cells #[.bool wr, .bool rg, .int .i64 pr, .bool sh, .bool fi, .bool be, .bool bu, .int .i64 en, .bool wb, .bool tr, .bool ow, .bool on, .bool ca, .bool ba, .bool di, .bool fu, .int .i64 mi] 23))
  have X := hide (CB.new w wr rg pr sh fi be bu en wb tr ow on ca ba di fu mi)
  go_enter Try.func7, Try.ntmps7
  go_upto_region 1 with fail
  obtain ⟨W0, hW0⟩ : ∃ W0, W0 = w.alloc (.cells #[.bool wr, .bool rg, .int .i64 pr, .bool sh, .bool fi, .bool be, .bool bu, .int .i64 en, .bool wb, .bool tr, .bool ow, .bool on, .bool ca, .bool ba, .bool di, .bool fu, .int .i64 mi] 23) := ⟨_, rfl⟩
  rw [← hW0] at X K
  obtain ⟨g2, hg2⟩ : ∃ g2, g2 = w.heap.size := ⟨_, rfl⟩
  rw [← hg2] at X
  rw [← hW0, ← hg2]
  clear hW0 hg2
  go_wp2_with (refine wpList_load_row rfl 23 _ rfl g2 rfl 23 _ (0, 0) _ X.out Try.underlying23 rfl (by kernel_rfl) ?_)
  refine (CP.out _).mono ?_
  rintro e w1 ⟨rfl, hb⟩
  replace K := hide (btrans K.out hb)
  replace X := hide (X.out.below hb)
  clear hb
  go_upto_region 2 with fail
  have M : Below w1.heap.size w1 (w1.alloc (.cells #[.int .i64 8, .int .i64 0, .int .i64 0, .int .i64 0, .int .i64 0] 28)) := bal (brefl w1) _
  replace K := hide (btrans K.out M)
  replace X := hide (X.out.below M)
  have Y := hide (show PB (w1.alloc (.cells #[.int .i64 8, .int .i64 0, .int .i64 0, .int .i64 0, .int .i64 0] 28)) w1.heap.size ⟨8, 0, 0, 0, 0⟩ from Box.new w1 28 _)
  obtain ⟨g3, hg3⟩ : ∃ q, q = w1.heap.size := ⟨_, rfl⟩
  rw [← hg3] at Y
  rw [← hg3]
  clear hg3
  generalize w1.alloc (.cells #[.int .i64 8, .int .i64 0, .int .i64 0, .int .i64 0, .int .i64 0] 28) = v1 at *
  clear M
  obtain ⟨p0, p1, p2, p3, p4⟩ := Y.out.cells
  obtain ⟨x0, x1, x2, x3, x4, x5, x6, x7, x8, x9, x10, x11, x12, x13, x14, x15, x16⟩ := X.out.cells
  go_wp2_with fail
  refine (AWK.out _).mono ?_
  rintro e w9 ⟨rfl, hb⟩
  replace K := hide (btrans K.out hb)
  clear hb
  go_wp2
  go_ret
  exact ⟨rfl, K.out⟩
set_option maxRecDepth 100000 in
set_option maxHeartbeats 16000000 in
theorem needs_7 (wr rg : Bool) (pr : Int) (sh fi be bu : Bool) (en : Int) (wb tr ow on ca ba di fu : Bool) (mi : Int) (w : World) (CP : Hid (∀ w, Calls Try.prog 13 #[.agg #[.bool wr, .bool rg, .int .i64 pr, .bool sh, .bool fi, .bool be, .bool bu, .int .i64 en, .bool wb, .bool tr, .bool ow, .bool on, .bool ca, .bool ba, .bool di, .bool fu, .int .i64 mi]] w fun e w' => e = .returned (.tuple #[.agg #[.int .i64 9, .int .i64 0, .int .i64 0, .int .i64 0, .int .i64 1], .int .i64 0]) ∧ Below w.heap.size w w')) : Calls Try.prog 7 #[.agg #[.bool wr, .bool rg, .int .i64 pr, .bool sh, .bool fi, .bool be, .bool bu, .int .i64 en, .bool wb, .bool tr, .bool ow, .bool on, .bool ca, .bool ba, .bool di, .bool fu, .int .i64 mi]] w fun e w' => e = .returned (.bool true) ∧ Below w.heap.size w w' := by
  have AWK := hide (fun w => awake_any w)
  have K := hide (bal (brefl w) (.cells #[.bool wr, .bool rg, .int .i64 pr, .bool sh, .bool fi, .bool be, .bool bu, .int .i64 en, .bool wb, .bool tr, .bool ow, .bool on, .bool ca, .bool ba, .bool di, .bool fu, .int .i64 mi] 23))
  have X := hide (CB.new w wr rg pr sh fi be bu en wb tr ow on ca ba di fu mi)
  go_enter Try.func7, Try.ntmps7
  go_upto_region 1 with fail
  obtain ⟨W0, hW0⟩ : ∃ W0, W0 = w.alloc (.cells #[.bool wr, .bool rg, .int .i64 pr, .bool sh, .bool fi, .bool be, .bool bu, .int .i64 en, .bool wb, .bool tr, .bool ow, .bool on, .bool ca, .bool ba, .bool di, .bool fu, .int .i64 mi] 23) := ⟨_, rfl⟩
  rw [← hW0] at X K
  obtain ⟨g2, hg2⟩ : ∃ g2, g2 = w.heap.size := ⟨_, rfl⟩
  rw [← hg2] at X
  rw [← hW0, ← hg2]
  clear hW0 hg2
  go_wp2_with (refine wpList_load_row rfl 23 _ rfl g2 rfl 23 _ (0, 0) _ X.out Try.underlying23 rfl (by kernel_rfl) ?_)
  refine (CP.out _).mono ?_
  rintro e w1 ⟨rfl, hb⟩
  replace K := hide (btrans K.out hb)
  replace X := hide (X.out.below hb)
  clear hb
  go_upto_region 2 with fail
  have M : Below w1.heap.size w1 (w1.alloc (.cells #[.int .i64 9, .int .i64 0, .int .i64 0, .int .i64 0, .int .i64 1] 28)) := bal (brefl w1) _
  replace K := hide (btrans K.out M)
  replace X := hide (X.out.below M)
  have Y := hide (show PB (w1.alloc (.cells #[.int .i64 9, .int .i64 0, .int .i64 0, .int .i64 0, .int .i64 1] 28)) w1.heap.size ⟨9, 0, 0, 0, 1⟩ from Box.new w1 28 _)
  obtain ⟨g3, hg3⟩ : ∃ q, q = w1.heap.size := ⟨_, rfl⟩
  rw [← hg3] at Y
  rw [← hg3]
  clear hg3
  generalize w1.alloc (.cells #[.int .i64 9, .int .i64 0, .int .i64 0, .int .i64 0, .int .i64 1] 28) = v1 at *
  clear M
  obtain ⟨p0, p1, p2, p3, p4⟩ := Y.out.cells
  obtain ⟨x0, x1, x2, x3, x4, x5, x6, x7, x8, x9, x10, x11, x12, x13, x14, x15, x16⟩ := X.out.cells
  go_wp2_with fail
  refine (AWK.out _).mono ?_
  rintro e w9 ⟨rfl, hb⟩
  replace K := hide (btrans K.out hb)
  clear hb
  go_wp2
  go_ret
  exact ⟨rfl, K.out⟩
set_option maxRecDepth 100000 in
set_option maxHeartbeats 16000000 in
theorem needs_8 (wr rg : Bool) (pr : Int) (sh fi be bu : Bool) (en : Int) (wb tr ow on ca ba di fu : Bool) (mi : Int) (w : World) (CP : Hid (∀ w, Calls Try.prog 13 #[.agg #[.bool wr, .bool rg, .int .i64 pr, .bool sh, .bool fi, .bool be, .bool bu, .int .i64 en, .bool wb, .bool tr, .bool ow, .bool on, .bool ca, .bool ba, .bool di, .bool fu, .int .i64 mi]] w fun e w' => e = .returned (.tuple #[.agg #[.int .i64 2, .int .i64 0, .int .i64 5, .int .i64 0, .int .i64 0], .int .i64 0]) ∧ Below w.heap.size w w')) : Calls Try.prog 7 #[.agg #[.bool wr, .bool rg, .int .i64 pr, .bool sh, .bool fi, .bool be, .bool bu, .int .i64 en, .bool wb, .bool tr, .bool ow, .bool on, .bool ca, .bool ba, .bool di, .bool fu, .int .i64 mi]] w fun e w' => e = .returned (.bool true) ∧ Below w.heap.size w w' := by
  have AWK := hide (fun w => awake_any w)
  have K := hide (bal (brefl w) (.cells #[.bool wr, .bool rg, .int .i64 pr, .bool sh, .bool fi, .bool be, .bool bu, .int .i64 en, .bool wb, .bool tr, .bool ow, .bool on, .bool ca, .bool ba, .bool di, .bool fu, .int .i64 mi] 23))
  have X := hide (CB.new w wr rg pr sh fi be bu en wb tr ow on ca ba di fu mi)
  go_enter Try.func7, Try.ntmps7
  go_upto_region 1 with fail
  obtain ⟨W0, hW0⟩ : ∃ W0, W0 = w.alloc (.cells #[.bool wr, .bool rg, .int .i64 pr, .bool sh, .bool fi, .bool be, .bool bu, .int .i64 en, .bool wb, .bool tr, .bool ow, .bool on, .bool ca, .bool ba, .bool di, .bool fu, .int .i64 mi] 23) := ⟨_, rfl⟩
  rw [← hW0] at X K
  obtain ⟨g2, hg2⟩ : ∃ g2, g2 = w.heap.size := ⟨_, rfl⟩
  rw [← hg2] at X
  rw [← hW0, ← hg2]
  clear hW0 hg2
  go_wp2_with (refine wpList_load_row rfl 23 _ rfl g2 rfl 23 _ (0, 0) _ X.out Try.underlying23 rfl (by kernel_rfl) ?_)
  refine (CP.out _).mono ?_
  rintro e w1 ⟨rfl, hb⟩
  replace K := hide (btrans K.out hb)
  replace X := hide (X.out.below hb)
  clear hb
  go_upto_region 2 with fail
  have M : Below w1.heap.size w1 (w1.alloc (.cells #[.int .i64 2, .int .i64 0, .int .i64 5, .int .i64 0, .int .i64 0] 28)) := bal (brefl w1) _
  replace K := hide (btrans K.out M)
  replace X := hide (X.out.below M)
  have Y := hide (show PB (w1.alloc (.cells #[.int .i64 2, .int .i64 0, .int .i64 5, .int .i64 0, .int .i64 0] 28)) w1.heap.size ⟨2, 0, 5, 0, 0⟩ from Box.new w1 28 _)
  obtain ⟨g3, hg3⟩ : ∃ q, q = w1.heap.size := ⟨_, rfl⟩
  rw [← hg3] at Y
  rw [← hg3]
  clear hg3
  generalize w1.alloc (.cells #[.int .i64 2, .int .i64 0, .int .i64 5, .int .i64 0, .int .i64 0] 28) = v1 at *
  clear M
  obtain ⟨p0, p1, p2, p3, p4⟩ := Y.out.cells
  obtain ⟨x0, x1, x2, x3, x4, x5, x6, x7, x8, x9, x10, x11, x12, x13, x14, x15, x16⟩ := X.out.cells
  go_wp2_with fail
  refine (AWK.out _).mono ?_
  rintro e w9 ⟨rfl, hb⟩
  replace K := hide (btrans K.out hb)
  clear hb
  go_wp2
  go_ret
  exact ⟨rfl, K.out⟩
set_option maxRecDepth 100000 in
set_option maxHeartbeats 16000000 in
theorem needs_9 (wr rg : Bool) (pr : Int) (sh fi be bu : Bool) (en : Int) (wb tr ow on ca ba di fu : Bool) (mi : Int) (w : World) (CP : Hid (∀ w, Calls Try.prog 13 #[.agg #[.bool wr, .bool rg, .int .i64 pr, .bool sh, .bool fi, .bool be, .bool bu, .int .i64 en, .bool wb, .bool tr, .bool ow, .bool on, .bool ca, .bool ba, .bool di, .bool fu, .int .i64 mi]] w fun e w' => e = .returned (.tuple #[.agg #[.int .i64 7, .int .i64 0, .int .i64 0, .int .i64 0, .int .i64 0], .int .i64 0]) ∧ Below w.heap.size w w')) : Calls Try.prog 7 #[.agg #[.bool wr, .bool rg, .int .i64 pr, .bool sh, .bool fi, .bool be, .bool bu, .int .i64 en, .bool wb, .bool tr, .bool ow, .bool on, .bool ca, .bool ba, .bool di, .bool fu, .int .i64 mi]] w fun e w' => e = .returned (.bool true) ∧ Below w.heap.size w w' := by
  have AWK := hide (fun w => awake_any w)
  have K := hide (bal (brefl w) (.cells #[.bool wr, .bool rg, .int .i64 pr, .bool sh, .bool fi, .bool be, .bool bu, .int .i64 en, .bool wb, .bool tr, .bool ow, .bool on, .bool ca, .bool ba, .bool di, .bool fu, .int .i64 mi] 23))
  have X := hide (CB.new w wr rg pr sh fi be bu en wb tr ow on ca ba di fu mi)
  go_enter Try.func7, Try.ntmps7
  go_upto_region 1 with fail
  obtain ⟨W0, hW0⟩ : ∃ W0, W0 = w.alloc (.cells #[.bool wr, .bool rg, .int .i64 pr, .bool sh, .bool fi, .bool be, .bool bu, .int .i64 en, .bool wb, .bool tr, .bool ow, .bool on, .bool ca, .bool ba, .bool di, .bool fu, .int .i64 mi] 23) := ⟨_, rfl⟩
  rw [← hW0] at X K
  obtain ⟨g2, hg2⟩ : ∃ g2, g2 = w.heap.size := ⟨_, rfl⟩
  rw [← hg2] at X
  rw [← hW0, ← hg2]
  clear hW0 hg2
  go_wp2_with (refine wpList_load_row rfl 23 _ rfl g2 rfl 23 _ (0, 0) _ X.out Try.underlying23 rfl (by kernel_rfl) ?_)
  refine (CP.out _).mono ?_
  rintro e w1 ⟨rfl, hb⟩
  replace K := hide (btrans K.out hb)
  replace X := hide (X.out.below hb)
  clear hb
  go_upto_region 2 with fail
  have M : Below w1.heap.size w1 (w1.alloc (.cells #[.int .i64 7, .int .i64 0, .int .i64 0, .int .i64 0, .int .i64 0] 28)) := bal (brefl w1) _
  replace K := hide (btrans K.out M)
  replace X := hide (X.out.below M)
  have Y := hide (show PB (w1.alloc (.cells #[.int .i64 7, .int .i64 0, .int .i64 0, .int .i64 0, .int .i64 0] 28)) w1.heap.size ⟨7, 0, 0, 0, 0⟩ from Box.new w1 28 _)
  obtain ⟨g3, hg3⟩ : ∃ q, q = w1.heap.size := ⟨_, rfl⟩
  rw [← hg3] at Y
  rw [← hg3]
  clear hg3
  generalize w1.alloc (.cells #[.int .i64 7, .int .i64 0, .int .i64 0, .int .i64 0, .int .i64 0] 28) = v1 at *
  clear M
  obtain ⟨p0, p1, p2, p3, p4⟩ := Y.out.cells
  obtain ⟨x0, x1, x2, x3, x4, x5, x6, x7, x8, x9, x10, x11, x12, x13, x14, x15, x16⟩ := X.out.cells
  go_wp2_with fail
  refine (AWK.out _).mono ?_
  rintro e w9 ⟨rfl, hb⟩
  replace K := hide (btrans K.out hb)
  clear hb
  go_wp2
  go_ret
  exact ⟨rfl, K.out⟩
set_option maxRecDepth 100000 in
set_option maxHeartbeats 16000000 in
theorem needs_10 (wr rg : Bool) (pr : Int) (sh fi be bu : Bool) (en : Int) (wb tr ow on ca ba di fu : Bool) (mi : Int) (w : World) (CP : Hid (∀ w, Calls Try.prog 13 #[.agg #[.bool wr, .bool rg, .int .i64 pr, .bool sh, .bool fi, .bool be, .bool bu, .int .i64 en, .bool wb, .bool tr, .bool ow, .bool on, .bool ca, .bool ba, .bool di, .bool fu, .int .i64 mi]] w fun e w' => e = .returned (.tuple #[.agg #[.int .i64 10, .int .i64 0, .int .i64 0, .int .i64 0, .int .i64 0], .int .i64 0]) ∧ Below w.heap.size w w')) : Calls Try.prog 7 #[.agg #[.bool wr, .bool rg, .int .i64 pr, .bool sh, .bool fi, .bool be, .bool bu, .int .i64 en, .bool wb, .bool tr, .bool ow, .bool on, .bool ca, .bool ba, .bool di, .bool fu, .int .i64 mi]] w fun e w' => e = .returned (.bool true) ∧ Below w.heap.size w w' := by
  have AWK := hide (fun w => awake_any w)
  have K := hide (bal (brefl w) (.cells #[.bool wr, .bool rg, .int .i64 pr, .bool sh, .bool fi, .bool be, .bool bu, .int .i64 en, .bool wb, .bool tr, .bool ow, .bool on, .bool ca, .bool ba, .bool di, .bool fu, .int .i64 mi] 23))
  have X := hide (CB.new w wr rg pr sh fi be bu en wb tr ow on ca ba di fu mi)
  go_enter Try.func7, Try.ntmps7
  go_upto_region 1 with fail
  obtain ⟨W0, hW0⟩ : ∃ W0, W0 = w.alloc (.cells #[.bool wr, .bool rg, .int .i64 pr, .bool sh, .bool fi, .bool be, .bool bu, .int .i64 en, .bool wb, .bool tr, .bool ow, .bool on, .bool ca, .bool ba, .bool di, .bool fu, .int .i64 mi] 23) := ⟨_, rfl⟩
  rw [← hW0] at X K
  obtain ⟨g2, hg2⟩ : ∃ g2, g2 = w.heap.size := ⟨_, rfl⟩
  rw [← hg2] at X
  rw [← hW0, ← hg2]
  clear hW0 hg2
  go_wp2_with (refine wpList_load_row rfl 23 _ rfl g2 rfl 23 _ (0, 0) _ X.out Try.underlying23 rfl (by kernel_rfl) ?_)
  refine (CP.out _).mono ?_
  rintro e w1 ⟨rfl, hb⟩
  replace K := hide (btrans K.out hb)
  replace X := hide (X.out.below hb)
  clear hb
  go_upto_region 2 with fail
  have M : Below w1.heap.size w1 (w1.alloc (.cells #[.int .i64 10, .int .i64 0, .int .i64 0, .int .i64 0, .int .i64 0] 28)) := bal (brefl w1) _
  replace K := hide (btrans K.out M)
  replace X := hide (X.out.below M)
  have Y := hide (show PB (w1.alloc (.cells #[.int .i64 10, .int .i64 0, .int .i64 0, .int .i64 0, .int .i64 0] 28)) w1.heap.size ⟨10, 0, 0, 0, 0⟩ from Box.new w1 28 _)
  obtain ⟨g3, hg3⟩ : ∃ q, q = w1.heap.size := ⟨_, rfl⟩
  rw [← hg3] at Y
  rw [← hg3]
  clear hg3
  generalize w1.alloc (.cells #[.int .i64 10, .int .i64 0, .int .i64 0, .int .i64 0, .int .i64 0] 28) = v1 at *
  clear M
  obtain ⟨p0, p1, p2, p3, p4⟩ := Y.out.cells
  obtain ⟨x0, x1, x2, x3, x4, x5, x6, x7, x8, x9, x10, x11, x12, x13, x14, x15, x16⟩ := X.out.cells
  go_wp2_with fail
  refine (AWK.out _).mono ?_
  rintro e w9 ⟨rfl, hb⟩
  replace K := hide (btrans K.out hb)
  clear hb
  go_wp2
  go_ret
  exact ⟨rfl, K.out⟩
set_option maxRecDepth 100000 in
set_option maxHeartbeats 16000000 in
theorem needs_11 (wr rg : Bool) (pr : Int) (sh fi be bu : Bool) (en : Int) (wb tr ow on ca ba di fu : Bool) (mi : Int) (w : World) (CP : Hid (∀ w, Calls Try.prog 13 #[.agg #[.bool wr, .bool rg, .int .i64 pr, .bool sh, .bool fi, .bool be, .bool bu, .int .i64 en, .bool wb, .bool tr, .bool ow, .bool on, .bool ca, .bool ba, .bool di, .bool fu, .int .i64 mi]] w fun e w' => e = .returned (.tuple #[.agg #[.int .i64 11, .int .i64 0, .int .i64 0, .int .i64 0, .int .i64 1], .int .i64 0]) ∧ Below w.heap.size w w')) : Calls Try.prog 7 #[.agg #[.bool wr, .bool rg, .int .i64 pr, .bool sh, .bool fi, .bool be, .bool bu, .int .i64 en, .bool wb, .bool tr, .bool ow, .bool on, .bool ca, .bool ba, .bool di, .bool fu, .int .i64 mi]] w fun e w' => e = .returned (.bool true) ∧ Below w.heap.size w w' := by
  have AWK := hide (fun w => awake_any w)
  have K := hide (bal (brefl w) (.cells #[.bool wr, .bool rg, .int .i64 pr, .bool sh, .bool fi, .bool be, .bool bu, .int .i64 en, .bool wb, .bool tr, .bool ow, .bool on, .bool ca, .bool ba, .bool di, .bool fu, .int .i64 mi] 23))
  have X := hide (CB.new w wr rg pr sh fi be bu en wb tr ow on ca ba di fu mi)
  go_enter Try.func7, Try.ntmps7
  go_upto_region 1 with fail
  obtain ⟨W0, hW0⟩ : ∃ W0, W0 = w.alloc (.cells #[.bool wr, .bool rg, .int .i64 pr, .bool sh, .bool fi, .bool be, .bool bu, .int .i64 en, .bool wb, .bool tr, .bool ow, .bool on, .bool ca, .bool ba, .bool di, .bool fu, .int .i64 mi] 23) := ⟨_, rfl⟩
  rw [← hW0] at X K
  obtain ⟨g2, hg2⟩ : ∃ g2, g2 = w.heap.size := ⟨_, rfl⟩
  rw [← hg2] at X
  rw [← hW0, ← hg2]
  clear hW0 hg2
  go_wp2_with (refine wpList_load_row rfl 23 _ rfl g2 rfl 23 _ (0, 0) _ X.out Try.underlying23 rfl (by kernel_rfl) ?_)
  refine (CP.out _).mono ?_
  rintro e w1 ⟨rfl, hb⟩
  replace K := hide (btrans K.out hb)
  replace X := hide (X.out.below hb)
  clear hb
  go_upto_region 2 with fail
  have M : Below w1.heap.size w1 (w1.alloc (.cells #[.int .i64 11, .int .i64 0, .int .i64 0, .int .i64 0, .int .i64 1] 28)) := bal (brefl w1) _
  replace K := hide (btrans K.out M)
  replace X := hide (X.out.below M)
  have Y := hide (show PB (w1.alloc (.cells #[.int .i64 11, .int .i64 0, .int .i64 0, .int .i64 0, .int .i64 1] 28)) w1.heap.size ⟨11, 0, 0, 0, 1⟩ from Box.new w1 28 _)
  obtain ⟨g3, hg3⟩ : ∃ q, q = w1.heap.size := ⟨_, rfl⟩
  rw [← hg3] at Y
  rw [← hg3]
  clear hg3
  generalize w1.alloc (.cells #[.int .i64 11, .int .i64 0, .int .i64 0, .int .i64 0, .int .i64 1] 28) = v1 at *
  clear M
  obtain ⟨p0, p1, p2, p3, p4⟩ := Y.out.cells
  obtain ⟨x0, x1, x2, x3, x4, x5, x6, x7, x8, x9, x10, x11, x12, x13, x14, x15, x16⟩ := X.out.cells
  go_wp2_with fail
  refine (AWK.out _).mono ?_
  rintro e w9 ⟨rfl, hb⟩
  replace K := hide (btrans K.out hb)
  clear hb
  go_wp2
  go_ret
  exact ⟨rfl, K.out⟩
set_option maxRecDepth 100000 in
set_option maxHeartbeats 16000000 in
theorem needs_12 (wr rg : Bool) (pr : Int) (sh fi be bu : Bool) (en : Int) (wb tr ow on ca ba di fu : Bool) (mi : Int) (w : World) (CP : Hid (∀ w, Calls Try.prog 13 #[.agg #[.bool wr, .bool rg, .int .i64 pr, .bool sh, .bool fi, .bool be, .bool bu, .int .i64 en, .bool wb, .bool tr, .bool ow, .bool on, .bool ca, .bool ba, .bool di, .bool fu, .int .i64 mi]] w fun e w' => e = .returned (.tuple #[.agg #[.int .i64 3, .int .i64 0, .int .i64 0, .int .i64 mi, .int .i64 1], .int .i64 0]) ∧ Below w.heap.size w w')) : Calls Try.prog 7 #[.agg #[.bool wr, .bool rg, .int .i64 pr, .bool sh, .bool fi, .bool be, .bool bu, .int .i64 en, .bool wb, .bool tr, .bool ow, .bool on, .bool ca, .bool ba, .bool di, .bool fu, .int .i64 mi]] w fun e w' => e = .returned (.bool true) ∧ Below w.heap.size w w' := by
  have AWK := hide (fun w => awake_any w)
  have K := hide (bal (brefl w) (.cells #[.bool wr, .bool rg, .int .i64 pr, .bool sh, .bool fi, .bool be, .bool bu, .int .i64 en, .bool wb, .bool tr, .bool ow, .bool on, .bool ca, .bool ba, .bool di, .bool fu, .int .i64 mi] 23))
  have X := hide (CB.new w wr rg pr sh fi be bu en wb tr ow on ca ba di fu mi)
  go_enter Try.func7, Try.ntmps7
  go_upto_region 1 with fail
  obtain ⟨W0, hW0⟩ : ∃ W0, W0 = w.alloc (.cells #[.bool wr, .bool rg, .int .i64 pr, .bool sh, .bool fi, .bool be, .bool bu, .int .i64 en, .bool wb, .bool tr, .bool ow, .bool on, .bool ca, .bool ba, .bool di, .bool fu, .int .i64 mi] 23) := ⟨_, rfl⟩
  rw [← hW0] at X K
  obtain ⟨g2, hg2⟩ : ∃ g2, g2 = w.heap.size := ⟨_, rfl⟩
  rw [← hg2] at X
  rw [← hW0, ← hg2]
  clear hW0 hg2
  go_wp2_with (refine wpList_load_row rfl 23 _ rfl g2 rfl 23 _ (0, 0) _ X.out Try.underlying23 rfl (by kernel_rfl) ?_)
  refine (CP.out _).mono ?_
  rintro e w1 ⟨rfl, hb⟩
  replace K := hide (btrans K.out hb)
  replace X := hide (X.out.below hb)
  clear hb
  go_upto_region 2 with fail
  have M : Below w1.heap.size w1 (w1.alloc (.cells #[.int .i64 3, .int .i64 0, .int .i64 0, .int .i64 mi, .int .i64 1] 28)) := bal (brefl w1) _
  replace K := hide (btrans K.out M)
  replace X := hide (X.out.below M)
  have Y := hide (show PB (w1.alloc (.cells #[.int .i64 3, .int .i64 0, .int .i64 0, .int .i64 mi, .int .i64 1] 28)) w1.heap.size ⟨3, 0, 0, mi, 1⟩ from Box.new w1 28 _)
  obtain ⟨g3, hg3⟩ : ∃ q, q = w1.heap.size := ⟨_, rfl⟩
  rw [← hg3] at Y
  rw [← hg3]
  clear hg3
  generalize w1.alloc (.cells #[.int .i64 3, .int .i64 0, .int .i64 0, .int .i64 mi, .int .i64 1] 28) = v1 at *
  clear M
  obtain ⟨p0, p1, p2, p3, p4⟩ := Y.out.cells
  obtain ⟨x0, x1, x2, x3, x4, x5, x6, x7, x8, x9, x10, x11, x12, x13, x14, x15, x16⟩ := X.out.cells
  by_cases hm : mi = 0
  · subst hm
    go_wp2_with fail
    refine (AWK.out _).mono ?_
    rintro e w9 ⟨rfl, hb⟩
    replace K := hide (btrans K.out hb)
    clear hb
    go_wp2
    go_ret
    exact ⟨rfl, K.out⟩
  · have hb : (mi != 0) = true := bne_iff_ne.2 hm
    go_wp2_with fail
    refine (AWK.out _).mono ?_
    rintro e w9 ⟨rfl, hb⟩
    replace K := hide (btrans K.out hb)
    clear hb
    go_wp2
    go_ret
    exact ⟨rfl, K.out⟩
set_option maxRecDepth 100000 in
set_option maxHeartbeats 16000000 in
theorem needs_13 (wr rg : Bool) (pr : Int) (sh fi be bu : Bool) (en : Int) (wb tr ow on ca ba di fu : Bool) (mi : Int) (w : World) (CP : Hid (∀ w, Calls Try.prog 13 #[.agg #[.bool wr, .bool rg, .int .i64 pr, .bool sh, .bool fi, .bool be, .bool bu, .int .i64 en, .bool wb, .bool tr, .bool ow, .bool on, .bool ca, .bool ba, .bool di, .bool fu, .int .i64 mi]] w fun e w' => e = .returned (.tuple #[.agg #[.int .i64 6, .int .i64 0, .int .i64 0, .int .i64 mi, .int .i64 0], .int .i64 0]) ∧ Below w.heap.size w w')) : Calls Try.prog 7 #[.agg #[.bool wr, .bool rg, .int .i64 pr, .bool sh, .bool fi, .bool be, .bool bu, .int .i64 en, .bool wb, .bool tr, .bool ow, .bool on, .bool ca, .bool ba, .bool di, .bool fu, .int .i64 mi]] w fun e w' => e = .returned (.bool true) ∧ Below w.heap.size w w' := by
  have AWK := hide (fun w => awake_any w)
  have K := hide (bal (brefl w) (.cells #[.bool wr, .bool rg, .int .i64 pr, .bool sh, .bool fi, .bool be, .bool bu, .int .i64 en, .bool wb, .bool tr, .bool ow, .bool on, .bool ca, .bool ba, .bool di, .bool fu, .int .i64 mi] 23))
  have X := hide (CB.new w wr rg pr sh fi be bu en wb tr ow on ca ba di fu mi)
  go_enter Try.func7, Try.ntmps7
  go_upto_region 1 with fail
  obtain ⟨W0, hW0⟩ : ∃ W0, W0 = w.alloc (.cells #[.bool wr, .bool rg, .int .i64 pr, .bool sh, .bool fi, .bool be, .bool bu, .int .i64 en, .bool wb, .bool tr, .bool ow, .bool on, .bool ca, .bool ba, .bool di, .bool fu, .int .i64 mi] 23) := ⟨_, rfl⟩
  rw [← hW0] at X K
  obtain ⟨g2, hg2⟩ : ∃ g2, g2 = w.heap.size := ⟨_, rfl⟩
  rw [← hg2] at X
  rw [← hW0, ← hg2]
  clear hW0 hg2
  go_wp2_with (refine wpList_load_row rfl 23 _ rfl g2 rfl 23 _ (0, 0) _ X.out Try.underlying23 rfl (by kernel_rfl) ?_)
  refine (CP.out _).mono ?_
  rintro e w1 ⟨rfl, hb⟩
  replace K := hide (btrans K.out hb)
  replace X := hide (X.out.below hb)
  clear hb
  go_upto_region 2 with fail
  have M : Below w1.heap.size w1 (w1.alloc (.cells #[.int .i64 6, .int .i64 0, .int .i64 0, .int .i64 mi, .int .i64 0] 28)) := bal (brefl w1) _
  replace K := hide (btrans K.out M)
  replace X := hide (X.out.below M)
  have Y := hide (show PB (w1.alloc (.cells #[.int .i64 6, .int .i64 0, .int .i64 0, .int .i64 mi, .int .i64 0] 28)) w1.heap.size ⟨6, 0, 0, mi, 0⟩ from Box.new w1 28 _)
  obtain ⟨g3, hg3⟩ : ∃ q, q = w1.heap.size := ⟨_, rfl⟩
  rw [← hg3] at Y
  rw [← hg3]
  clear hg3
  generalize w1.alloc (.cells #[.int .i64 6, .int .i64 0, .int .i64 0, .int .i64 mi, .int .i64 0] 28) = v1 at *
  clear M
  obtain ⟨p0, p1, p2, p3, p4⟩ := Y.out.cells
  obtain ⟨x0, x1, x2, x3, x4, x5, x6, x7, x8, x9, x10, x11, x12, x13, x14, x15, x16⟩ := X.out.cells
  by_cases hm : mi = 0
  · subst hm
    go_wp2_with fail
    refine (AWK.out _).mono ?_
    rintro e w9 ⟨rfl, hb⟩
    replace K := hide (btrans K.out hb)
    clear hb
    go_wp2
    go_ret
    exact ⟨rfl, K.out⟩
  · have hb : (mi != 0) = true := bne_iff_ne.2 hm
    go_wp2_with fail
    refine (AWK.out _).mono ?_
    rintro e w9 ⟨rfl, hb⟩
    replace K := hide (btrans K.out hb)
    clear hb
    go_wp2
    go_ret
    exact ⟨rfl, K.out⟩
set_option maxRecDepth 100000 in
set_option maxHeartbeats 16000000 in
theorem needs_14 (wr rg : Bool) (pr : Int) (sh fi be bu : Bool) (en : Int) (wb tr ow on ca ba di fu : Bool) (mi : Int) (w : World) (CP : Hid (∀ w, Calls Try.prog 13 #[.agg #[.bool wr, .bool rg, .int .i64 pr, .bool sh, .bool fi, .bool be, .bool bu, .int .i64 en, .bool wb, .bool tr, .bool ow, .bool on, .bool ca, .bool ba, .bool di, .bool fu, .int .i64 mi]] w fun e w' => e = .returned (.tuple #[.agg #[.int .i64 4, .int .i64 0, .int .i64 0, .int .i64 mi, .int .i64 1], .int .i64 0]) ∧ Below w.heap.size w w')) : Calls Try.prog 7 #[.agg #[.bool wr, .bool rg, .int .i64 pr, .bool sh, .bool fi, .bool be, .bool bu, .int .i64 en, .bool wb, .bool tr, .bool ow, .bool on, .bool ca, .bool ba, .bool di, .bool fu, .int .i64 mi]] w fun e w' => e = .returned (.bool true) ∧ Below w.heap.size w w' := by
  have AWK := hide (fun w => awake_any w)
  have K := hide (bal (brefl w) (.cells #[.bool wr, .bool rg, .int .i64 pr, .bool sh, .bool fi, .bool be, .bool bu, .int .i64 en, .bool wb, .bool tr, .bool ow, .bool on, .bool ca, .bool ba, .bool di, .bool fu, .int .i64 mi] 23))
  have X := hide (CB.new w wr rg pr sh fi be bu en wb tr ow on ca ba di fu mi)
  go_enter Try.func7, Try.ntmps7
  go_upto_region 1 with fail
  obtain ⟨W0, hW0⟩ : ∃ W0, W0 = w.alloc (.cells #[.bool wr, .bool rg, .int .i64 pr, .bool sh, .bool fi, .bool be, .bool bu, .int .i64 en, .bool wb, .bool tr, .bool ow, .bool on, .bool ca, .bool ba, .bool di, .bool fu, .int .i64 mi] 23) := ⟨_, rfl⟩
  rw [← hW0] at X K
  obtain ⟨g2, hg2⟩ : ∃ g2, g2 = w.heap.size := ⟨_, rfl⟩
  rw [← hg2] at X
  rw [← hW0, ← hg2]
  clear hW0 hg2
  go_wp2_with (refine wpList_load_row rfl 23 _ rfl g2 rfl 23 _ (0, 0) _ X.out Try.underlying23 rfl (by kernel_rfl) ?_)
  refine (CP.out _).mono ?_
  rintro e w1 ⟨rfl, hb⟩
  replace K := hide (btrans K.out hb)
  replace X := hide (X.out.below hb)
  clear hb
  go_upto_region 2 with fail
  have M : Below w1.heap.size w1 (w1.alloc (.cells #[.int .i64 4, .int .i64 0, .int .i64 0, .int .i64 mi, .int .i64 1] 28)) := bal (brefl w1) _
  replace K := hide (btrans K.out M)
  replace X := hide (X.out.below M)
  have Y := hide (show PB (w1.alloc (.cells #[.int .i64 4, .int .i64 0, .int .i64 0, .int .i64 mi, .int .i64 1] 28)) w1.heap.size ⟨4, 0, 0, mi, 1⟩ from Box.new w1 28 _)
  obtain ⟨g3, hg3⟩ : ∃ q, q = w1.heap.size := ⟨_, rfl⟩
  rw [← hg3] at Y
  rw [← hg3]
  clear hg3
  generalize w1.alloc (.cells #[.int .i64 4, .int .i64 0, .int .i64 0, .int .i64 mi, .int .i64 1] 28) = v1 at *
  clear M
  obtain ⟨p0, p1, p2, p3, p4⟩ := Y.out.cells
  obtain ⟨x0, x1, x2, x3, x4, x5, x6, x7, x8, x9, x10, x11, x12, x13, x14, x15, x16⟩ := X.out.cells
  by_cases hm : mi = 0
  · subst hm
    go_wp2_with fail
    refine (AWK.out _).mono ?_
    rintro e w9 ⟨rfl, hb⟩
    replace K := hide (btrans K.out hb)
    clear hb
    go_wp2
    go_ret
    exact ⟨rfl, K.out⟩
  · have hb : (mi != 0) = true := bne_iff_ne.2 hm
    go_wp2_with fail
    refine (AWK.out _).mono ?_
    rintro e w9 ⟨rfl, hb⟩
    replace K := hide (btrans K.out hb)
    clear hb
    go_wp2
    go_ret
    exact ⟨rfl, K.out⟩
set_option maxRecDepth 100000 in
set_option maxHeartbeats 16000000 in
theorem needs_15 (wr rg : Bool) (pr : Int) (sh fi be bu : Bool) (en : Int) (wb tr ow on ca ba di fu : Bool) (mi : Int) (w : World) (CP : Hid (∀ w, Calls Try.prog 13 #[.agg #[.bool wr, .bool rg, .int .i64 pr, .bool sh, .bool fi, .bool be, .bool bu, .int .i64 en, .bool wb, .bool tr, .bool ow, .bool on, .bool ca, .bool ba, .bool di, .bool fu, .int .i64 mi]] w fun e w' => e = .returned (.tuple #[.agg #[.int .i64 5, .int .i64 0, .int .i64 0, .int .i64 0, .int .i64 1], .int .i64 0]) ∧ Below w.heap.size w w')) : Calls Try.prog 7 #[.agg #[.bool wr, .bool rg, .int .i64 pr, .bool sh, .bool fi, .bool be, .bool bu, .int .i64 en, .bool wb, .bool tr, .bool ow, .bool on, .bool ca, .bool ba, .bool di, .bool fu, .int .i64 mi]] w fun e w' => e = .returned (.bool true) ∧ Below w.heap.size w w' := by
  have AWK := hide (fun w => awake_any w)
  have K := hide (bal (brefl w) (.cells #[.bool wr, .bool rg, .int .i64 pr, .bool sh, .bool fi, .bool be, .bool bu, .int .i64 en, .bool wb, .bool tr, .bool ow, .bool on, .bool ca, .bool ba, .bool di, .bool fu, .int .i64 mi] 23))
  have X := hide (CB.new w wr rg pr sh fi be bu en wb tr ow on ca ba di fu mi)
  go_enter Try.func7, Try.ntmps7
  go_upto_region 1 with fail
  obtain ⟨W0, hW0⟩ : ∃ W0, W0 = w.alloc (.cells #[.bool wr, .bool rg, .int .i64 pr, .bool sh, .bool fi, .bool be, .bool bu, .int .i64 en, .bool wb, .bool tr, .bool ow, .bool on, .bool ca, .bool ba, .bool di, .bool fu, .int .i64 mi] 23) := ⟨_, rfl⟩
  rw [← hW0] at X K
  obtain ⟨g2, hg2⟩ : ∃ g2, g2 = w.heap.size := ⟨_, rfl⟩
  rw [← hg2] at X
  rw [← hW0, ← hg2]
  clear hW0 hg2
  go_wp2_with (refine wpList_load_row rfl 23 _ rfl g2 rfl 23 _ (0, 0) _ X.out Try.underlying23 rfl (by kernel_rfl) ?_)
  refine (CP.out _).mono ?_
  rintro e w1 ⟨rfl, hb⟩
  replace K := hide (btrans K.out hb)
  replace X := hide (X.out.below hb)
  clear hb
  go_upto_region 2 with fail
  have M : Below w1.heap.size w1 (w1.alloc (.cells #[.int .i64 5, .int .i64 0, .int .i64 0, .int .i64 0, .int .i64 1] 28)) := bal (brefl w1) _
  replace K := hide (btrans K.out M)
  replace X := hide (X.out.below M)
  have Y := hide (show PB (w1.alloc (.cells #[.int .i64 5, .int .i64 0, .int .i64 0, .int .i64 0, .int .i64 1] 28)) w1.heap.size ⟨5, 0, 0, 0, 1⟩ from Box.new w1 28 _)
  obtain ⟨g3, hg3⟩ : ∃ q, q = w1.heap.size := ⟨_, rfl⟩
  rw [← hg3] at Y
  rw [← hg3]
  clear hg3
  generalize w1.alloc (.cells #[.int .i64 5, .int .i64 0, .int .i64 0, .int .i64 0, .int .i64 1] 28) = v1 at *
  clear M
  obtain ⟨p0, p1, p2, p3, p4⟩ := Y.out.cells
  obtain ⟨x0, x1, x2, x3, x4, x5, x6, x7, x8, x9, x10, x11, x12, x13, x14, x15, x16⟩ := X.out.cells
  go_wp2_with fail
  refine (AWK.out _).mono ?_
  rintro e w9 ⟨rfl, hb⟩
  replace K := hide (btrans K.out hb)
  clear hb
  go_wp2
  go_ret
  exact ⟨rfl, K.out⟩
set_option maxRecDepth 100000 in
set_option maxHeartbeats 16000000 in
theorem needs_err (wr rg : Bool) (pr : Int) (sh fi be bu : Bool) (en : Int) (wb tr ow on ca ba di fu : Bool) (mi : Int) (ch : Int) (hc : ch ≠ 0) (w : World) (CP : Hid (∀ w, Calls Try.prog 13 #[.agg #[.bool wr, .bool rg, .int .i64 pr, .bool sh, .bool fi, .bool be, .bool bu, .int .i64 en, .bool wb, .bool tr, .bool ow, .bool on, .bool ca, .bool ba, .bool di, .bool fu, .int .i64 mi]] w fun e w' => e = .returned (.tuple #[.agg #[.int .i64 0, .int .i64 0, .int .i64 0, .int .i64 0, .int .i64 0], .int .i64 ch]) ∧ Below w.heap.size w w')) : Calls Try.prog 7 #[.agg #[.bool wr, .bool rg, .int .i64 pr, .bool sh, .bool fi, .bool be, .bool bu, .int .i64 en, .bool wb, .bool tr, .bool ow, .bool on, .bool ca, .bool ba, .bool di, .bool fu, .int .i64 mi]] w fun e w' => e = .returned (.bool true) ∧ Below w.heap.size w w' := by
  have AWK := hide (fun w => awake_any w)
  have hb : (ch != 0) = true := bne_iff_ne.2 hc
  have K := hide (bal (brefl w) (.cells #[.bool wr, .bool rg, .int .i64 pr, .bool sh, .bool fi, .bool be, .bool bu, .int .i64 en, .bool wb, .bool tr, .bool ow, .bool on, .bool ca, .bool ba, .bool di, .bool fu, .int .i64 mi] 23))
  have X := hide (CB.new w wr rg pr sh fi be bu en wb tr ow on ca ba di fu mi)
  go_enter Try.func7, Try.ntmps7
  go_upto_region 1 with fail
  obtain ⟨W0, hW0⟩ : ∃ W0, W0 = w.alloc (.cells #[.bool wr, .bool rg, .int .i64 pr, .bool sh, .bool fi, .bool be, .bool bu, .int .i64 en, .bool wb, .bool tr, .bool ow, .bool on, .bool ca, .bool ba, .bool di, .bool fu, .int .i64 mi] 23) := ⟨_, rfl⟩
  rw [← hW0] at X K
  obtain ⟨g2, hg2⟩ : ∃ g2, g2 = w.heap.size := ⟨_, rfl⟩
  rw [← hg2] at X
  rw [← hW0, ← hg2]
  clear hW0 hg2
  go_wp2_with (refine wpList_load_row rfl 23 _ rfl g2 rfl 23 _ (0, 0) _ X.out Try.underlying23 rfl (by kernel_rfl) ?_)
  refine (CP.out _).mono ?_
  rintro e w1 ⟨rfl, hb⟩
  replace K := hide (btrans K.out hb)
  replace X := hide (X.out.below hb)
  clear hb
  go_upto_region 2 with fail
  have M : Below w1.heap.size w1 (w1.alloc (.cells #[.int .i64 0, .int .i64 0, .int .i64 0, .int .i64 0, .int .i64 0] 28)) := bal (brefl w1) _
  replace K := hide (btrans K.out M)
  replace X := hide (X.out.below M)
  have Y := hide (show PB (w1.alloc (.cells #[.int .i64 0, .int .i64 0, .int .i64 0, .int .i64 0, .int .i64 0] 28)) w1.heap.size ⟨0, 0, 0, 0, 0⟩ from Box.new w1 28 _)
  obtain ⟨g3, hg3⟩ : ∃ q, q = w1.heap.size := ⟨_, rfl⟩
  rw [← hg3] at Y
  rw [← hg3]
  clear hg3
  generalize w1.alloc (.cells #[.int .i64 0, .int .i64 0, .int .i64 0, .int .i64 0, .int .i64 0] 28) = v1 at *
  clear M
  obtain ⟨p0, p1, p2, p3, p4⟩ := Y.out.cells
  go_wp2_with fail
  refine (AWK.out _).mono ?_
  rintro e w9 ⟨rfl, hb⟩
  replace K := hide (btrans K.out hb)
  clear hb
  go_wp2
  go_ret
  exact ⟨rfl, K.out⟩
theorem law_needs (wr rg : Bool) (pr : Int) (sh fi be bu : Bool) (en : Int) (wb tr ow on ca ba di fu : Bool) (mi : Int) (w : World) : Calls Try.prog 7 #[.agg #[.bool wr, .bool rg, .int .i64 pr, .bool sh, .bool fi, .bool be, .bool bu, .int .i64 en, .bool wb, .bool tr, .bool ow, .bool on, .bool ca, .bool ba, .bool di, .bool fu, .int .i64 mi]] w fun e w' => e = .returned (.bool true) ∧ Below w.heap.size w w' := by
  have CP := fun w => plan_any wr rg pr sh fi be bu en wb tr ow on ca ba di fu mi w
  unfold PlR at CP
  by_cases h : chk ⟨wr, rg, pr, sh, fi, be, bu, en, wb, tr, ow, on, ca, ba, di, fu, mi⟩ = 0
  rotate_left 1
  · have e1 : plE ⟨wr, rg, pr, sh, fi, be, bu, en, wb, tr, ow, on, ca, ba, di, fu, mi⟩ = p0 := by unfold plE; rw [if_neg h]
    rw [e1] at CP
    exact needs_err wr rg pr sh fi be bu en wb tr ow on ca ba di fu mi _ h w CP
  have hk := ix_le ⟨wr, rg, pr, sh, fi, be, bu, en, wb, tr, ow, on, ca, ba, di, fu, mi⟩
  have e1 : plE ⟨wr, rg, pr, sh, fi, be, bu, en, wb, tr, ow, on, ca, ba, di, fu, mi⟩ = rp (ix ⟨wr, rg, pr, sh, fi, be, bu, en, wb, tr, ow, on, ca, ba, di, fu, mi⟩) mi := by unfold plE; rw [if_pos h]; rfl
  rw [e1, h] at CP
  clear e1 h
  generalize ix ⟨wr, rg, pr, sh, fi, be, bu, en, wb, tr, ow, on, ca, ba, di, fu, mi⟩ = k at *
  have hk' : k = 0 ∨ k = 1 ∨ k = 2 ∨ k = 3 ∨ k = 4 ∨ k = 5 ∨ k = 6 ∨ k = 7 ∨ k = 8 ∨ k = 9 ∨ k = 10 ∨ k = 11 ∨ k = 12 ∨ k = 13 ∨ k = 14 ∨ k = 15 := by omega
  rcases hk' with rfl | rfl | rfl | rfl | rfl | rfl | rfl | rfl | rfl | rfl | rfl | rfl | rfl | rfl | rfl | rfl
  · exact needs_0 wr rg pr sh fi be bu en wb tr ow on ca ba di fu mi w CP
  · exact needs_1 wr rg pr sh fi be bu en wb tr ow on ca ba di fu mi w CP
  · exact needs_2 wr rg pr sh fi be bu en wb tr ow on ca ba di fu mi w CP
  · exact needs_3 wr rg pr sh fi be bu en wb tr ow on ca ba di fu mi w CP
  · exact needs_4 wr rg pr sh fi be bu en wb tr ow on ca ba di fu mi w CP
  · exact needs_5 wr rg pr sh fi be bu en wb tr ow on ca ba di fu mi w CP
  · exact needs_6 wr rg pr sh fi be bu en wb tr ow on ca ba di fu mi w CP
  · exact needs_7 wr rg pr sh fi be bu en wb tr ow on ca ba di fu mi w CP
  · exact needs_8 wr rg pr sh fi be bu en wb tr ow on ca ba di fu mi w CP
  · exact needs_9 wr rg pr sh fi be bu en wb tr ow on ca ba di fu mi w CP
  · exact needs_10 wr rg pr sh fi be bu en wb tr ow on ca ba di fu mi w CP
  · exact needs_11 wr rg pr sh fi be bu en wb tr ow on ca ba di fu mi w CP
  · exact needs_12 wr rg pr sh fi be bu en wb tr ow on ca ba di fu mi w CP
  · exact needs_13 wr rg pr sh fi be bu en wb tr ow on ca ba di fu mi w CP
  · exact needs_14 wr rg pr sh fi be bu en wb tr ow on ca ba di fu mi w CP
  · exact needs_15 wr rg pr sh fi be bu en wb tr ow on ca ba di fu mi w CP
end Go.Proofs.Ytkcopcmoaloecaa.Fp
