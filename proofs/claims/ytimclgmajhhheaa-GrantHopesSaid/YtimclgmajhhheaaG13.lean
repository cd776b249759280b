import Derived.Test.YtimclgmajhhheaaG12
namespace Go.Proofs.Ytimclgmajhhheaa.Gr
open Go Go.RowKit Ac
set_option linter.unusedVariables false
set_option linter.unusedSimpArgs false
theorem owa_max {B c : Nat} {w : World} {A : Option Addr} {L : List A5} (h : OwA B w (.slice A L.length c) L) : L.length ≤ 9223372036854775807 := by
  obtain ⟨hl, h | ⟨g, cap, cur, e, hg, hh, h4, h5, h6, ht⟩⟩ := h
  · have := h.2; omega
  · have : maxLen ≤ 9223372036854775807 := by decide
    omega
set_option maxRecDepth 100000 in
set_option maxHeartbeats 8000000 in
theorem law_shorts (pc ac ke us n m : Int) (A : Option Addr) (cp : Nat) (L : List A5) (w : World) (hr : As w A L) (hcp : L.length ≤ cp) (hn : L.length ≤ 9223372036854775807) : Calls Try.prog 4 #[.agg #[.int .i64 pc, .int .i64 ac, .int .i64 ke, .int .i64 us], .slice A L.length cp, .agg #[.int .i64 n, .int .i64 m]] w fun e w' => e = .returned (.bool (true)) ∧ Below w.heap.size w w' := by
  have AWK := hide (fun w => awake_any w)
  have X := hide (show QB ((w.alloc (.cells #[.int .i64 pc, .int .i64 ac, .int .i64 ke, .int .i64 us] 27)).alloc (.cells #[.int .i64 n, .int .i64 m] 36)) w.heap.size ⟨pc, ac, ke, us⟩ from Box.more (Box.new w 27 #[.int .i64 pc, .int .i64 ac, .int .i64 ke, .int .i64 us]) (.cells #[.int .i64 n, .int .i64 m] 36))
  have Y := hide (show Box ((w.alloc (.cells #[.int .i64 pc, .int .i64 ac, .int .i64 ke, .int .i64 us] 27)).alloc (.cells #[.int .i64 n, .int .i64 m] 36)) (w.heap.size + 1) 36 #[.int .i64 n, .int .i64 m] from Box.new2 w (.cells #[.int .i64 pc, .int .i64 ac, .int .i64 ke, .int .i64 us] 27) 36 #[.int .i64 n, .int .i64 m])
  have K := hide (show Below w.heap.size w ((w.alloc (.cells #[.int .i64 pc, .int .i64 ac, .int .i64 ke, .int .i64 us] 27)).alloc (.cells #[.int .i64 n, .int .i64 m] 36)) from bal2 w _ _)
  obtain ⟨W0, hW0⟩ : ∃ W0, W0 = (w.alloc (.cells #[.int .i64 pc, .int .i64 ac, .int .i64 ke, .int .i64 us] 27)).alloc (.cells #[.int .i64 n, .int .i64 m] 36) := ⟨_, rfl⟩
  rw [← hW0] at X Y K
  obtain ⟨g4, hg4⟩ : ∃ g4, g4 = w.heap.size := ⟨_, rfl⟩
  rw [← hg4] at X Y
  have HW := hide hW0
  have HB := hide hg4
  clear hW0 hg4
  have C1 := fun w' (h : Below w.heap.size w w') => short_any pc ac ke us A cp L n m w' (hr.below h) hcp hn
  unfold ShR at C1
  have C2 := fun w' (h : Below w.heap.size w w') => rshort_any pc ac ke us A cp L n m w' (hr.below h) hcp hn
  unfold ShR at C2
  have C3 := fun w' (h : Below w.heap.size w w') => hopeless_any pc ac ke us A cp L n m w' (hr.below h) hcp hn
  have C4 := fun w' (h : Below w.heap.size w w') => rhopeless_any pc ac ke us A cp L n m w' (hr.below h) hcp hn
  obtain ⟨⟨s0, s1, s2⟩, hs⟩ : ∃ s, s = shV ⟨pc, ac, ke, us⟩ L n m := ⟨_, rfl⟩
  obtain ⟨er, her⟩ : ∃ s, s = shE ⟨pc, ac, ke, us⟩ L := ⟨_, rfl⟩
  obtain ⟨hb0, hhb⟩ : ∃ s, s = hpB ⟨pc, ac, ke, us⟩ L n m := ⟨_, rfl⟩
  rw [← hs, ← her] at C1 C2
  rw [← hhb] at C3 C4
  dsimp only at C1 C2
  clear hs her hhb
  replace C1 := hide C1
  replace C2 := hide C2
  replace C3 := hide C3
  replace C4 := hide C4
  clear hr
  by_cases h20 : (L.length : Int) ≤ 20
  rotate_left 1
  · clear C1 C2 C3 C4 X Y
    go_enter Try.func4, Try.ntmps4
    go_upto_region 1 with fail
    rw [← HW.out]
    clear HW HB
    go_wp2_with fail
    refine (AWK.out _).mono ?_
    rintro e w1 ⟨rfl, hb⟩
    replace K := hide (btrans K.out hb)
    clear hb
    go_wp2_with fail
    refine (AWK.out _).mono ?_
    rintro e w2 ⟨rfl, hb⟩
    replace K := hide (btrans K.out hb)
    clear hb
    go_wp2
    go_ret
    exact ⟨rfl, K.out⟩
  go_enter Try.func4, Try.ntmps4
  go_upto_region 1 with fail
  rw [← HW.out, ← HB.out]
  clear HW HB
  go_wp2_with fail
  refine (AWK.out _).mono ?_
  rintro e w1 ⟨rfl, hb⟩
  replace K := hide (btrans K.out hb)
  replace X := hide (X.out.below hb)
  replace Y := hide (Y.out.below hb)
  clear hb
  try clear x0 x1 x2 x3
  try clear y0 y1
  obtain ⟨x0, x1, x2, x3⟩ := QB.cells X.out
  have y0 := Box.cell Y.out 0
  have y1 := Box.cell Y.out 1
  go_wp2_with fail
  refine (C1.out _ K.out).mono ?_
  rintro e w2 ⟨rfl, hb⟩
  replace K := hide (btrans K.out hb)
  replace X := hide (X.out.below hb)
  replace Y := hide (Y.out.below hb)
  clear hb
  go_upto_region 4 with fail
  have M := bal (brefl w2) (.cells #[.int .i64 s0, .int .i64 s1, .bool s2] 38)
  have Z : Hid (SB (w2.alloc (.cells #[.int .i64 s0, .int .i64 s1, .bool s2] 38)) w2.heap.size ⟨s0, s1, s2⟩) := hide (SB.new w2 s0 s1 s2)
  replace K := hide (btrans K.out M)
  replace X := hide (X.out.below M)
  replace Y := hide (Y.out.below M)
  obtain ⟨b7, hbk⟩ : ∃ q, q = w2.heap.size := ⟨_, rfl⟩
  rw [← hbk] at Z ⊢
  clear hbk M
  generalize w2.alloc (.cells #[.int .i64 s0, .int .i64 s1, .bool s2] 38) = w3 at *
  try clear x0 x1 x2 x3
  try clear y0 y1
  obtain ⟨x0, x1, x2, x3⟩ := QB.cells X.out
  have y0 := Box.cell Y.out 0
  have y1 := Box.cell Y.out 1
  go_wp2_with fail
  refine (C2.out _ K.out).mono ?_
  rintro e w4 ⟨rfl, hb⟩
  replace K := hide (btrans K.out hb)
  replace X := hide (X.out.below hb)
  replace Y := hide (Y.out.below hb)
  replace Z := hide (Z.out.below hb)
  clear hb
  go_upto_region 5 with fail
  have M := bal (brefl w4) (.cells #[.int .i64 s0, .int .i64 s1, .bool s2] 38)
  have U : Hid (SB (w4.alloc (.cells #[.int .i64 s0, .int .i64 s1, .bool s2] 38)) w4.heap.size ⟨s0, s1, s2⟩) := hide (SB.new w4 s0 s1 s2)
  replace K := hide (btrans K.out M)
  replace X := hide (X.out.below M)
  replace Y := hide (Y.out.below M)
  replace Z := hide (Z.out.below M)
  obtain ⟨b9, hbk⟩ : ∃ q, q = w4.heap.size := ⟨_, rfl⟩
  rw [← hbk] at U ⊢
  clear hbk M
  generalize w4.alloc (.cells #[.int .i64 s0, .int .i64 s1, .bool s2] 38) = w5 at *
  try clear x0 x1 x2 x3
  try clear y0 y1
  replace K := hide (show Below w.heap.size w w5.drew from btrans K.out (below_drewN (brefl _) 1))
  replace X := hide (X.out.below (show Below w5.heap.size w5 w5.drew from below_drewN (brefl _) 1))
  replace Y := hide (Y.out.below (show Below w5.heap.size w5 w5.drew from below_drewN (brefl _) 1))
  replace Z := hide (Z.out.below (show Below w5.heap.size w5 w5.drew from below_drewN (brefl _) 1))
  replace U := hide (U.out.below (show Below w5.heap.size w5 w5.drew from below_drewN (brefl _) 1))
  refine wp_region_noPanic ?_
  refine wp_region_held_drew (S := (fun W => (W.cell? ⟨g4, 0, none⟩ = some (.int .i64 pc) ∧ W.cell? ⟨g4, 1, none⟩ = some (.int .i64 ac) ∧ W.cell? ⟨g4, 2, none⟩ = some (.int .i64 ke) ∧ W.cell? ⟨g4, 3, none⟩ = some (.int .i64 us)) ∧ (W.cell? ⟨(g4 + 1), 0, none⟩ = some (.int .i64 n) ∧ W.cell? ⟨(g4 + 1), 1, none⟩ = some (.int .i64 m)) ∧ (W.cell? ⟨b7, 0, none⟩ = some (.int .i64 s0) ∧ W.cell? ⟨b7, 1, none⟩ = some (.int .i64 s1) ∧ W.cell? ⟨b7, 2, none⟩ = some (.bool s2)) ∧ (W.cell? ⟨b9, 0, none⟩ = some (.int .i64 s0) ∧ W.cell? ⟨b9, 1, none⟩ = some (.int .i64 s1) ∧ W.cell? ⟨b9, 2, none⟩ = some (.bool s2)))) (by kernel_rfl) ?_ (fun hHeld => ?_)
  · exact ⟨QB.cells X.out, ⟨Box.cell Y.out 0, Box.cell Y.out 1⟩, SB.cells Z.out, SB.cells U.out⟩
  refine wpAnyH_take (i := 0) (oi := ⟨some 39, _, _, _, _, _⟩) (v := ?_) rfl (by kernel_rfl) (by kernel_rfl) (by kernel_rfl) (fun _ _ _ h => h) (Or.inl ⟨by kernel_rfl, ?_⟩) (by assumption) ?_
  rotate_left 1
  · (intro w hSw; (try dsimp only at hSw); go_simp) <;> (with_reducible rfl)
  (try simp only [Act.put, List.setIfInBounds_toArray, List.set_cons_succ, List.set_cons_zero])
  refine wpAnyH_take (i := 1) (oi := ⟨some 40, _, _, _, _, _⟩) (v := ?_) rfl (by kernel_rfl) (by kernel_rfl) (by kernel_rfl) (fun _ _ _ h => h) (Or.inl ⟨by kernel_rfl, ?_⟩) (by assumption) ?_
  rotate_left 1
  · (intro w hSw; (try dsimp only at hSw); go_simp) <;> (with_reducible rfl)
  (try simp only [Act.put, List.setIfInBounds_toArray, List.set_cons_succ, List.set_cons_zero])
  refine wpAnyH_take (i := 2) (oi := ⟨some 41, _, _, _, _, _⟩) (v := ?_) rfl (by kernel_rfl) (by kernel_rfl) (by kernel_rfl) (fun _ _ _ h => h) (Or.inl ⟨by kernel_rfl, ?_⟩) (by assumption) ?_
  rotate_left 1
  · (intro w hSw; (try dsimp only at hSw); go_simp) <;> (with_reducible rfl)
  (try simp only [Act.put, List.setIfInBounds_toArray, List.set_cons_succ, List.set_cons_zero])
  refine wpAnyH_take (i := 3) (oi := ⟨some 42, _, _, _, _, _⟩) (v := ?_) rfl (by kernel_rfl) (by kernel_rfl) (by kernel_rfl) (fun _ _ _ h => h) (Or.inl ⟨by kernel_rfl, ?_⟩) (by assumption) ?_
  rotate_left 1
  · (intro w hSw; (try dsimp only at hSw); go_simp) <;> (with_reducible rfl)
  (try simp only [Act.put, List.setIfInBounds_toArray, List.set_cons_succ, List.set_cons_zero])
  refine wpAnyH_take (i := 4) (oi := ⟨some 43, _, _, _, _, _⟩) (v := ?_) rfl (by kernel_rfl) (by kernel_rfl) (by kernel_rfl) (fun _ _ _ h => h) (Or.inl ⟨by kernel_rfl, ?_⟩) (by assumption) ?_
  rotate_left 1
  · (intro w hSw; (try dsimp only at hSw); go_simp) <;> (with_reducible rfl)
  (try simp only [Act.put, List.setIfInBounds_toArray, List.set_cons_succ, List.set_cons_zero])
  refine wpAnyH_take (i := 5) (oi := ⟨some 44, _, _, _, _, _⟩) (v := ?_) rfl (by kernel_rfl) (by kernel_rfl) (by kernel_rfl) (fun _ _ _ h => h) (Or.inl ⟨by kernel_rfl, ?_⟩) (by assumption) ?_
  rotate_left 1
  · (intro w hSw; (try dsimp only at hSw); go_simp) <;> (with_reducible rfl)
  (try simp only [Act.put, List.setIfInBounds_toArray, List.set_cons_succ, List.set_cons_zero])
  refine wpAnyH_take (i := 6) (oi := ⟨some 45, _, _, _, _, _⟩) (v := ?_) rfl (by kernel_rfl) (by kernel_rfl) (by kernel_rfl) (fun _ _ _ h => h) (Or.inl ⟨by kernel_rfl, ?_⟩) (by assumption) ?_
  rotate_left 1
  · (intro w hSw; (try dsimp only at hSw); go_simp) <;> (with_reducible rfl)
  (try simp only [Act.put, List.setIfInBounds_toArray, List.set_cons_succ, List.set_cons_zero])
  refine wpAnyH_take (i := 7) (oi := ⟨some 46, _, _, _, _, _⟩) (v := ?_) rfl (by kernel_rfl) (by kernel_rfl) (by kernel_rfl) (fun _ _ _ h => h) (Or.inl ⟨by kernel_rfl, ?_⟩) (by assumption) ?_
  rotate_left 1
  · (intro w hSw; (try dsimp only at hSw); go_simp) <;> (with_reducible rfl)
  (try simp only [Act.put, List.setIfInBounds_toArray, List.set_cons_succ, List.set_cons_zero])
  refine wpAnyH_take (i := 8) (oi := ⟨some 47, _, _, _, _, _⟩) (v := ?_) rfl (by kernel_rfl) (by kernel_rfl) (by kernel_rfl) (fun _ _ _ h => h) (Or.inl ⟨by kernel_rfl, ?_⟩) (by assumption) ?_
  rotate_left 1
  · (intro w hSw; (try dsimp only at hSw); go_simp) <;> (with_reducible rfl)
  (try simp only [Act.put, List.setIfInBounds_toArray, List.set_cons_succ, List.set_cons_zero])
  refine wpAnyH_take (i := 9) (oi := ⟨some 48, _, _, _, _, _⟩) (v := ?_) rfl (by kernel_rfl) (by kernel_rfl) (by kernel_rfl) (fun _ _ _ h => h) (Or.inl ⟨by kernel_rfl, ?_⟩) (by assumption) ?_
  rotate_left 1
  · (intro w hSw; (try dsimp only at hSw); go_simp) <;> (with_reducible rfl)
  (try simp only [Act.put, List.setIfInBounds_toArray, List.set_cons_succ, List.set_cons_zero])
  refine wpAnyH_take (i := 10) (oi := ⟨some 49, _, _, _, _, _⟩) (v := ?_) rfl (by kernel_rfl) (by kernel_rfl) (by kernel_rfl) (fun _ _ _ h => h) (Or.inl ⟨by kernel_rfl, ?_⟩) (by assumption) ?_
  rotate_left 1
  · (intro w hSw; (try dsimp only at hSw); go_simp) <;> (with_reducible rfl)
  (try simp only [Act.put, List.setIfInBounds_toArray, List.set_cons_succ, List.set_cons_zero])
  refine wpAnyH_take (i := 11) (oi := ⟨some 50, _, _, _, _, _⟩) (v := ?_) rfl (by kernel_rfl) (by kernel_rfl) (by kernel_rfl) (fun _ _ _ h => h) (Or.inl ⟨by kernel_rfl, ?_⟩) (by assumption) ?_
  rotate_left 1
  · (intro w hSw; (try dsimp only at hSw); go_simp) <;> (with_reducible rfl)
  (try simp only [Act.put, List.setIfInBounds_toArray, List.set_cons_succ, List.set_cons_zero])
  refine wpAnyH_take (i := 12) (oi := ⟨some 51, _, _, _, _, _⟩) (v := ?_) rfl (by kernel_rfl) (by kernel_rfl) (by kernel_rfl) (fun _ _ _ h => h) (Or.inl ⟨by kernel_rfl, ?_⟩) (by assumption) ?_
  rotate_left 1
  · (intro w hSw; (try dsimp only at hSw); go_simp) <;> (with_reducible rfl)
  (try simp only [Act.put, List.setIfInBounds_toArray, List.set_cons_succ, List.set_cons_zero])
  refine wpAnyH_take (i := 13) (oi := ⟨some 52, _, _, _, _, _⟩) (v := ?_) rfl (by kernel_rfl) (by kernel_rfl) (by kernel_rfl) (fun _ _ _ h => h) (Or.inl ⟨by kernel_rfl, ?_⟩) (by assumption) ?_
  rotate_left 1
  · (intro w hSw; (try dsimp only at hSw); go_simp) <;> (with_reducible rfl)
  (try simp only [Act.put, List.setIfInBounds_toArray, List.set_cons_succ, List.set_cons_zero])
  refine wpAnyH_take (i := 14) (oi := ⟨some 53, _, _, _, _, _⟩) (v := ?_) rfl (by kernel_rfl) (by kernel_rfl) (by kernel_rfl) (fun _ _ _ h => h) (Or.inl ⟨by kernel_rfl, ?_⟩) (by assumption) ?_
  rotate_left 1
  · (intro w hSw; (try dsimp only at hSw); go_simp) <;> (with_reducible rfl)
  (try simp only [Act.put, List.setIfInBounds_toArray, List.set_cons_succ, List.set_cons_zero])
  refine wpAnyH_take (i := 16) (oi := ⟨some 55, _, _, _, _, _⟩) (v := ?_) rfl (by kernel_rfl) (by kernel_rfl) (by kernel_rfl) (fun _ _ _ h => h) (Or.inl ⟨by kernel_rfl, ?_⟩) (by assumption) ?_
  rotate_left 1
  · (intro w hSw; (try dsimp only at hSw); go_simp) <;> (with_reducible rfl)
  (try simp only [Act.put, List.setIfInBounds_toArray, List.set_cons_succ, List.set_cons_zero])
  refine wpAnyH_take (i := 17) (oi := ⟨some 56, _, _, _, _, _⟩) (v := ?_) rfl (by kernel_rfl) (by kernel_rfl) (by kernel_rfl) (fun _ _ _ h => h) (Or.inl ⟨by kernel_rfl, ?_⟩) (by assumption) ?_
  rotate_left 1
  · (intro w hSw; (try dsimp only at hSw); go_simp) <;> (with_reducible rfl)
  (try simp only [Act.put, List.setIfInBounds_toArray, List.set_cons_succ, List.set_cons_zero])
  refine wpAnyH_take (i := 18) (oi := ⟨some 57, _, _, _, _, _⟩) (v := ?_) rfl (by kernel_rfl) (by kernel_rfl) (by kernel_rfl) (fun _ _ _ h => h) (Or.inl ⟨by kernel_rfl, ?_⟩) (by assumption) ?_
  rotate_left 1
  · (intro w hSw; (try dsimp only at hSw); go_simp) <;> (with_reducible rfl)
  (try simp only [Act.put, List.setIfInBounds_toArray, List.set_cons_succ, List.set_cons_zero])
  refine wpAnyH_take (i := 19) (oi := ⟨some 58, _, _, _, _, _⟩) (v := ?_) rfl (by kernel_rfl) (by kernel_rfl) (by kernel_rfl) (fun _ _ _ h => h) (Or.inl ⟨by kernel_rfl, ?_⟩) (by assumption) ?_
  rotate_left 1
  · (intro w hSw; (try dsimp only at hSw); go_simp) <;> (with_reducible rfl)
  (try simp only [Act.put, List.setIfInBounds_toArray, List.set_cons_succ, List.set_cons_zero])
  refine wpAnyH_take (i := 20) (oi := ⟨some 59, _, _, _, _, _⟩) (v := ?_) rfl (by kernel_rfl) (by kernel_rfl) (by kernel_rfl) (fun _ _ _ h => h) (Or.inl ⟨by kernel_rfl, ?_⟩) (by assumption) ?_
  rotate_left 1
  · (intro w hSw; (try dsimp only at hSw); go_simp) <;> (with_reducible rfl)
  (try simp only [Act.put, List.setIfInBounds_toArray, List.set_cons_succ, List.set_cons_zero])
  refine wpAnyH_take (i := 21) (oi := ⟨some 60, _, _, _, _, _⟩) (v := ?_) rfl (by kernel_rfl) (by kernel_rfl) (by kernel_rfl) (fun _ _ _ h => h) (Or.inl ⟨by kernel_rfl, ?_⟩) (by assumption) ?_
  rotate_left 1
  · (intro w hSw; (try dsimp only at hSw); go_simp) <;> (with_reducible rfl)
  (try simp only [Act.put, List.setIfInBounds_toArray, List.set_cons_succ, List.set_cons_zero])
  refine wpAnyH_ready (rs := [15]) (by kernel_rfl) (by simp) ?_
  refine AllReadyH.cons (o := ⟨some 54, _, _, _, _, _⟩) rfl (fun K' hK => ?_) AllReadyH.nil
  go_simp
  refine (C3.out _ K.out).mono ?_
  rintro e w6 ⟨rfl, hb⟩
  replace K := hide (btrans K.out hb)
  replace X := hide (X.out.below hb)
  replace Y := hide (Y.out.below hb)
  replace Z := hide (Z.out.below hb)
  replace U := hide (U.out.below hb)
  clear hb
  refine hK.out _ _ ?_ (fun hHeld => ?_)
  · exact ⟨QB.cells X.out, ⟨Box.cell Y.out 0, Box.cell Y.out 1⟩, SB.cells Z.out, SB.cells U.out⟩
  clear hK K'
  (try simp only [Act.put, List.setIfInBounds_toArray, List.set_cons_succ, List.set_cons_zero])
  refine wpAnyH_ready (rs := [22]) (by kernel_rfl) (by simp) ?_
  refine AllReadyH.cons (o := ⟨some 61, _, _, _, _, _⟩) rfl (fun K' hK => ?_) AllReadyH.nil
  go_simp
  refine (C4.out _ K.out).mono ?_
  rintro e w7 ⟨rfl, hb⟩
  replace K := hide (btrans K.out hb)
  replace X := hide (X.out.below hb)
  replace Y := hide (Y.out.below hb)
  replace Z := hide (Z.out.below hb)
  replace U := hide (U.out.below hb)
  clear hb
  refine hK.out _ _ ?_ (fun hHeld => ?_)
  · exact ⟨QB.cells X.out, ⟨Box.cell Y.out 0, Box.cell Y.out 1⟩, SB.cells Z.out, SB.cells U.out⟩
  clear hK K'
  (try simp only [Act.put, List.setIfInBounds_toArray, List.set_cons_succ, List.set_cons_zero])
  refine wpAnyH_take (i := 23) (oi := ⟨some 62, _, _, _, _, _⟩) (v := ?_) rfl (by kernel_rfl) (by kernel_rfl) (by kernel_rfl) (fun _ _ _ h => h) (Or.inl ⟨by kernel_rfl, ?_⟩) (by assumption) ?_
  rotate_left 1
  · (intro w hSw; (try dsimp only at hSw); go_simp) <;> (with_reducible rfl)
  (try simp only [Act.put, List.setIfInBounds_toArray, List.set_cons_succ, List.set_cons_zero])
  refine wpAnyH_take (i := 24) (oi := ⟨some 63, _, _, _, _, _⟩) (v := ?_) rfl (by kernel_rfl) (by kernel_rfl) (by kernel_rfl) (fun _ _ _ h => h) (Or.inl ⟨by kernel_rfl, ?_⟩) (by assumption) ?_
  rotate_left 1
  · (intro w hSw; (try dsimp only at hSw); go_simp) <;> (with_reducible rfl)
  (try simp only [Act.put, List.setIfInBounds_toArray, List.set_cons_succ, List.set_cons_zero])
  refine wpAnyH_take (i := 25) (oi := ⟨some 6, _, _, _, _, _⟩) (v := ?_) rfl (by kernel_rfl) (by kernel_rfl) (by kernel_rfl) (fun _ _ _ h => h) (Or.inl ⟨by kernel_rfl, ?_⟩) (by assumption) ?_
  rotate_left 1
  · (intro w hSw; (try dsimp only at hSw); go_simp) <;> (with_reducible rfl)
  (try simp only [Act.put, List.setIfInBounds_toArray, List.set_cons_succ, List.set_cons_zero])
  refine wpAnyH_done (by kernel_rfl) ?_ _
  refine NoPanic.normal ?_
  go_wp2
  go_ret
  exact ⟨rfl, K.out⟩
set_option maxRecDepth 100000 in
set_option maxHeartbeats 8000000 in
theorem law_serves (A : Option Addr) (cp : Nat) (Q : List A4) (B : Option Addr) (cq : Nat) (L : List A5) (n m : Int) (w : World) (hq : Qs w A Q) (hr : As w B L) (hQ : Q.length ≤ 9223372036854775807) (hcq : L.length ≤ cq) (hL : L.length ≤ 9223372036854775807) (hn : i64r n) (hm : i64r m) : Calls Try.prog 5 #[.slice A Q.length cp, .slice B L.length cq, .agg #[.int .i64 n, .int .i64 m]] w fun e w' => e = .returned (.bool (true)) ∧ Below w.heap.size w w' := by
  have AWK := hide (fun w => awake_any w)
  have Y := hide (Box.new w 36 #[.int .i64 n, .int .i64 m])
  have K := hide (bal (brefl w) (.cells #[.int .i64 n, .int .i64 m] 36))
  obtain ⟨W0, hW0⟩ : ∃ W0, W0 = w.alloc (.cells #[.int .i64 n, .int .i64 m] 36) := ⟨_, rfl⟩
  rw [← hW0] at Y K
  obtain ⟨g4, hg4⟩ : ∃ g4, g4 = w.heap.size := ⟨_, rfl⟩
  rw [← hg4] at Y
  have HW := hide hW0
  have HB := hide hg4
  clear hW0 hg4
  have FW := hide (fun w => few_any A B Q.length L.length cp cq w hQ hL)
  by_cases hf : (decide ((Q.length : Int) ≤ 20) && decide ((L.length : Int) ≤ 20)) = true
  rotate_left 1
  · have hf2 : (decide ((Q.length : Int) ≤ 20) && decide ((L.length : Int) ≤ 20)) = false := by simpa using hf
    rw [hf2] at FW
    clear hf hf2 hq hr Y
    go_enter Try.func5, Try.ntmps5
    go_upto_region 1 with fail
    rw [← HW.out]
    clear HW HB
    go_wp2_with fail
    refine (AWK.out _).mono ?_
    rintro e w1 ⟨rfl, hb⟩
    replace K := hide (btrans K.out hb)
    clear hb
    go_wp2_with fail
    refine (FW.out _).mono ?_
    rintro e w2 ⟨rfl, rfl⟩
    go_wp2_with fail
    refine (AWK.out _).mono ?_
    rintro e w3 ⟨rfl, hb⟩
    replace K := hide (btrans K.out hb)
    clear hb
    go_wp2
    go_ret
    exact ⟨rfl, K.out⟩
  have hq20 : Q.length ≤ 20 := by
    have := (Bool.and_eq_true _ _ ▸ hf).1
    have := of_decide_eq_true this
    omega
  rw [hf] at FW
  clear hf
  have C1 := fun w' (h : Below w.heap.size w w') => serve_any A cp Q B cq L n m w' (hq.below h) (hr.below h) (by omega) hcq hL hn hm
  have C2 := fun w' (h : Below w.heap.size w w') => rserve_any A cp Q B cq L n m w' (hq.below h) (hr.below h) (by omega) hcq hL hn hm
  unfold SvR at C1 C2
  obtain ⟨sk, hsk⟩ : ∃ x, x = svN Q L n m := ⟨_, rfl⟩
  obtain ⟨sr, hsr⟩ : ∃ x, x = svR Q L n m := ⟨_, rfl⟩
  obtain ⟨se, hse⟩ : ∃ x, x = svE Q L := ⟨_, rfl⟩
  rw [← hsk, ← hsr, ← hse] at C1 C2
  clear hsk hsr hse
  replace C1 := hide C1
  replace C2 := hide C2
  clear hq hr
  go_enter Try.func5, Try.ntmps5
  go_upto_region 1 with fail
  rw [← HW.out, ← HB.out]
  clear HW HB
  go_wp2_with fail
  refine (AWK.out _).mono ?_
  rintro e w1 ⟨rfl, hb⟩
  replace K := hide (btrans K.out hb)
  replace Y := hide (Y.out.below hb)
  clear hb
  try clear x0 x1 x2 x3
  try clear y0 y1
  have y0 := Box.cell Y.out 0
  have y1 := Box.cell Y.out 1
  go_wp2_with fail
  refine (FW.out _).mono ?_
  rintro e w2 ⟨rfl, rfl⟩
  go_wp2_with fail
  refine (C1.out _ K.out).mono ?_
  rintro e w3 ⟨A1, c1, rfl, hO, hb⟩
  have HM := hide (owa_max hO)
  have R1 := hide (fun w' (h : Below w3.heap.size w3 w') => (owa_as hO).1.below h)
  have K1 := hide (brefl w3)
  clear hO
  replace K := hide (btrans K.out hb)
  replace Y := hide (Y.out.below hb)
  clear hb
  try clear x0 x1 x2 x3
  try clear y0 y1
  have y0 := Box.cell Y.out 0
  have y1 := Box.cell Y.out 1
  go_wp2_with fail
  refine (C2.out _ K.out).mono ?_
  rintro e w4 ⟨A2, c2, rfl, hO, hb⟩
  have R2 := hide (owa_as hO).1
  clear hO
  replace K := hide (btrans K.out hb)
  replace K1 := hide (btrans K1.out hb)
  clear hb
  try clear y0 y1
  go_wp2_with fail
  refine (same_refl A1 A2 c1 c2 sr _ (R1.out _ K1.out) R2.out HM.out).mono ?_
  rintro e w5 ⟨rfl, hb⟩
  replace K := hide (btrans K.out hb)
  clear hb
  go_wp2
  go_ret
  exact ⟨rfl, K.out⟩
end Go.Proofs.Ytimclgmajhhheaa.Gr
