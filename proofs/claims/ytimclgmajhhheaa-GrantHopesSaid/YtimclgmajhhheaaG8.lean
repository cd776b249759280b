import Derived.Test.YtimclgmajhhheaaG7
namespace Go.Proofs.Ytimclgmajhhheaa.Gr
open Go Go.RowKit Ac
set_option linter.unusedVariables false
set_option linter.unusedSimpArgs false
/-- what Short answers -/
def ShR (s : S3) (er : Int) (w : World) (e : Ending) (w' : World) : Prop := e = .returned (.tuple #[.agg #[.int .i64 s.c, .int .i64 s.s, .bool s.k], .int .i64 er]) ∧ Below w.heap.size w w'
theorem sh_bad {a : A4} {L : List A5} {n m : Int} (h : ¬ okQ a) : z3 = shV a L n m ∧ 2 = shE a L := by
  have e : shE a L = 2 := if_neg h
  exact ⟨by unfold shV; rw [e]; rfl, e.symm⟩
theorem sh_acc {a : A4} {L : List A5} {n m : Int} (h : okQ a) (h2 : mE L a.ac ≠ 0) : z3 = shV a L n m ∧ mE L a.ac = shE a L := by
  have e : shE a L = mE L a.ac := if_pos h
  exact ⟨by unfold shV; rw [e, if_neg h2], e.symm⟩
theorem sh_ok {a : A4} {L : List A5} {n m : Int} (h : okQ a) (h2 : mE L a.ac = 0) : shS a L n m = shV a L n m ∧ 0 = shE a L := by
  have e : shE a L = 0 := (if_pos h).trans h2
  exact ⟨by unfold shV; rw [e]; rfl, e.symm⟩
set_option maxRecDepth 100000 in
set_option maxHeartbeats 8000000 in
theorem short_any (pc ac ke us : Int) (A : Option Addr) (cp : Nat) (L : List A5) (n m : Int) (w : World) (hr : As w A L) (hcp : L.length ≤ cp) (hn : L.length ≤ 9223372036854775807) : Calls Try.prog 26 #[.agg #[.int .i64 pc, .int .i64 ac, .int .i64 ke, .int .i64 us], .slice A L.length cp, .int .i64 n, .int .i64 m] w (ShR (shV ⟨pc, ac, ke, us⟩ L n m) (shE ⟨pc, ac, ke, us⟩ L) w) := by
  unfold ShR
  have X := hide (show QB ((w.alloc (.cells #[.int .i64 pc, .int .i64 ac, .int .i64 ke, .int .i64 us] 27)).alloc (.cells #[.int .i64 0, .int .i64 0, .bool false] 38)) w.heap.size ⟨pc, ac, ke, us⟩ from Box.more (Box.new w 27 #[.int .i64 pc, .int .i64 ac, .int .i64 ke, .int .i64 us]) (.cells #[.int .i64 0, .int .i64 0, .bool false] 38))
  have Z := hide (show SB ((w.alloc (.cells #[.int .i64 pc, .int .i64 ac, .int .i64 ke, .int .i64 us] 27)).alloc (.cells #[.int .i64 0, .int .i64 0, .bool false] 38)) (w.heap.size + 1) ⟨0, 0, false⟩ from Box.new2 w (.cells #[.int .i64 pc, .int .i64 ac, .int .i64 ke, .int .i64 us] 27) 38 #[.int .i64 0, .int .i64 0, .bool false])
  have K := hide (show Below w.heap.size w ((w.alloc (.cells #[.int .i64 pc, .int .i64 ac, .int .i64 ke, .int .i64 us] 27)).alloc (.cells #[.int .i64 0, .int .i64 0, .bool false] 38)) from bal2 w _ _)
  obtain ⟨W0, hW0⟩ : ∃ W0, W0 = (w.alloc (.cells #[.int .i64 pc, .int .i64 ac, .int .i64 ke, .int .i64 us] 27)).alloc (.cells #[.int .i64 0, .int .i64 0, .bool false] 38) := ⟨_, rfl⟩
  rw [← hW0] at X Z K
  obtain ⟨g4, hg4⟩ : ∃ g4, g4 = w.heap.size := ⟨_, rfl⟩
  have HG := hide (show w.heap.size ≤ g4 by omega)
  rw [← hg4] at X Z
  have HW := hide hW0
  have HB := hide hg4
  clear hW0 hg4
  have HR := hide (fun w' (h : Below w.heap.size w w') => hr.below h)
  have VA := hide (fun w => val_any pc ac ke us w)
  have MA := hide (fun w' (h : Below w.heap.size w w') => margin_any A cp L ac w' (hr.below h) hcp hn)
  obtain ⟨sv, hsv⟩ : ∃ s, s = shV ⟨pc, ac, ke, us⟩ L n m := ⟨_, rfl⟩
  obtain ⟨se, hse⟩ : ∃ s, s = shE ⟨pc, ac, ke, us⟩ L := ⟨_, rfl⟩
  have B1 := hide (fun (h : ¬ okQ ⟨pc, ac, ke, us⟩) => sh_bad (L := L) (n := n) (m := m) h)
  have B2 := hide (fun (h : okQ ⟨pc, ac, ke, us⟩) h2 => sh_acc (L := L) (n := n) (m := m) h h2)
  have B3 := hide (fun (h : okQ ⟨pc, ac, ke, us⟩) h2 => sh_ok (L := L) (n := n) (m := m) h h2)
  rw [← hsv, ← hse] at B1 B2 B3
  rw [← hsv, ← hse]
  have SH := fun (V : Vd L) (ok : okQ ⟨pc, ac, ke, us⟩) (hac : ac < L.length) => hide (fun w' (h : Below w.heap.size w w') => shortage_any pc ac ke us A cp L n m w' (hr.below h) hcp V ok hac)
  clear hsv hse hr
  by_cases ho : okQ ⟨pc, ac, ke, us⟩
  rotate_left 1
  · have G := hide (B1.out ho)
    rw [decide_eq_false ho] at VA
    clear B1 B2 B3 SH ho
    go_enter Try.func26, Try.ntmps26
    go_upto_region 1 with fail
    rw [← HW.out, ← HB.out]
    clear HW HB
    try clear x0 x1 x2 x3
    obtain ⟨x0, x1, x2, x3⟩ := QB.cells X.out
    go_wp2_with fail
    refine (VA.out _).mono ?_
    rintro e w2 ⟨rfl, hb⟩
    replace K := hide (btrans K.out hb)
    replace X := hide (X.out.below hb)
    replace Z := hide (Z.out.below hb)
    clear hb
    try clear z0 z1 z2 f0 f1 f2
    obtain ⟨z0, z1, z2⟩ := SB.cells Z.out
    obtain ⟨f0, f1, f2⟩ := SB.free Z.out
    go_wp2
    exact ret_s2 rfl rfl rfl rfl (SB.put Z.out) (G.out) ⟨rfl, bset3 K.out (Nat.le_trans HG.out (Nat.le_succ _))⟩
  rw [decide_eq_true ho] at VA
  by_cases hm : mE L ac = 0
  rotate_left 1
  · have G := hide (B2.out ho hm)
    dsimp only at G
    have hm2 := ne_bool hm
    generalize mE L ac = me at *
    clear B1 B2 B3 SH ho hm
    go_enter Try.func26, Try.ntmps26
    go_upto_region 1 with fail
    rw [← HW.out, ← HB.out]
    clear HW HB
    try clear x0 x1 x2 x3
    obtain ⟨x0, x1, x2, x3⟩ := QB.cells X.out
    go_wp2_with fail
    refine (VA.out _).mono ?_
    rintro e w2 ⟨rfl, hb⟩
    replace K := hide (btrans K.out hb)
    replace X := hide (X.out.below hb)
    replace Z := hide (Z.out.below hb)
    clear hb
    try clear x0 x1 x2 x3
    obtain ⟨x0, x1, x2, x3⟩ := QB.cells X.out
    go_wp2_with fail
    refine (MA.out _ K.out).mono ?_
    rintro e w3 ⟨rfl, hb⟩
    replace K := hide (btrans K.out hb)
    replace X := hide (X.out.below hb)
    replace Z := hide (Z.out.below hb)
    clear hb
    try clear z0 z1 z2 f0 f1 f2
    obtain ⟨z0, z1, z2⟩ := SB.cells Z.out
    obtain ⟨f0, f1, f2⟩ := SB.free Z.out
    go_wp2
    exact ret_s2 rfl rfl rfl rfl (SB.put Z.out) (G.out) ⟨rfl, bset3 K.out (Nat.le_trans HG.out (Nat.le_succ _))⟩
  have q := mE_ok hm
  have G := hide (B3.out ho hm)
  replace SH := SH (vd_of q.1) ho q.2.2
  rw [hm] at MA
  obtain ⟨ss, hss⟩ : ∃ s, s = shS ⟨pc, ac, ke, us⟩ L n m := ⟨_, rfl⟩
  rw [← hss] at SH G
  obtain ⟨s0, s1, s2⟩ := ss
  dsimp only at SH
  clear B1 B2 B3 ho hm q hss
  go_enter Try.func26, Try.ntmps26
  go_upto_region 1 with fail
  rw [← HW.out, ← HB.out]
  clear HW HB
  try clear x0 x1 x2 x3
  obtain ⟨x0, x1, x2, x3⟩ := QB.cells X.out
  go_wp2_with fail
  refine (VA.out _).mono ?_
  rintro e w2 ⟨rfl, hb⟩
  replace K := hide (btrans K.out hb)
  replace X := hide (X.out.below hb)
  replace Z := hide (Z.out.below hb)
  clear hb
  try clear x0 x1 x2 x3
  obtain ⟨x0, x1, x2, x3⟩ := QB.cells X.out
  go_wp2_with fail
  refine (MA.out _ K.out).mono ?_
  rintro e w3 ⟨rfl, hb⟩
  replace K := hide (btrans K.out hb)
  replace X := hide (X.out.below hb)
  replace Z := hide (Z.out.below hb)
  clear hb
  try clear x0 x1 x2 x3
  obtain ⟨x0, x1, x2, x3⟩ := QB.cells X.out
  go_wp2_with fail
  refine (SH.out _ K.out).mono ?_
  rintro e w4 ⟨rfl, hb⟩
  replace K := hide (btrans K.out hb)
  replace X := hide (X.out.below hb)
  replace Z := hide (Z.out.below hb)
  clear hb
  try clear z0 z1 z2 f0 f1 f2
  obtain ⟨z0, z1, z2⟩ := SB.cells Z.out
  obtain ⟨f0, f1, f2⟩ := SB.free Z.out
  go_wp2
  exact ret_s2 rfl rfl rfl rfl (SB.put Z.out) (G.out) ⟨rfl, bset3 K.out (Nat.le_trans HG.out (Nat.le_succ _))⟩
set_option maxRecDepth 100000 in
set_option maxHeartbeats 8000000 in
theorem rshort_any (pc ac ke us : Int) (A : Option Addr) (cp : Nat) (L : List A5) (n m : Int) (w : World) (hr : As w A L) (hcp : L.length ≤ cp) (hn : L.length ≤ 9223372036854775807) : Calls Try.prog 27 #[.agg #[.int .i64 pc, .int .i64 ac, .int .i64 ke, .int .i64 us], .slice A L.length cp, .int .i64 n, .int .i64 m] w (ShR (shV ⟨pc, ac, ke, us⟩ L n m) (shE ⟨pc, ac, ke, us⟩ L) w) := by
  unfold ShR
  have X := hide (show QB ((w.alloc (.cells #[.int .i64 pc, .int .i64 ac, .int .i64 ke, .int .i64 us] 27)).alloc (.cells #[.int .i64 0, .int .i64 0, .bool false] 38)) w.heap.size ⟨pc, ac, ke, us⟩ from Box.more (Box.new w 27 #[.int .i64 pc, .int .i64 ac, .int .i64 ke, .int .i64 us]) (.cells #[.int .i64 0, .int .i64 0, .bool false] 38))
  have Z := hide (show SB ((w.alloc (.cells #[.int .i64 pc, .int .i64 ac, .int .i64 ke, .int .i64 us] 27)).alloc (.cells #[.int .i64 0, .int .i64 0, .bool false] 38)) (w.heap.size + 1) ⟨0, 0, false⟩ from Box.new2 w (.cells #[.int .i64 pc, .int .i64 ac, .int .i64 ke, .int .i64 us] 27) 38 #[.int .i64 0, .int .i64 0, .bool false])
  have K := hide (show Below w.heap.size w ((w.alloc (.cells #[.int .i64 pc, .int .i64 ac, .int .i64 ke, .int .i64 us] 27)).alloc (.cells #[.int .i64 0, .int .i64 0, .bool false] 38)) from bal2 w _ _)
  obtain ⟨W0, hW0⟩ : ∃ W0, W0 = (w.alloc (.cells #[.int .i64 pc, .int .i64 ac, .int .i64 ke, .int .i64 us] 27)).alloc (.cells #[.int .i64 0, .int .i64 0, .bool false] 38) := ⟨_, rfl⟩
  rw [← hW0] at X Z K
  obtain ⟨g4, hg4⟩ : ∃ g4, g4 = w.heap.size := ⟨_, rfl⟩
  have HG := hide (show w.heap.size ≤ g4 by omega)
  rw [← hg4] at X Z
  have HW := hide hW0
  have HB := hide hg4
  clear hW0 hg4
  have HR := hide (fun w' (h : Below w.heap.size w w') => hr.below h)
  have VA := hide (fun w => rval_any pc ac ke us w)
  have CA := hide (fun w' (h : Below w.heap.size w w') => rcheck_any A cp L w' (hr.below h) hn)
  have PT := hide (fun w' (h : Below w.heap.size w w') => rpath_any A cp L ac w' (hr.below h) hcp hn)
  unfold PR at PT
  obtain ⟨sv, hsv⟩ : ∃ s, s = shV ⟨pc, ac, ke, us⟩ L n m := ⟨_, rfl⟩
  obtain ⟨se, hse⟩ : ∃ s, s = shE ⟨pc, ac, ke, us⟩ L := ⟨_, rfl⟩
  have B1 := hide (fun (h : ¬ okQ ⟨pc, ac, ke, us⟩) => sh_bad (L := L) (n := n) (m := m) h)
  have B2 := hide (fun (h : okQ ⟨pc, ac, ke, us⟩) h2 => sh_acc (L := L) (n := n) (m := m) h h2)
  have B3 := hide (fun (h : okQ ⟨pc, ac, ke, us⟩) h2 => sh_ok (L := L) (n := n) (m := m) h h2)
  rw [← hsv, ← hse] at B1 B2 B3
  rw [← hsv, ← hse]
  clear hsv hse hr
  by_cases ho : okQ ⟨pc, ac, ke, us⟩
  rotate_left 1
  · have G := hide (B1.out ho)
    rw [decide_eq_false ho] at VA
    clear B1 B2 B3 ho
    go_enter Try.func27, Try.ntmps27
    go_upto_region 1 with fail
    rw [← HW.out, ← HB.out]
    clear HW HB
    try clear x0 x1 x2 x3
    obtain ⟨x0, x1, x2, x3⟩ := QB.cells X.out
    go_wp2_with fail
    refine (VA.out _).mono ?_
    rintro e w2 ⟨rfl, hb⟩
    replace K := hide (btrans K.out hb)
    replace X := hide (X.out.below hb)
    replace Z := hide (Z.out.below hb)
    clear hb
    try clear z0 z1 z2 f0 f1 f2
    obtain ⟨z0, z1, z2⟩ := SB.cells Z.out
    obtain ⟨f0, f1, f2⟩ := SB.free Z.out
    go_wp2
    exact ret_s2 rfl rfl rfl rfl (SB.put Z.out) (G.out) ⟨rfl, bset3 K.out (Nat.le_trans HG.out (Nat.le_succ _))⟩
  rw [decide_eq_true ho] at VA
  have i0 := ho.2.1
  dsimp only at i0
  by_cases hc : chE L = 0
  rotate_left 1
  · have G := hide (B2.out ho (show mE L ac ≠ 0 by rw [mE_bad hc]; exact hc))
    dsimp only at G
    rw [mE_bad hc] at G
    have hc2 := ne_bool hc
    generalize chE L = ce at *
    clear B1 B2 B3 ho hc
    go_enter Try.func27, Try.ntmps27
    go_upto_region 1 with fail
    rw [← HW.out, ← HB.out]
    clear HW HB
    try clear x0 x1 x2 x3
    obtain ⟨x0, x1, x2, x3⟩ := QB.cells X.out
    go_wp2_with fail
    refine (VA.out _).mono ?_
    rintro e w2 ⟨rfl, hb⟩
    replace K := hide (btrans K.out hb)
    replace X := hide (X.out.below hb)
    replace Z := hide (Z.out.below hb)
    clear hb
    try clear x0 x1 x2 x3
    obtain ⟨x0, x1, x2, x3⟩ := QB.cells X.out
    go_wp2_with fail
    refine (CA.out _ K.out).mono ?_
    rintro e w3 ⟨rfl, hb⟩
    replace K := hide (btrans K.out hb)
    replace X := hide (X.out.below hb)
    replace Z := hide (Z.out.below hb)
    clear hb
    try clear z0 z1 z2 f0 f1 f2
    obtain ⟨z0, z1, z2⟩ := SB.cells Z.out
    obtain ⟨f0, f1, f2⟩ := SB.free Z.out
    go_wp2
    exact ret_s2 rfl rfl rfl rfl (SB.put Z.out) (G.out) ⟨rfl, bset3 K.out (Nat.le_trans HG.out (Nat.le_succ _))⟩
  rw [hc] at CA
  by_cases hac : ac < L.length
  rotate_left 1
  · have e6 : mE L ac = 6 := mE_6 hc (by omega)
    have G := hide (B2.out ho (show mE L ac ≠ 0 by rw [e6]; omega))
    dsimp only at G
    rw [e6] at G
    clear B1 B2 B3 ho hc e6
    go_enter Try.func27, Try.ntmps27
    go_upto_region 1 with fail
    rw [← HW.out, ← HB.out]
    clear HW HB
    try clear x0 x1 x2 x3
    obtain ⟨x0, x1, x2, x3⟩ := QB.cells X.out
    go_wp2_with fail
    refine (VA.out _).mono ?_
    rintro e w2 ⟨rfl, hb⟩
    replace K := hide (btrans K.out hb)
    replace X := hide (X.out.below hb)
    replace Z := hide (Z.out.below hb)
    clear hb
    try clear x0 x1 x2 x3
    obtain ⟨x0, x1, x2, x3⟩ := QB.cells X.out
    go_wp2_with fail
    refine (CA.out _ K.out).mono ?_
    rintro e w3 ⟨rfl, hb⟩
    replace K := hide (btrans K.out hb)
    replace X := hide (X.out.below hb)
    replace Z := hide (Z.out.below hb)
    clear hb
    try clear x0 x1 x2 x3
    obtain ⟨x0, x1, x2, x3⟩ := QB.cells X.out
    try clear z0 z1 z2 f0 f1 f2
    obtain ⟨z0, z1, z2⟩ := SB.cells Z.out
    obtain ⟨f0, f1, f2⟩ := SB.free Z.out
    go_wp2
    exact ret_s2 rfl rfl rfl rfl (SB.put Z.out) (G.out) ⟨rfl, bset3 K.out (Nat.le_trans HG.out (Nat.le_succ _))⟩
  have G0 := B3.out ho (mE_0 hc ⟨i0, hac⟩)
  have V := vd_of hc
  rw [pR_ok ⟨hc, i0, hac⟩] at PT
  have ok := ho
  have i1 := ok.2.2.1
  have i2 := ok.2.2.2
  unfold inr at i1 i2
  dsimp only at i1 i2
  obtain ⟨a1, a2⟩ := i1
  obtain ⟨c1, c2⟩ := i2
  have TQ := hide (fun w => rtot_q pc ac ke us w ok)
  have S1 := hide (fun x (h : stp L (ke + us) (pth L ac) = x) (h0 : 0 ≤ x) => shS_1 (a := ⟨pc, ac, ke, us⟩) (n := n) (m := m) h h0)
  have S2 := hide (fun (h : stp L (ke + us) (pth L ac) = -1) h1 => shS_2 (a := ⟨pc, ac, ke, us⟩) (n := n) (m := m) h h1)
  have S3' := hide (fun (h : stp L (ke + us) (pth L ac) = -1) h1 h2 => shS_3 (a := ⟨pc, ac, ke, us⟩) (n := n) (m := m) h h1 h2)
  have S4 := hide (fun (h : stp L (ke + us) (pth L ac) = -1) h1 h2 => shS_4 (a := ⟨pc, ac, ke, us⟩) (n := n) (m := m) h h1 h2)
  have PM := hide (pth_ge V i0 hac)
  have PN := (pth_nlen ⟨chE_0 V, i0, hac⟩).2
  have PN1 := (pth_nlen ⟨chE_0 V, i0, hac⟩).1
  have RB' := hide (fun k (h : k < L.length) => rm_bd V h)
  have L8 := V.len.2
  have T2 := hide (show tot ⟨pc, ac, ke, us⟩ = ke + us from rfl)
  rw [T2.out] at S1 S3' S4
  have G1 := hide G0.2
  rw [G0.1] at S1 S2 S3' S4
  dsimp only at S2 S3' S4
  clear B1 B2 B3 G0 V ok ho hc T2
  generalize pth L ac = P at *
  go_enter Try.func27, Try.ntmps27
  go_upto_region 1 with fail
  rw [← HW.out, ← HB.out]
  clear HW HB
  try clear x0 x1 x2 x3
  obtain ⟨x0, x1, x2, x3⟩ := QB.cells X.out
  go_wp2_with fail
  refine (VA.out _).mono ?_
  rintro e w2 ⟨rfl, hb⟩
  replace K := hide (btrans K.out hb)
  replace X := hide (X.out.below hb)
  replace Z := hide (Z.out.below hb)
  clear hb
  try clear x0 x1 x2 x3
  obtain ⟨x0, x1, x2, x3⟩ := QB.cells X.out
  go_wp2_with fail
  refine (CA.out _ K.out).mono ?_
  rintro e w3 ⟨rfl, hb⟩
  replace K := hide (btrans K.out hb)
  replace X := hide (X.out.below hb)
  replace Z := hide (Z.out.below hb)
  clear hb
  try clear x0 x1 x2 x3
  obtain ⟨x0, x1, x2, x3⟩ := QB.cells X.out
  go_wp2_with fail
  refine (PT.out _ K.out).mono ?_
  rintro e w4 ⟨AP, c3, rfl, hO, hb⟩
  have PB := hide (OwI.bi hO)
  obtain ⟨bp, hAP, hbp, hbase, -⟩ := row_cell hO (by have := PN1; omega)
  subst hAP
  have HPG := hide (show bp ≠ g4 + 1 by have := Z.out.lt; omega)
  replace K := hide (btrans K.out hb)
  replace X := hide (X.out.below hb)
  replace Z := hide (Z.out.below hb)
  have HBP := hide hbp
  clear hb hO x0 x1 x2 x3 PT hbase hbp
  go_wp2
  go_loopw [12, 13] (fun i _ wr => ∃ k : Nat, k ≤ P.length ∧ i = .int .i64 k ∧ Hid (QB wr g4 ⟨pc, ac, ke, us⟩) ∧ Hid (SB wr (g4 + 1) ⟨0, 0, false⟩) ∧ Hid (Below w.heap.size w wr) ∧ Hid (Bi wr (some ⟨bp, 0, none⟩) P) ∧ Hid (∀ j, j < k → ke + us ≤ rm L (P.getD j 0))) (fun i _ _ => P.length - (intOf i).toNat)
  case atStart => exact ⟨0, Nat.zero_le _, rfl, X, Z, K, PB, hide (fun j h => by omega)⟩
  case round =>
    clear X Z K PB
    obtain ⟨k, hk, rfl, X, Z, K, PB, N⟩ := hrel
    by_cases hlt : k < P.length
    · have hl2 : (k : Int) < (P.length : Int) := by omega
      have hk0 : (0 : Int) ≤ (k : Int) := by omega
      obtain ⟨bp', op, hpe, hbp, p0⟩ := PB.out.cells (brefl _) hlt
      injection hpe with hpe
      injection hpe with hp1 hp2
      subst hp1 hp2
      rw [Nat.zero_add] at p0
      have PC := hide (fun W (hW : Below wr.heap.size wr W) => (hW.cell (p := ⟨bp, k, none⟩) hbp).trans p0)
      have hx := PM.out _ (getD_mem hlt)
      have ST := hide (fun (h : rm L (P.getD k 0) < ke + us) => S1.out _ (stp_at hlt (fun j hj => by have := N.out j hj; omega) h) hx.1)
      have NX := hide (fun (h : ¬ rm L (P.getD k 0) < ke + us) j (hj : j < k + 1) => (if e : j = k then e ▸ (show ke + us ≤ rm L (P.getD k 0) by omega) else N.out j (by omega) : ke + us ≤ rm L (P.getD j 0)))
      obtain ⟨x, hxx⟩ : ∃ x, x = P.getD k 0 := ⟨_, rfl⟩
      rw [← hxx] at p0 hx ST NX PC
      clear hxx
      obtain ⟨q, rfl⟩ := Int.eq_ofNat_of_zero_le hx.1
      have hq : q < L.length := by omega
      have hq2 : (q : Int) < (L.length : Int) := by omega
      have hq0 : (0 : Int) ≤ (q : Int) := by omega
      obtain ⟨b, off, rfl, hbl, y0, y1, y2, y3, y4⟩ := (HR.out _ K.out).cells (brefl _) hq
      have bd := RB'.out q hq
      unfold inr at bd
      have E := rm_n L q
      rw [E] at ST NX
      clear y0 y2 y3 E hx
      generalize Ac.us L q = u1 at *
      generalize Ac.mx L q = m1 at *
      obtain ⟨⟨b1, b2⟩, b3, b4⟩ := bd
      go_upto_region 12 with fail
      go_quiet (fail)
      generalize hwy : World.drewN wr _ = wy
      have hbq : Below wr.heap.size wr wy := by rw [← hwy]; exact below_drewN (brefl _) _
      have KQ := hide hbq
      replace K := hide (btrans K.out hbq)
      replace X := hide (X.out.below hbq)
      replace Z := hide (Z.out.below hbq)
      replace PB := hide (PB.out.below hbq)
      clear hwy hbq p0 y1 y4
      try clear x0 x1 x2 x3
      obtain ⟨x0, x1, x2, x3⟩ := QB.cells X.out
      by_cases h : m1 - u1 < ke + us
      · have G := hide (ST.out h)
        have hwr : IntKind.i64.wrap (ke + us - (m1 - u1)) = ke + us - (m1 - u1) := IntWalk.i64_in _ (by omega)
        clear ST NX
        go_wp2_with fail
        refine (TQ.out _).mono ?_
        rintro e w5 ⟨rfl, hb⟩
        replace K := hide (btrans K.out hb)
        replace X := hide (X.out.below hb)
        replace Z := hide (Z.out.below hb)
        replace KQ := hide (btrans KQ.out hb)
        clear hb
        clear x0 x1 x2 x3
        go_upto_region 14 with fail
        replace K := hide (show Below w.heap.size w w5.drew from btrans K.out (below_drewN (brefl _) 1))
        replace X := hide (X.out.below (show Below w5.heap.size w5 w5.drew from below_drewN (brefl _) 1))
        replace Z := hide (Z.out.below (show Below w5.heap.size w5 w5.drew from below_drewN (brefl _) 1))
        replace KQ := hide (show Below wr.heap.size wr w5.drew from btrans KQ.out (below_drewN (brefl _) 1))
        refine wp_region_noPanic ?_
        refine wp_region_held_drew (S := (fun W => (W.cell? ⟨g4, 0, none⟩ = some (.int .i64 pc) ∧ W.cell? ⟨g4, 1, none⟩ = some (.int .i64 ac) ∧ W.cell? ⟨g4, 2, none⟩ = some (.int .i64 ke) ∧ W.cell? ⟨g4, 3, none⟩ = some (.int .i64 us)) ∧ W.cell? ⟨bp, k, none⟩ = some (.int .i64 q))) (by kernel_rfl) ?_ (fun hHeld => ?_)
        · first | exact ⟨QB.cells X.out, PQ.out⟩ | exact ⟨QB.cells X.out, PC.out _ KQ.out⟩
        refine wpAnyH_take (i := 0) (oi := ⟨some 61, _, _, _, _, _⟩) (v := ?_) rfl (by kernel_rfl) (by kernel_rfl) (by kernel_rfl) (fun _ _ _ h => h) (Or.inl ⟨by kernel_rfl, ?_⟩) (by assumption) ?_
        rotate_left 1
        · (intro w hSw; (try dsimp only at hSw); go_simp) <;> (with_reducible rfl)
        (try simp only [Act.put, List.setIfInBounds_toArray, List.set_cons_succ, List.set_cons_zero])
        refine wpAnyH_take (i := 2) (oi := ⟨some 63, _, _, _, _, _⟩) (v := ?_) rfl (by kernel_rfl) (by kernel_rfl) (by kernel_rfl) (fun _ _ _ h => h) (Or.inl ⟨by kernel_rfl, ?_⟩) (by assumption) ?_
        rotate_left 1
        · (intro w hSw; (try dsimp only at hSw); go_simp) <;> (with_reducible rfl)
        (try simp only [Act.put, List.setIfInBounds_toArray, List.set_cons_succ, List.set_cons_zero])
        refine wpAnyH_take (i := 4) (oi := ⟨some 65, _, _, _, _, _⟩) (v := ?_) rfl (by kernel_rfl) (by kernel_rfl) (by kernel_rfl) (fun _ _ _ h => h) (Or.inl ⟨by kernel_rfl, ?_⟩) (by assumption) ?_
        rotate_left 1
        · (intro w hSw; (try dsimp only at hSw); go_simp) <;> (with_reducible rfl)
        (try simp only [Act.put, List.setIfInBounds_toArray, List.set_cons_succ, List.set_cons_zero])
        refine wpAnyH_take (i := 5) (oi := ⟨some 66, _, _, _, _, _⟩) (v := ?_) rfl (by kernel_rfl) (by kernel_rfl) (by kernel_rfl) (fun _ _ _ h => h) (Or.inl ⟨by kernel_rfl, ?_⟩) (by assumption) ?_
        rotate_left 1
        · (intro w hSw; (try dsimp only at hSw); go_simp) <;> (with_reducible rfl)
        (try simp only [Act.put, List.setIfInBounds_toArray, List.set_cons_succ, List.set_cons_zero])
        refine wpAnyH_take (i := 6) (oi := ⟨some 67, _, _, _, _, _⟩) (v := ?_) rfl (by kernel_rfl) (by kernel_rfl) (by kernel_rfl) (fun _ _ _ h => h) (Or.inl ⟨by kernel_rfl, ?_⟩) (by assumption) ?_
        rotate_left 1
        · (intro w hSw; (try dsimp only at hSw); go_simp) <;> (with_reducible rfl)
        (try simp only [Act.put, List.setIfInBounds_toArray, List.set_cons_succ, List.set_cons_zero])
        refine wpAnyH_take (i := 7) (oi := ⟨some 68, _, _, _, _, _⟩) (v := ?_) rfl (by kernel_rfl) (by kernel_rfl) (by kernel_rfl) (fun _ _ _ h => h) (Or.inl ⟨by kernel_rfl, ?_⟩) (by assumption) ?_
        rotate_left 1
        · (intro w hSw; (try dsimp only at hSw); go_simp) <;> (with_reducible rfl)
        (try simp only [Act.put, List.setIfInBounds_toArray, List.set_cons_succ, List.set_cons_zero])
        refine wpAnyH_ready (rs := [1]) (by kernel_rfl) (by simp) ?_
        refine AllReadyH.cons (o := ⟨some 62, _, _, _, _, _⟩) rfl (fun K' hK => ?_) AllReadyH.nil
        go_simp
        refine (TQ.out _).mono ?_
        rintro e w6 ⟨rfl, hb⟩
        replace K := hide (btrans K.out hb)
        replace X := hide (X.out.below hb)
        replace Z := hide (Z.out.below hb)
        replace KQ := hide (btrans KQ.out hb)
        clear hb
        refine hK.out _ _ ?_ (fun hHeld => ?_)
        · first | exact ⟨QB.cells X.out, PQ.out⟩ | exact ⟨QB.cells X.out, PC.out _ KQ.out⟩
        clear hK K'
        (try simp only [Act.put, List.setIfInBounds_toArray, List.set_cons_succ, List.set_cons_zero])
        refine wpAnyH_take (i := 3) (oi := ⟨some 64, _, _, _, _, _⟩) (v := ?_) rfl (by kernel_rfl) (by kernel_rfl) (by kernel_rfl) (fun _ _ _ h => h) (Or.inl ⟨by kernel_rfl, ?_⟩) (by assumption) ?_
        rotate_left 1
        · (intro w hSw; (try dsimp only at hSw); go_simp) <;> (with_reducible rfl)
        (try simp only [Act.put, List.setIfInBounds_toArray, List.set_cons_succ, List.set_cons_zero])
        refine wpAnyH_take (i := 8) (oi := ⟨some 69, _, _, _, _, _⟩) (v := ?_) rfl (by kernel_rfl) (by kernel_rfl) (by kernel_rfl) (fun _ _ _ h => h) (Or.inl ⟨by kernel_rfl, ?_⟩) (by assumption) ?_
        rotate_left 1
        · (intro w hSw; (try dsimp only at hSw); go_simp) <;> (with_reducible rfl)
        (try simp only [Act.put, List.setIfInBounds_toArray, List.set_cons_succ, List.set_cons_zero])
        refine wpAnyH_ready (rs := [9]) (by kernel_rfl) (by simp) ?_
        refine AllReadyH.cons (o := ⟨none, _, _, _, _, _⟩) rfl (fun K' hK => ?_) AllReadyH.nil
        obtain ⟨z0, z1, z2⟩ := SB.cells Z.out
        obtain ⟨f0, f1, f2⟩ := SB.free Z.out
        go_simp
        replace K := hide (show Below w.heap.size w (((w6.setCell ⟨g4 + 1, 0, none⟩ (.int .i64 (ke + us - (m1 - u1)))).setCell ⟨g4 + 1, 1, none⟩ (.int .i64 q)).setCell ⟨g4 + 1, 2, none⟩ (.bool false)) from bset3 K.out (Nat.le_trans HG.out (Nat.le_succ _)))
        replace Z := hide (show SB (((w6.setCell ⟨g4 + 1, 0, none⟩ (.int .i64 (ke + us - (m1 - u1)))).setCell ⟨g4 + 1, 1, none⟩ (.int .i64 q)).setCell ⟨g4 + 1, 2, none⟩ (.bool false)) (g4 + 1) ⟨ke + us - (m1 - u1), q, false⟩ from SB.put Z.out)
        replace X := hide (show QB (((w6.setCell ⟨g4 + 1, 0, none⟩ (.int .i64 (ke + us - (m1 - u1)))).setCell ⟨g4 + 1, 1, none⟩ (.int .i64 q)).setCell ⟨g4 + 1, 2, none⟩ (.bool false)) g4 ⟨pc, ac, ke, us⟩ from QB.far (QB.far (QB.far X.out (by omega) _) (by omega) _) (by omega) _)
        have PQ := hide (show (((w6.setCell ⟨g4 + 1, 0, none⟩ (.int .i64 (ke + us - (m1 - u1)))).setCell ⟨g4 + 1, 1, none⟩ (.int .i64 q)).setCell ⟨g4 + 1, 2, none⟩ (.bool false)).cell? ⟨bp, k, none⟩ = some (.int .i64 q) from (cell_far (HPG.out)).trans ((cell_far (HPG.out)).trans ((cell_far (HPG.out)).trans (PC.out _ KQ.out))))
        clear z0 z1 z2 f0 f1 f2
        generalize (((w6.setCell ⟨g4 + 1, 0, none⟩ (.int .i64 (ke + us - (m1 - u1)))).setCell ⟨g4 + 1, 1, none⟩ (.int .i64 q)).setCell ⟨g4 + 1, 2, none⟩ (.bool false)) = w7 at *
        refine hK.out _ _ ?_ (fun hHeld => ?_)
        · first | exact ⟨QB.cells X.out, PQ.out⟩ | exact ⟨QB.cells X.out, PC.out _ KQ.out⟩
        clear hK K'
        (try simp only [Act.put, List.setIfInBounds_toArray, List.set_cons_succ, List.set_cons_zero])
        refine wpAnyH_take (i := 10) (oi := ⟨some 9, _, _, _, _, _⟩) (v := ?_) rfl (by kernel_rfl) (by kernel_rfl) (by kernel_rfl) (fun _ _ _ h => h) (Or.inl ⟨by kernel_rfl, ?_⟩) (by assumption) ?_
        rotate_left 1
        · (intro w hSw; (try dsimp only at hSw); go_simp) <;> (with_reducible rfl)
        (try simp only [Act.put, List.setIfInBounds_toArray, List.set_cons_succ, List.set_cons_zero])
        refine wpAnyH_done (by kernel_rfl) ?_ _
        refine NoPanic.normal ?_
        go_wp2
        exact ret_s2 rfl rfl rfl rfl Z.out ⟨G.out, G1.out⟩ ⟨rfl, K.out⟩
      · have G := hide (NX.out h)
        clear ST NX PC KQ
        go_wp2_with fail
        refine (TQ.out _).mono ?_
        rintro e w5 ⟨rfl, hb⟩
        replace K := hide (btrans K.out hb)
        replace X := hide (X.out.below hb)
        replace Z := hide (Z.out.below hb)
        replace PB := hide (PB.out.below hb)
        clear hb
        clear x0 x1 x2 x3
        go_wp2
        go_roundw
        case rel => exact ⟨k + 1, by omega, by go_num, X, Z, K, PB, G⟩
        case measure => simp [intOf]; omega
    · obtain rfl : k = P.length := by omega
      have NO := stp_none (L := L) (n := ke + us) (P := P) (fun j hj => by have := N.out j hj; omega)
      replace S2 := hide (S2.out NO)
      replace S3' := hide (S3'.out NO)
      replace S4 := hide (S4.out NO)
      clear S1 NO N PB
      have ln : n < ke ↔ mxM n < ke := by unfold mxM; split <;> omega
      have lm : m < ke + us ↔ mxM m < ke + us := by unfold mxM; split <;> omega
      have T2 := hide (fun (h : mxM n < ke) => S2.out (ln.2 h))
      have T3 := hide (fun (h : ke ≤ mxM n) (h2 : mxM m < ke + us) => S3'.out (by omega) (lm.2 h2))
      have T4 := hide (fun (h : ke ≤ mxM n) (h2 : ke + us ≤ mxM m) => S4.out (by omega) (by omega))
      clear ln lm S2 S3' S4
      by_cases cn : -1048576 ≤ n
      · by_cases cm : -1048576 ≤ m
        · have e1 : mxM n = n := by unfold mxM; split <;> omega
          have e2 : mxM m = m := by unfold mxM; split <;> omega
          rw [e1] at T2 T3 T4
          rw [e2] at T3 T4
          clear e1 e2
          try clear x0 x1 x2 x3
          obtain ⟨x0, x1, x2, x3⟩ := QB.cells X.out
          by_cases h1 : n < ke
          · have G := hide (T2.out h1)
            clear T2 T3 T4
            try clear z0 z1 z2 f0 f1 f2
            obtain ⟨z0, z1, z2⟩ := SB.cells Z.out
            obtain ⟨f0, f1, f2⟩ := SB.free Z.out
            go_wp2
            exact ret_s2 rfl rfl rfl rfl (SB.put Z.out) ⟨G.out, G1.out⟩ ⟨rfl, bset3 K.out (Nat.le_trans HG.out (Nat.le_succ _))⟩
          by_cases h2 : m < ke + us
          · have G := hide (T3.out (by omega) h2)
            clear T2 T3 T4
            go_wp2_with fail
            refine (TQ.out _).mono ?_
            rintro e w5 ⟨rfl, hb⟩
            replace K := hide (btrans K.out hb)
            replace X := hide (X.out.below hb)
            replace Z := hide (Z.out.below hb)
            clear hb
            try clear x0 x1 x2 x3
            obtain ⟨x0, x1, x2, x3⟩ := QB.cells X.out
            go_wp2_with fail
            refine (TQ.out _).mono ?_
            rintro e w6 ⟨rfl, hb⟩
            replace K := hide (btrans K.out hb)
            replace X := hide (X.out.below hb)
            replace Z := hide (Z.out.below hb)
            clear hb
            try clear x0 x1 x2 x3
            obtain ⟨x0, x1, x2, x3⟩ := QB.cells X.out
            try clear z0 z1 z2 f0 f1 f2
            obtain ⟨z0, z1, z2⟩ := SB.cells Z.out
            obtain ⟨f0, f1, f2⟩ := SB.free Z.out
            go_wp2
            exact ret_s2 rfl rfl rfl rfl (SB.put Z.out) ⟨G.out, G1.out⟩ ⟨rfl, bset3 K.out (Nat.le_trans HG.out (Nat.le_succ _))⟩
          have G := hide (T4.out (by omega) (by omega))
          clear T2 T3 T4
          go_wp2_with fail
          refine (TQ.out _).mono ?_
          rintro e w5 ⟨rfl, hb⟩
          replace K := hide (btrans K.out hb)
          replace X := hide (X.out.below hb)
          replace Z := hide (Z.out.below hb)
          clear hb
          try clear x0 x1 x2 x3
          obtain ⟨x0, x1, x2, x3⟩ := QB.cells X.out
          try clear z0 z1 z2 f0 f1 f2
          obtain ⟨z0, z1, z2⟩ := SB.cells Z.out
          obtain ⟨f0, f1, f2⟩ := SB.free Z.out
          go_wp2
          exact ret_s2 rfl rfl rfl rfl (SB.put Z.out) ⟨G.out, G1.out⟩ ⟨rfl, bset3 K.out (Nat.le_trans HG.out (Nat.le_succ _))⟩
        · have e1 : mxM n = n := by unfold mxM; split <;> omega
          have e2 : mxM m = -1048576 := if_pos (by omega)
          rw [e1] at T2 T3 T4
          rw [e2] at T3 T4
          clear e1 e2
          try clear x0 x1 x2 x3
          obtain ⟨x0, x1, x2, x3⟩ := QB.cells X.out
          by_cases h1 : n < ke
          · have G := hide (T2.out h1)
            clear T2 T3 T4
            try clear z0 z1 z2 f0 f1 f2
            obtain ⟨z0, z1, z2⟩ := SB.cells Z.out
            obtain ⟨f0, f1, f2⟩ := SB.free Z.out
            go_wp2
            exact ret_s2 rfl rfl rfl rfl (SB.put Z.out) ⟨G.out, G1.out⟩ ⟨rfl, bset3 K.out (Nat.le_trans HG.out (Nat.le_succ _))⟩
          have h2 : (-1048576 : Int) < ke + us := by omega
          have G := hide (T3.out (by omega) h2)
          clear T2 T3 T4
          go_wp2_with fail
          refine (TQ.out _).mono ?_
          rintro e w5 ⟨rfl, hb⟩
          replace K := hide (btrans K.out hb)
          replace X := hide (X.out.below hb)
          replace Z := hide (Z.out.below hb)
          clear hb
          try clear x0 x1 x2 x3
          obtain ⟨x0, x1, x2, x3⟩ := QB.cells X.out
          go_wp2_with fail
          refine (TQ.out _).mono ?_
          rintro e w6 ⟨rfl, hb⟩
          replace K := hide (btrans K.out hb)
          replace X := hide (X.out.below hb)
          replace Z := hide (Z.out.below hb)
          clear hb
          try clear x0 x1 x2 x3
          obtain ⟨x0, x1, x2, x3⟩ := QB.cells X.out
          try clear z0 z1 z2 f0 f1 f2
          obtain ⟨z0, z1, z2⟩ := SB.cells Z.out
          obtain ⟨f0, f1, f2⟩ := SB.free Z.out
          go_wp2
          exact ret_s2 rfl rfl rfl rfl (SB.put Z.out) ⟨G.out, G1.out⟩ ⟨rfl, bset3 K.out (Nat.le_trans HG.out (Nat.le_succ _))⟩
      · by_cases cm : -1048576 ≤ m
        · have e1 : mxM n = -1048576 := if_pos (by omega)
          have e2 : mxM m = m := by unfold mxM; split <;> omega
          rw [e1] at T2 T3 T4
          rw [e2] at T3 T4
          clear e1 e2
          try clear x0 x1 x2 x3
          obtain ⟨x0, x1, x2, x3⟩ := QB.cells X.out
          have h1 : (-1048576 : Int) < ke := by omega
          have G := hide (T2.out h1)
          clear T2 T3 T4
          try clear z0 z1 z2 f0 f1 f2
          obtain ⟨z0, z1, z2⟩ := SB.cells Z.out
          obtain ⟨f0, f1, f2⟩ := SB.free Z.out
          go_wp2
          exact ret_s2 rfl rfl rfl rfl (SB.put Z.out) ⟨G.out, G1.out⟩ ⟨rfl, bset3 K.out (Nat.le_trans HG.out (Nat.le_succ _))⟩
        · have e1 : mxM n = -1048576 := if_pos (by omega)
          have e2 : mxM m = -1048576 := if_pos (by omega)
          rw [e1] at T2 T3 T4
          rw [e2] at T3 T4
          clear e1 e2
          try clear x0 x1 x2 x3
          obtain ⟨x0, x1, x2, x3⟩ := QB.cells X.out
          have h1 : (-1048576 : Int) < ke := by omega
          have G := hide (T2.out h1)
          clear T2 T3 T4
          try clear z0 z1 z2 f0 f1 f2
          obtain ⟨z0, z1, z2⟩ := SB.cells Z.out
          obtain ⟨f0, f1, f2⟩ := SB.free Z.out
          go_wp2
          exact ret_s2 rfl rfl rfl rfl (SB.put Z.out) ⟨G.out, G1.out⟩ ⟨rfl, bset3 K.out (Nat.le_trans HG.out (Nat.le_succ _))⟩
end Go.Proofs.Ytimclgmajhhheaa.Gr
