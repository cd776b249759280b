import Derived.Test.YtimclgmajhhheaaG6
namespace Go.Proofs.Ytimclgmajhhheaa.Gr
open Go Go.RowKit Ac
set_option linter.unusedVariables false
set_option linter.unusedSimpArgs false
theorem ret_s1 {fn : Func} {a : Act} {W : World} {g : Nat} {s s' : S3} {Q : Ending → World → Prop} (hr : fn.results = #[.cell 8 38]) (h4 : a.tmps.getD 8 undef = .pointer (some ⟨g, 0, none⟩)) (hd : a.defers = [])
    (hE : SB W g s) (he : s = s') (hq : Q (.returned (.agg #[.int .i64 s'.c, .int .i64 s'.s, .bool s'.k])) W) : bodyPost Try.prog fn Q .ret a W := by
  subst he
  obtain ⟨c, x, k⟩ := s
  obtain ⟨x0, x1, x2⟩ := hE.cells
  simp only [Array.getD_eq_getD_getElem?] at h4
  exact bodyPost_ret (v := .agg #[.int .i64 c, .int .i64 x, .bool k]) (by simp [results, hr, h4, go_sem, x0, x1, x2]) hd hq
theorem ret_s2 {fn : Func} {a : Act} {W : World} {g : Nat} {s s' : S3} {e e' : Int} {Q : Ending → World → Prop} (hr : fn.results = #[.cell 8 38, .tmp 9]) (h4 : a.tmps.getD 8 undef = .pointer (some ⟨g, 0, none⟩)) (h9 : a.tmps.getD 9 undef = .int .i64 e) (hd : a.defers = [])
    (hE : SB W g s) (he : s = s' ∧ e = e') (hq : Q (.returned (.tuple #[.agg #[.int .i64 s'.c, .int .i64 s'.s, .bool s'.k], .int .i64 e'])) W) : bodyPost Try.prog fn Q .ret a W := by
  obtain ⟨rfl, rfl⟩ := he
  obtain ⟨c, x, k⟩ := s
  obtain ⟨x0, x1, x2⟩ := hE.cells
  simp only [Array.getD_eq_getD_getElem?] at h4 h9
  exact bodyPost_ret (v := .tuple #[.agg #[.int .i64 c, .int .i64 x, .bool k], .int .i64 e]) (by simp [results, hr, h4, h9, go_sem, x0, x1, x2]) hd hq
theorem getD_mem {P : Is} {k : Nat} (hk : k < P.length) : P.getD k 0 ∈ P := mem_at.2 ⟨k, hk, rfl⟩
theorem shS_1 {a : A4} {L : List A5} {n m x : Int} (h : stp L (tot a) (pth L a.ac) = x) (h0 : 0 ≤ x) : (⟨tot a - rm L x, x, false⟩ : S3) = shS a L n m := by unfold shS; rw [h, if_pos h0]
theorem shS_2 {a : A4} {L : List A5} {n m : Int} (h : stp L (tot a) (pth L a.ac) = -1) (h1 : n < a.ke) : (⟨a.ke - mxM n, -1, true⟩ : S3) = shS a L n m := by unfold shS; rw [h, if_neg (by omega), if_pos h1]
theorem shS_3 {a : A4} {L : List A5} {n m : Int} (h : stp L (tot a) (pth L a.ac) = -1) (h1 : ¬ n < a.ke) (h2 : m < tot a) : (⟨tot a - mxM m, -1, false⟩ : S3) = shS a L n m := by unfold shS; rw [h, if_neg (by omega), if_neg h1, if_pos h2]
theorem shS_4 {a : A4} {L : List A5} {n m : Int} (h : stp L (tot a) (pth L a.ac) = -1) (h1 : ¬ n < a.ke) (h2 : ¬ m < tot a) : (⟨0, -1, false⟩ : S3) = shS a L n m := by unfold shS; rw [h, if_neg (by omega), if_neg h1, if_neg h2]
set_option maxRecDepth 100000 in
set_option maxHeartbeats 8000000 in
theorem shortage_any (pc ac ke us : Int) (A : Option Addr) (cp : Nat) (L : List A5) (n m : Int) (w : World) (hr : As w A L) (hcp : L.length ≤ cp) (V : Vd L) (ok : okQ ⟨pc, ac, ke, us⟩) (hac : ac < L.length) : Calls Try.prog 70 #[.agg #[.int .i64 pc, .int .i64 ac, .int .i64 ke, .int .i64 us], .slice A L.length cp, .int .i64 n, .int .i64 m] w (fun e w' => e = .returned (.agg #[.int .i64 (shS ⟨pc, ac, ke, us⟩ L n m).c, .int .i64 (shS ⟨pc, ac, ke, us⟩ L n m).s, .bool (shS ⟨pc, ac, ke, us⟩ L n m).k]) ∧ Below w.heap.size w w') := by
  have X := hide (show QB ((w.alloc (.cells #[.int .i64 pc, .int .i64 ac, .int .i64 ke, .int .i64 us] 27)).alloc (.cells #[.int .i64 0, .int .i64 0, .bool false] 38)) w.heap.size ⟨pc, ac, ke, us⟩ from Box.more (Box.new w 27 #[.int .i64 pc, .int .i64 ac, .int .i64 ke, .int .i64 us]) (.cells #[.int .i64 0, .int .i64 0, .bool false] 38))
  have Z := hide (show SB ((w.alloc (.cells #[.int .i64 pc, .int .i64 ac, .int .i64 ke, .int .i64 us] 27)).alloc (.cells #[.int .i64 0, .int .i64 0, .bool false] 38)) (w.heap.size + 1) ⟨0, 0, false⟩ from Box.new2 w (.cells #[.int .i64 pc, .int .i64 ac, .int .i64 ke, .int .i64 us] 27) 38 #[.int .i64 0, .int .i64 0, .bool false])
  have K := hide (show Below w.heap.size w ((w.alloc (.cells #[.int .i64 pc, .int .i64 ac, .int .i64 ke, .int .i64 us] 27)).alloc (.cells #[.int .i64 0, .int .i64 0, .bool false] 38)) from bal2 w _ _)
  obtain ⟨W0, hW0⟩ : ∃ W0, W0 = (w.alloc (.cells #[.int .i64 pc, .int .i64 ac, .int .i64 ke, .int .i64 us] 27)).alloc (.cells #[.int .i64 0, .int .i64 0, .bool false] 38) := ⟨_, rfl⟩
  rw [← hW0] at X Z K
  obtain ⟨g4, hg4⟩ : ∃ g4, g4 = w.heap.size := ⟨_, rfl⟩
  have HG := hide (show w.heap.size ≤ g4 by omega)
  rw [← hg4] at X Z
  have HW := hide hW0
  have HB := hide hg4
  clear hW0 hg4
  have i1 := ok.2.2.1
  have i2 := ok.2.2.2
  have i0 := ok.2.1
  unfold inr at i1 i2
  dsimp only at i1 i2 i0
  obtain ⟨a1, a2⟩ := i1
  obtain ⟨c1, c2⟩ := i2
  have HR := hide (fun w' (h : Below w.heap.size w w') => hr.below h)
  have PT := hide (fun w' (h : Below w.heap.size w w') => path_any A cp L ac w' (hr.below h) hcp (by have := V.len.2; omega))
  unfold PR at PT
  rw [pR_ok ⟨chE_0 V, i0, hac⟩] at PT
  have TQ := hide (fun w => tot_q pc ac ke us w ok)
  have S1 := hide (fun x (h : stp L (ke + us) (pth L ac) = x) (h0 : 0 ≤ x) => shS_1 (a := ⟨pc, ac, ke, us⟩) (n := n) (m := m) h h0)
  have S2 := hide (fun (h : stp L (ke + us) (pth L ac) = -1) h1 => shS_2 (a := ⟨pc, ac, ke, us⟩) (n := n) (m := m) h h1)
  have S3' := hide (fun (h : stp L (ke + us) (pth L ac) = -1) h1 h2 => shS_3 (a := ⟨pc, ac, ke, us⟩) (n := n) (m := m) h h1 h2)
  have S4 := hide (fun (h : stp L (ke + us) (pth L ac) = -1) h1 h2 => shS_4 (a := ⟨pc, ac, ke, us⟩) (n := n) (m := m) h h1 h2)
  have PM := hide (pth_ge V i0 hac)
  have PN := (pth_nlen ⟨chE_0 V, i0, hac⟩).2
  have RB' := hide (fun k (h : k < L.length) => rm_bd V h)
  have L8 := V.len.2
  have T2 := hide (show tot ⟨pc, ac, ke, us⟩ = ke + us from rfl)
  rw [T2.out] at S1 S3' S4
  obtain ⟨sv, hsv⟩ : ∃ s, s = shS ⟨pc, ac, ke, us⟩ L n m := ⟨_, rfl⟩
  rw [← hsv] at S1 S2 S3' S4 ⊢
  dsimp only at S2 S3' S4
  clear hsv hr hcp V ok hac T2
  generalize pth L ac = P at *
  go_enter Try.func70, Try.ntmps70
  go_upto_region 1 with fail
  rw [← HW.out, ← HB.out]
  clear HW HB
  try clear x0 x1 x2 x3
  obtain ⟨x0, x1, x2, x3⟩ := QB.cells X.out
  go_wp2_with fail
  refine (PT.out _ K.out).mono ?_
  rintro e w2 ⟨AP, c3, rfl, hO, hb⟩
  have PB := hide (OwI.bi hO)
  replace K := hide (btrans K.out hb)
  replace X := hide (X.out.below hb)
  replace Z := hide (Z.out.below hb)
  clear hb hO x0 x1 x2 x3 PT
  go_wp2
  go_loopw [17, 10, 11] (fun i _ _ wr => ∃ k : Nat, k ≤ P.length ∧ i = .int .i64 k ∧ Hid (QB wr g4 ⟨pc, ac, ke, us⟩) ∧ Hid (SB wr (g4 + 1) ⟨0, 0, false⟩) ∧ Hid (Below w.heap.size w wr) ∧ Hid (Bi wr AP P) ∧ Hid (∀ j, j < k → ke + us ≤ rm L (P.getD j 0))) (fun i _ _ _ => P.length - (intOf i).toNat)
  case atStart => exact ⟨0, Nat.zero_le _, rfl, X, Z, K, PB, hide (fun j h => by omega)⟩
  case round =>
    clear X Z K PB
    obtain ⟨k, hk, rfl, X, Z, K, PB, N⟩ := hrel
    by_cases hlt : k < P.length
    · have hl2 : (k : Int) < (P.length : Int) := by omega
      have hk0 : (0 : Int) ≤ (k : Int) := by omega
      obtain ⟨bp, op, rfl, _, p0⟩ := PB.out.cells (brefl _) hlt
      have hx := PM.out _ (getD_mem hlt)
      have ST := hide (fun (h : rm L (P.getD k 0) < ke + us) => S1.out _ (stp_at hlt (fun j hj => by have := N.out j hj; omega) h) hx.1)
      have NX := hide (fun (h : ¬ rm L (P.getD k 0) < ke + us) j (hj : j < k + 1) => (if e : j = k then e ▸ (show ke + us ≤ rm L (P.getD k 0) by omega) else N.out j (by omega) : ke + us ≤ rm L (P.getD j 0)))
      obtain ⟨x, hxx⟩ : ∃ x, x = P.getD k 0 := ⟨_, rfl⟩
      rw [← hxx] at p0 hx ST NX
      clear hxx
      obtain ⟨q, rfl⟩ := Int.eq_ofNat_of_zero_le hx.1
      have hq : q < L.length := by omega
      have hq2 : (q : Int) < (L.length : Int) := by omega
      have hq0 : (0 : Int) ≤ (q : Int) := by omega
      obtain ⟨b, off, rfl, hbl, y0, y1, y2, y3, y4⟩ := (HR.out _ K.out).cells (brefl _) hq
      have bd := RB'.out q hq
      unfold inr at bd
      have E := rm_n L q
      rw [E] at ST NX
      clear y0 y2 y3 E hx
      generalize Ac.us L q = u1 at *
      generalize Ac.mx L q = m1 at *
      obtain ⟨⟨b1, b2⟩, b3, b4⟩ := bd
      go_upto_region 4 with fail
      go_quiet (fail)
      generalize hwy : World.drewN wr _ = wy
      have hbq : Below wr.heap.size wr wy := by rw [← hwy]; exact below_drewN (brefl _) _
      replace K := hide (btrans K.out hbq)
      replace X := hide (X.out.below hbq)
      replace Z := hide (Z.out.below hbq)
      replace PB := hide (PB.out.below hbq)
      clear hwy hbq p0 y1 y4
      try clear x0 x1 x2 x3
      obtain ⟨x0, x1, x2, x3⟩ := QB.cells X.out
      by_cases h : m1 - u1 < ke + us
      · have G := hide (ST.out h)
        clear ST NX
        go_wp2_with fail
        refine (TQ.out _).mono ?_
        rintro e w5 ⟨rfl, hb⟩
        replace K := hide (btrans K.out hb)
        replace X := hide (X.out.below hb)
        replace Z := hide (Z.out.below hb)
        clear hb
        try clear x0 x1 x2 x3
        obtain ⟨x0, x1, x2, x3⟩ := QB.cells X.out
        go_wp2_with fail
        refine (TQ.out _).mono ?_
        rintro e w6 ⟨rfl, hb⟩
        replace K := hide (btrans K.out hb)
        replace X := hide (X.out.below hb)
        replace Z := hide (Z.out.below hb)
        clear hb
        try clear x0 x1 x2 x3
        obtain ⟨x0, x1, x2, x3⟩ := QB.cells X.out
        try clear z0 z1 z2 f0 f1 f2
        obtain ⟨z0, z1, z2⟩ := SB.cells Z.out
        obtain ⟨f0, f1, f2⟩ := SB.free Z.out
        go_wp2
        exact ret_s1 rfl rfl rfl (SB.put Z.out) (G.out) ⟨rfl, bset3 K.out (Nat.le_trans HG.out (Nat.le_succ _))⟩
      · have G := hide (NX.out h)
        clear ST NX
        go_wp2_with fail
        refine (TQ.out _).mono ?_
        rintro e w5 ⟨rfl, hb⟩
        replace K := hide (btrans K.out hb)
        replace X := hide (X.out.below hb)
        replace Z := hide (Z.out.below hb)
        replace PB := hide (PB.out.below hb)
        clear hb
        clear x0 x1 x2 x3
        go_wp2
        go_roundw
        case rel => exact ⟨k + 1, by omega, by go_num, X, Z, K, PB, G⟩
        case measure => simp [intOf]; omega
    · obtain rfl : k = P.length := by omega
      have NO := stp_none (L := L) (n := ke + us) (P := P) (fun j hj => by have := N.out j hj; omega)
      replace S2 := hide (S2.out NO)
      replace S3' := hide (S3'.out NO)
      replace S4 := hide (S4.out NO)
      clear S1 NO N PB
      try clear x0 x1 x2 x3
      obtain ⟨x0, x1, x2, x3⟩ := QB.cells X.out
      by_cases h1 : n < ke
      · have G := hide (S2.out h1)
        have MI := hide (fun w => miss_any ke n w (by omega) (by omega) h1)
        clear S2 S3' S4
        go_wp2_with fail
        refine (MI.out _).mono ?_
        rintro e w5 ⟨rfl, rfl⟩
        try clear z0 z1 z2 f0 f1 f2
        obtain ⟨z0, z1, z2⟩ := SB.cells Z.out
        obtain ⟨f0, f1, f2⟩ := SB.free Z.out
        go_wp2
        exact ret_s1 rfl rfl rfl (SB.put Z.out) (G.out) ⟨rfl, bset3 K.out (Nat.le_trans HG.out (Nat.le_succ _))⟩
      by_cases h2 : m < ke + us
      · have G := hide (S3'.out (by omega) h2)
        have MI := hide (fun w => miss_any (ke + us) m w (by omega) (by omega) h2)
        clear S2 S3' S4
        go_wp2_with fail
        refine (TQ.out _).mono ?_
        rintro e w5 ⟨rfl, hb⟩
        replace K := hide (btrans K.out hb)
        replace X := hide (X.out.below hb)
        replace Z := hide (Z.out.below hb)
        clear hb
        try clear x0 x1 x2 x3
        obtain ⟨x0, x1, x2, x3⟩ := QB.cells X.out
        go_wp2_with fail
        refine (TQ.out _).mono ?_
        rintro e w6 ⟨rfl, hb⟩
        replace K := hide (btrans K.out hb)
        replace X := hide (X.out.below hb)
        replace Z := hide (Z.out.below hb)
        clear hb
        try clear x0 x1 x2 x3
        obtain ⟨x0, x1, x2, x3⟩ := QB.cells X.out
        go_wp2_with fail
        refine (MI.out _).mono ?_
        rintro e w7 ⟨rfl, rfl⟩
        try clear z0 z1 z2 f0 f1 f2
        obtain ⟨z0, z1, z2⟩ := SB.cells Z.out
        obtain ⟨f0, f1, f2⟩ := SB.free Z.out
        go_wp2
        exact ret_s1 rfl rfl rfl (SB.put Z.out) (G.out) ⟨rfl, bset3 K.out (Nat.le_trans HG.out (Nat.le_succ _))⟩
      have G := hide (S4.out (by omega) (by omega))
      clear S2 S3' S4
      go_wp2_with fail
      refine (TQ.out _).mono ?_
      rintro e w5 ⟨rfl, hb⟩
      replace K := hide (btrans K.out hb)
      replace X := hide (X.out.below hb)
      replace Z := hide (Z.out.below hb)
      clear hb
      try clear x0 x1 x2 x3
      obtain ⟨x0, x1, x2, x3⟩ := QB.cells X.out
      try clear z0 z1 z2 f0 f1 f2
      obtain ⟨z0, z1, z2⟩ := SB.cells Z.out
      obtain ⟨f0, f1, f2⟩ := SB.free Z.out
      go_wp2
      exact ret_s1 rfl rfl rfl (SB.put Z.out) (G.out) ⟨rfl, bset3 K.out (Nat.le_trans HG.out (Nat.le_succ _))⟩
end Go.Proofs.Ytimclgmajhhheaa.Gr
