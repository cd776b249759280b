import Derived.Test.YtdpdlbonlpdkjaaDoorRJoin
namespace Go.Proofs.YtdpdlbonlpdkjaaDoor.Bs
open Go Go.RowKit
set_option linter.unusedVariables false
theorem joins_and (s t : Int) (A B : Option Addr) (xs ys : List Nat) (c d : Nat) (hx : ∀ x ∈ xs, x < 2 ^ 64) (hy : ∀ x ∈ ys, x < 2 ^ 64) (hn : xs.length ≤ 9223372036854775807) (hm : ys.length ≤ 9223372036854775807) :
    ∃ (sz : Int) (zs : List Nat) (er : Int), zs.length ≤ 64 ∧
      (∀ W, Wd W A xs → Wd W B ys → Calls Tryd.prog 27 #[.agg #[.int .i64 s, .slice A xs.length c], .agg #[.int .i64 t, .slice B ys.length d]] W (BitsMine sz zs er W)) ∧
      (∀ W, Wd W A xs → Wd W B ys → Calls Tryd.prog 28 #[.agg #[.int .i64 s, .slice A xs.length c], .agg #[.int .i64 t, .slice B ys.length d]] W (BitsMine sz zs er W)) := by
  by_cases h0 : bothE s t xs ys = 0
  · obtain ⟨h1, h2, rfl⟩ := both_zero h0
    obtain ⟨S, rfl, l1⟩ := ok_size h1
    obtain ⟨X, hX⟩ := bits_exist xs.length (candV xs ys)
    refine ⟨S, X, 0, by rw [hX.1]; exact l1, fun W k1 k2 => and_is S A B xs ys X c d W k1 k2 hx hy h1 h2 hX, fun W k1 k2 => ?_⟩
    exact (rcand_good S A B xs ys c d W k1 k2 hx hy h1 h2).mono fun e w' ⟨A', c', us, he, hf, hm, hb⟩ => by
      obtain rfl := hf.one hX
      exact ⟨A', c', by rw [he, hf.1], hm, hb⟩
  · have h1 : (bothE s t xs ys == 0) = false := by simpa using h0
    exact ⟨0, [], bothE s t xs ys, by simp, fun W k1 k2 => and_err s t _ A B xs ys c d W k1 k2 hx hy hn hm rfl h1, fun W k1 k2 => rcand_bad s t _ A B xs ys c d W k1 k2 hx hy rfl h1⟩
theorem joins_or (s t : Int) (A B : Option Addr) (xs ys : List Nat) (c d : Nat) (hx : ∀ x ∈ xs, x < 2 ^ 64) (hy : ∀ x ∈ ys, x < 2 ^ 64) (hn : xs.length ≤ 9223372036854775807) (hm : ys.length ≤ 9223372036854775807) :
    ∃ (sz : Int) (zs : List Nat) (er : Int), zs.length ≤ 64 ∧
      (∀ W, Wd W A xs → Wd W B ys → Calls Tryd.prog 29 #[.agg #[.int .i64 s, .slice A xs.length c], .agg #[.int .i64 t, .slice B ys.length d]] W (BitsMine sz zs er W)) ∧
      (∀ W, Wd W A xs → Wd W B ys → Calls Tryd.prog 30 #[.agg #[.int .i64 s, .slice A xs.length c], .agg #[.int .i64 t, .slice B ys.length d]] W (BitsMine sz zs er W)) := by
  by_cases h0 : bothE s t xs ys = 0
  · obtain ⟨h1, h2, rfl⟩ := both_zero h0
    obtain ⟨S, rfl, l1⟩ := ok_size h1
    obtain ⟨X, hX⟩ := bits_exist xs.length (corV xs ys)
    refine ⟨S, X, 0, by rw [hX.1]; exact l1, fun W k1 k2 => or_is S A B xs ys X c d W k1 k2 hx hy h1 h2 hX, fun W k1 k2 => ?_⟩
    exact (rcor_good S A B xs ys c d W k1 k2 hx hy h1 h2).mono fun e w' ⟨A', c', us, he, hf, hm, hb⟩ => by
      obtain rfl := hf.one hX
      exact ⟨A', c', by rw [he, hf.1], hm, hb⟩
  · have h1 : (bothE s t xs ys == 0) = false := by simpa using h0
    exact ⟨0, [], bothE s t xs ys, by simp, fun W k1 k2 => or_err s t _ A B xs ys c d W k1 k2 hx hy hn hm rfl h1, fun W k1 k2 => rcor_bad s t _ A B xs ys c d W k1 k2 hx hy rfl h1⟩
theorem joins_not (s : Int) (A : Option Addr) (xs : List Nat) (c : Nat) (hx : ∀ x ∈ xs, x < 2 ^ 64) (hn : xs.length ≤ 9223372036854775807) :
    ∃ (sz : Int) (zs : List Nat) (er : Int), zs.length ≤ 64 ∧
      (∀ W, Wd W A xs → Calls Tryd.prog 31 #[.agg #[.int .i64 s, .slice A xs.length c]] W (BitsMine sz zs er W)) ∧
      (∀ W, Wd W A xs → Calls Tryd.prog 32 #[.agg #[.int .i64 s, .slice A xs.length c]] W (BitsMine sz zs er W)) := by
  by_cases h1 : chk s xs = 0
  · obtain ⟨S, rfl, l1⟩ := ok_size h1
    obtain ⟨X, hX⟩ := bits_exist xs.length (notV S xs)
    refine ⟨S, X, 0, by rw [hX.1]; exact l1, fun W k1 => not_is S A xs X c W k1 hx h1 hX, fun W k1 => ?_⟩
    exact (rnot_good S A xs c W k1 hx h1).mono fun e w' ⟨A', c', us, he, hf, hm, hb⟩ => by
      obtain rfl := hf.one hX
      exact ⟨A', c', by rw [he, hf.1], hm, hb⟩
  · have h2 : (chk s xs == 0) = false := by simpa using h1
    exact ⟨0, [], chk s xs, by simp, fun W k1 => (not_far s _ A xs c W k1 hx hn rfl h2).mono fun _ _ h => bitsMine_err h, fun W k1 => (rnot_far s _ A xs c W k1 hx rfl h2).mono fun _ _ h => bitsMine_err h⟩
/-- What the law's walk knows of a world: the four boxes, that nothing old has turned. -/
structure JSt (w : World) (s t : Int) (VA VB : Value) (gx gy : Nat) (sx : Int) (vx : Value) (sy : Int) (vy : Value) (W : World) : Prop where
  old : Below w.heap.size w W
  ba : BoxIs W w.heap.size s VA
  bb : BoxIs W (w.heap.size + 1) t VB
  bx : BoxIs W gx sx vx
  yb : BoxIs W gy sy vy
theorem JSt.next {w W W' : World} {s t : Int} {VA VB : Value} {gx gy : Nat} {sx : Int} {vx : Value} {sy : Int} {vy : Value} (h : JSt w s t VA VB gx gy sx vx sy vy W) (hb : Below W.heap.size W W') : JSt w s t VA VB gx gy sx vx sy vy W' :=
  ⟨btrans h.old hb, h.ba.below hb, h.bb.below hb, h.bx.below hb, h.yb.below hb⟩
theorem JSt.putx {w W : World} {s t : Int} {VA VB : Value} {gx gy : Nat} {sx : Int} {vx : Value} {sy : Int} {vy : Value} (h : JSt w s t VA VB gx gy sx vx sy vy W) (g1 : w.heap.size + 2 ≤ gx) (g3 : gx ≠ gy) (s' : Int) (v' : Value) :
    JSt w s t VA VB gx gy s' v' sy vy ((W.setCell ⟨gx, 0, none⟩ (.int .i64 s')).setCell ⟨gx, 1, none⟩ v') :=
  ⟨bset (bset h.old (by show w.heap.size ≤ gx; omega) _) (by show w.heap.size ≤ gx; omega) _, (h.ba.far (by show w.heap.size ≠ gx; omega) _).far (by show w.heap.size ≠ gx; omega) _, (h.bb.far (by show w.heap.size + 1 ≠ gx; omega) _).far (by show w.heap.size + 1 ≠ gx; omega) _, h.bx.put, (h.yb.far (by show gy ≠ gx; omega) _).far (by show gy ≠ gx; omega) _⟩
theorem JSt.puty {w W : World} {s t : Int} {VA VB : Value} {gx gy : Nat} {sx : Int} {vx : Value} {sy : Int} {vy : Value} (h : JSt w s t VA VB gx gy sx vx sy vy W) (g2 : w.heap.size + 2 ≤ gy) (g3 : gx ≠ gy) (s' : Int) (v' : Value) :
    JSt w s t VA VB gx gy sx vx s' v' ((W.setCell ⟨gy, 0, none⟩ (.int .i64 s')).setCell ⟨gy, 1, none⟩ v') :=
  ⟨bset (bset h.old (by show w.heap.size ≤ gy; omega) _) (by show w.heap.size ≤ gy; omega) _, (h.ba.far (by show w.heap.size ≠ gy; omega) _).far (by show w.heap.size ≠ gy; omega) _, (h.bb.far (by show w.heap.size + 1 ≠ gy; omega) _).far (by show w.heap.size + 1 ≠ gy; omega) _, (h.bx.far (by show gx ≠ gy; omega) _).far (by show gx ≠ gy; omega) _, h.yb.put⟩
theorem Mine.below {B : Nat} {w w' : World} {A : Option Addr} {zs : List Nat} (h : Mine B w A zs) (hb : Below w.heap.size w w') : Mine B w' A zs := fun hn => by
  obtain ⟨g, e, hg, ho⟩ := h hn
  exact ⟨g, e, hg, ho.below hb ho.lt⟩
theorem mine_put {B : Nat} {W : World} {A : Option Addr} {zs : List Nat} (h : Mine B W A zs) {g : Nat} (hg : g < B) (u v : Value) : Mine B ((W.setCell ⟨g, 0, none⟩ u).setCell ⟨g, 1, none⟩ v) A zs :=
  mine_far (mine_far h hg _) hg _
set_option maxHeartbeats 1000000 in
theorem law_joins (s t : Int) (A B : Option Addr) (xs ys : List Nat) (c d : Nat) (w : World) (ht : Tab w) (ha : Wd w A xs) (hb : Wd w B ys) (hx : ∀ x ∈ xs, x < 2 ^ 64) (hy : ∀ x ∈ ys, x < 2 ^ 64) (hn : xs.length ≤ 9223372036854775807) (hm : ys.length ≤ 9223372036854775807) :
    Calls Tryd.prog 9 #[.agg #[.int .i64 s, .slice A xs.length c], .agg #[.int .i64 t, .slice B ys.length d]] w fun e w' => e = .returned (.bool true) ∧ Below w.heap.size w w' := by
  obtain ⟨s1, z1, e1, n1, hF1, hG1⟩ := joins_and s t A B xs ys c d hx hy hn hm
  obtain ⟨s2, z2, e2, n2, hF2, hG2⟩ := joins_or s t A B xs ys c d hx hy hn hm
  obtain ⟨s3, z3, e3, n3, hF3, hG3⟩ := joins_not s A xs c hx hn
  have h0 := bal (bal (brefl w) (.cells #[.int .i64 s, .slice A xs.length c] 24)) (.cells #[.int .i64 t, .slice B ys.length d] 24)
  have HT := hide (ht.below h0)
  have H1 := hide ha
  have H2 := hide hb
  have H0 := hide h0
  have F1 := hide hF1
  have F2 := hide hF2
  have F3 := hide hF3
  have G1 := hide hG1
  have G2 := hide hG2
  have G3 := hide hG3
  have r1 : (e1 != e1) = false := by simp
  have r2 : (e2 != e2) = false := by simp
  have r3 : (e3 == e3) = true := by simp
  clear h0 ht ha hb hx hy hF1 hF2 hF3 hG1 hG2 hG3
  go_enter Tryd.func9, Tryd.ntmps9
  go_wp2_with fail
  refine (awake _ HT.out).mono ?_
  rintro e w1 ⟨rfl, hb1⟩
  have ba := ((BoxIs.new w s (.slice A xs.length c)).alloc (.cells #[.int .i64 t, .slice B ys.length d] 24)).below hb1
  have bb : BoxIs w1 (w.heap.size + 1) t (.slice B ys.length d) := (by simpa using BoxIs.new (w.alloc (.cells #[.int .i64 s, .slice A xs.length c] 24)) t (.slice B ys.length d) : BoxIs _ (w.heap.size + 1) t (.slice B ys.length d)).below hb1
  have x0 := ba.c0
  have x1 := ba.c1
  have x2 := bb.c0
  have x3 := bb.c1
  have P := hide (And.intro (btrans H0.out hb1) (And.intro ba bb))
  clear ba bb hb1 H0 HT
  go_wp2_with fail
  refine (F1.out _ (H1.out.below P.out.1) (H2.out.below P.out.1)).mono ?_
  rintro e w2 ⟨A2, c2, rfl, hm2, hb2⟩
  have K2 := btrans hb2 (bal (brefl w2) (.cells #[.int .i64 s1, .slice A2 z1.length c2] 24))
  have P2 := hide (And.intro (btrans P.out.1 K2) (And.intro (P.out.2.1.below K2) (And.intro (P.out.2.2.below K2) (And.intro (BoxIs.new w2 s1 (.slice A2 z1.length c2)) (hm2.wd.below (bal (brefl w2) (.cells #[.int .i64 s1, .slice A2 z1.length c2] 24)))))))
  have ba := P.out.2.1.below hb2
  have bb := P.out.2.2.below hb2
  have la := ba.lt
  have lb := bb.lt
  have gx1 : w.heap.size + 2 ≤ w2.heap.size := by omega
  clear x0 x1 x2 x3
  have x0 := ba.c0
  have x1 := ba.c1
  have x2 := bb.c0
  have x3 := bb.c1
  clear hb2 hm2 K2 P ba bb
  go_wp2_with fail
  refine (G1.out _ (H1.out.below P2.out.1) (H2.out.below P2.out.1)).mono ?_
  rintro e w3 ⟨A3, c3, rfl, hm3, hb3⟩
  have K3 := btrans hb3 (bal (brefl w3) (.cells #[.int .i64 s1, .slice A3 z1.length c3] 24))
  have bx := P2.out.2.2.2.1.below hb3
  have lx := bx.lt
  have gxy : w2.heap.size ≠ w3.heap.size := by omega
  have gy1 : w.heap.size + 2 ≤ w3.heap.size := by omega
  have J := hide (JSt.mk (btrans P2.out.1 K3) (P2.out.2.1.below K3) (P2.out.2.2.1.below K3) (P2.out.2.2.2.1.below K3) (BoxIs.new w3 s1 (.slice A3 z1.length c3)))
  have D := hide (And.intro (P2.out.2.2.2.2.below K3) (hm3.wd.below (bal (brefl w3) (.cells #[.int .i64 s1, .slice A3 z1.length c3] 24))))
  clear x0 x1 x2 x3
  have x0 := bx.c0
  have x1 := bx.c1
  clear hb3 hm3 K3 bx P2
  go_wp2_with fail
  refine (same_refl s1 z1 A2 A3 c2 c3 _ D.out.1 D.out.2 n1).mono ?_
  rintro e w4 ⟨rfl, hb4⟩
  have J4 := hide (J.out.next hb4)
  clear x0 x1 hb4 J D lx la lb
  obtain ⟨gx, hgx⟩ : ∃ g, g = w2.heap.size := ⟨_, rfl⟩
  obtain ⟨gy, hgy⟩ : ∃ g, g = w3.heap.size := ⟨_, rfl⟩
  rw [← hgx, ← hgy] at J4 gxy
  rw [← hgx] at gx1
  rw [← hgy] at gy1
  rw [← hgx, ← hgy]
  clear hgx hgy
  have x0 := J4.out.ba.c0
  have x1 := J4.out.ba.c1
  have x2 := J4.out.bb.c0
  have x3 := J4.out.bb.c1
  go_wp2_with fail
  refine (F2.out _ (H1.out.below J4.out.old) (H2.out.below J4.out.old)).mono ?_
  rintro e w6 ⟨A6, c6, rfl, hm6, hb6⟩
  have J6' := hide (J4.out.next hb6)
  have J6 := hide (J6'.out.putx gx1 gxy s2 (.slice A6 z2.length c6))
  have M6 := hide (mine_put hm6 J4.out.bx.lt (.int .i64 s2) (.slice A6 z2.length c6))
  have lt6 := hide (Nat.lt_of_lt_of_le J4.out.yb.lt hb6.size)
  have lu6 := hide J4.out.yb.lt
  clear x0 x1 x2 x3 hb6 hm6
  have x0 := J6'.out.ba.c0
  have x1 := J6'.out.ba.c1
  have x2 := J6'.out.bb.c0
  have x3 := J6'.out.bb.c1
  have x4 := J6'.out.bx.c0
  have x5 := J6'.out.bx.c1
  have x6 := J6'.out.yb.c0
  have x7 := J6'.out.yb.c1
  have x8 := J6'.out.bx.free 0
  have x9 := J6'.out.bx.free 1
  have x10 := J6'.out.yb.free 0
  have x11 := J6'.out.yb.free 1
  have q0 : ¬ w.heap.size = gx := by omega
  have q1 : ¬ gx = w.heap.size := by omega
  have q2 : ¬ w.heap.size + 1 = gx := by omega
  have q3 : ¬ gx = w.heap.size + 1 := by omega
  have q4 : ¬ w.heap.size = gy := by omega
  have q5 : ¬ gy = w.heap.size := by omega
  have q6 : ¬ w.heap.size + 1 = gy := by omega
  have q7 : ¬ gy = w.heap.size + 1 := by omega
  have q8 : ¬ gx = gy := gxy
  have q9 : ¬ gy = gx := fun h => gxy h.symm
  go_wp2_with fail
  obtain ⟨W6, hW6⟩ : ∃ W, W = (w6.setCell ⟨gx, 0, none⟩ (.int .i64 s2)).setCell ⟨gx, 1, none⟩ (.slice A6 z2.length c6) := ⟨_, rfl⟩
  rw [← hW6] at J6 M6 ⊢
  clear hW6 J6'
  clear x0 x1 x2 x3 x4 x5 x6 x7 x8 x9 x10 x11 q0 q1 q2 q3 q4 q5 q6 q7 q8 q9
  refine (G2.out _ (H1.out.below J6.out.old) (H2.out.below J6.out.old)).mono ?_
  rintro e w7 ⟨A7, c7, rfl, hm7, hb7⟩
  have J7' := hide (J6.out.next hb7)
  have J7 := hide (J7'.out.puty gy1 gxy s2 (.slice A7 z2.length c7))
  have M7 := hide (mine_put hm7 J6.out.yb.lt (.int .i64 s2) (.slice A7 z2.length c7))
  have N7 := hide (mine_put (M6.out.below hb7) lu6.out (.int .i64 s2) (.slice A7 z2.length c7))
  clear hb7 hm7
  have x0 := J7'.out.ba.c0
  have x1 := J7'.out.ba.c1
  have x2 := J7'.out.bb.c0
  have x3 := J7'.out.bb.c1
  have x4 := J7'.out.bx.c0
  have x5 := J7'.out.bx.c1
  have x6 := J7'.out.yb.c0
  have x7 := J7'.out.yb.c1
  have x8 := J7'.out.bx.free 0
  have x9 := J7'.out.bx.free 1
  have x10 := J7'.out.yb.free 0
  have x11 := J7'.out.yb.free 1
  have q0 : ¬ w.heap.size = gx := by omega
  have q1 : ¬ gx = w.heap.size := by omega
  have q2 : ¬ w.heap.size + 1 = gx := by omega
  have q3 : ¬ gx = w.heap.size + 1 := by omega
  have q4 : ¬ w.heap.size = gy := by omega
  have q5 : ¬ gy = w.heap.size := by omega
  have q6 : ¬ w.heap.size + 1 = gy := by omega
  have q7 : ¬ gy = w.heap.size + 1 := by omega
  have q8 : ¬ gx = gy := gxy
  have q9 : ¬ gy = gx := fun h => gxy h.symm
  go_wp2_with fail
  obtain ⟨W7, hW7⟩ : ∃ W, W = (w7.setCell ⟨gy, 0, none⟩ (.int .i64 s2)).setCell ⟨gy, 1, none⟩ (.slice A7 z2.length c7) := ⟨_, rfl⟩
  rw [← hW7] at J7 M7 N7 ⊢
  clear hW7 J7'
  clear x0 x1 x2 x3 x4 x5 x6 x7 x8 x9 x10 x11 q0 q1 q2 q3 q4 q5 q6 q7 q8 q9
  refine (same_refl s2 z2 A6 A7 c6 c7 _ N7.out.wd M7.out.wd n2).mono ?_
  rintro e w8 ⟨rfl, hb8⟩
  have J8 := hide (J7.out.next hb8)
  clear hb8 N7 M7 M6 J6 J7
  have x0 := J8.out.ba.c0
  have x1 := J8.out.ba.c1
  have x2 := J8.out.bb.c0
  have x3 := J8.out.bb.c1
  go_wp2_with fail
  refine (F3.out _ (H1.out.below J8.out.old)).mono ?_
  rintro e w9 ⟨A9, c9, rfl, hm9, hb9⟩
  have J9' := hide (J8.out.next hb9)
  have J9 := hide (J9'.out.putx gx1 gxy s3 (.slice A9 z3.length c9))
  have M9 := hide (mine_put hm9 J8.out.bx.lt (.int .i64 s3) (.slice A9 z3.length c9))
  have lt9 := hide (Nat.lt_of_lt_of_le J8.out.yb.lt hb9.size)
  have lu9 := hide J8.out.yb.lt
  clear x0 x1 x2 x3 hb9 hm9
  have x0 := J9'.out.ba.c0
  have x1 := J9'.out.ba.c1
  have x2 := J9'.out.bb.c0
  have x3 := J9'.out.bb.c1
  have x4 := J9'.out.bx.c0
  have x5 := J9'.out.bx.c1
  have x6 := J9'.out.yb.c0
  have x7 := J9'.out.yb.c1
  have x8 := J9'.out.bx.free 0
  have x9 := J9'.out.bx.free 1
  have x10 := J9'.out.yb.free 0
  have x11 := J9'.out.yb.free 1
  have q0 : ¬ w.heap.size = gx := by omega
  have q1 : ¬ gx = w.heap.size := by omega
  have q2 : ¬ w.heap.size + 1 = gx := by omega
  have q3 : ¬ gx = w.heap.size + 1 := by omega
  have q4 : ¬ w.heap.size = gy := by omega
  have q5 : ¬ gy = w.heap.size := by omega
  have q6 : ¬ w.heap.size + 1 = gy := by omega
  have q7 : ¬ gy = w.heap.size + 1 := by omega
  have q8 : ¬ gx = gy := gxy
  have q9 : ¬ gy = gx := fun h => gxy h.symm
  go_wp2_with fail
  obtain ⟨W9, hW9⟩ : ∃ W, W = (w9.setCell ⟨gx, 0, none⟩ (.int .i64 s3)).setCell ⟨gx, 1, none⟩ (.slice A9 z3.length c9) := ⟨_, rfl⟩
  rw [← hW9] at J9 M9 ⊢
  clear hW9 J9'
  clear x0 x1 x2 x3 x4 x5 x6 x7 x8 x9 x10 x11 q0 q1 q2 q3 q4 q5 q6 q7 q8 q9
  refine (G3.out _ (H1.out.below J9.out.old)).mono ?_
  rintro e w10 ⟨A10, c10, rfl, hm10, hb10⟩
  have J10' := hide (J9.out.next hb10)
  have J10 := hide (J10'.out.puty gy1 gxy s3 (.slice A10 z3.length c10))
  have M10 := hide (mine_put hm10 J9.out.yb.lt (.int .i64 s3) (.slice A10 z3.length c10))
  have N10 := hide (mine_put (M9.out.below hb10) lu9.out (.int .i64 s3) (.slice A10 z3.length c10))
  clear hb10 hm10
  have x0 := J10'.out.ba.c0
  have x1 := J10'.out.ba.c1
  have x2 := J10'.out.bb.c0
  have x3 := J10'.out.bb.c1
  have x4 := J10'.out.bx.c0
  have x5 := J10'.out.bx.c1
  have x6 := J10'.out.yb.c0
  have x7 := J10'.out.yb.c1
  have x8 := J10'.out.bx.free 0
  have x9 := J10'.out.bx.free 1
  have x10 := J10'.out.yb.free 0
  have x11 := J10'.out.yb.free 1
  have q0 : ¬ w.heap.size = gx := by omega
  have q1 : ¬ gx = w.heap.size := by omega
  have q2 : ¬ w.heap.size + 1 = gx := by omega
  have q3 : ¬ gx = w.heap.size + 1 := by omega
  have q4 : ¬ w.heap.size = gy := by omega
  have q5 : ¬ gy = w.heap.size := by omega
  have q6 : ¬ w.heap.size + 1 = gy := by omega
  have q7 : ¬ gy = w.heap.size + 1 := by omega
  have q8 : ¬ gx = gy := gxy
  have q9 : ¬ gy = gx := fun h => gxy h.symm
  go_wp2_with fail
  obtain ⟨W10, hW10⟩ : ∃ W, W = (w10.setCell ⟨gy, 0, none⟩ (.int .i64 s3)).setCell ⟨gy, 1, none⟩ (.slice A10 z3.length c10) := ⟨_, rfl⟩
  rw [← hW10] at J10 M10 N10 ⊢
  clear hW10 J10'
  clear x0 x1 x2 x3 x4 x5 x6 x7 x8 x9 x10 x11 q0 q1 q2 q3 q4 q5 q6 q7 q8 q9
  refine (same_refl s3 z3 A9 A10 c9 c10 _ N10.out.wd M10.out.wd n3).mono ?_
  rintro e w11 ⟨rfl, hb11⟩
  have J11 := hide (J10.out.next hb11)
  clear hb11 N10 M10 M9 J9 J10
  go_wp2_with fail
  go_ret
  exact ⟨rfl, J11.out.old⟩
end Go.Proofs.YtdpdlbonlpdkjaaDoor.Bs
