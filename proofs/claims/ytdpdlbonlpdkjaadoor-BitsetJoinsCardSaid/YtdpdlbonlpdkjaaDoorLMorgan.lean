/-
  De Morgan on lists of words, and the walk of law 10.
-/
import Derived.Test.YtdpdlbonlpdkjaaDoorJoin
import Derived.Test.YtdpdlbonlpdkjaaDoorLFills
namespace Go.Proofs.YtdpdlbonlpdkjaaDoor.Bs
open Go Go.RowKit
set_option linter.unusedVariables false
theorem bits_exist (n : Nat) (v : Nat → Bool) : ∃ zs, bitsAre n zs v := by
  have h0 : ∀ x ∈ List.replicate n 0, x < 2 ^ 64 := fun x hx => by rw [(List.mem_replicate.1 hx).2]; decide
  have H : ∀ k, k ≤ 64 * n → ∃ zs, putAll (List.replicate n 0) zs v k := by
    intro k
    induction k with
    | zero => exact fun _ => ⟨_, putAll_start h0⟩
    | succ k ih =>
      intro hk
      obtain ⟨zs, hz⟩ := ih (by omega)
      exact ⟨_, putAll_step hz (by rw [List.length_replicate]; omega)⟩
  obtain ⟨zs, h1, h2, h3⟩ := H (64 * n) (Nat.le_refl _)
  exact ⟨zs, by rw [h1, List.length_replicate], h2, fun i hi => by rw [h3 i, if_pos hi]⟩
theorem bitsAre.chk0 {S n : Nat} {zs ws : List Nat} {v : Nat → Bool} (h : bitsAre n zs v) (hc : chk (S : Int) ws = 0) (hn : ws.length = n) (hv : ∀ i, S ≤ i → i < 64 * n → v i = false) : chk (S : Int) zs = 0 := by
  obtain ⟨a, b, c, d⟩ := chk_ok.1 hc
  refine chk_ok.2 ⟨a, b, by rw [h.1, ← hn]; exact c, fun i hi => ?_⟩
  by_cases hlt : i < 64 * n
  · rw [h.2.2 i hlt, hv i (by simpa using hi) hlt]
  · exact bitAt_far _ _ (by rw [h.1]; omega)
theorem no_bit {S : Nat} {ws : List Nat} (hc : chk (S : Int) ws = 0) (i : Nat) (h : S ≤ i) : bitAt ws i = false := (chk_ok.1 hc).2.2.2 i (by simpa using h)
theorem both_zero {s t : Int} {xs ys : List Nat} (h : bothE s t xs ys = 0) : chk s xs = 0 ∧ chk t ys = 0 ∧ s = t := by
  unfold bothE at h
  split at h
  · split at h
    · split at h
      · exact ⟨by assumption, by assumption, by assumption⟩
      · cases h
    · exact absurd h (by assumption)
  · exact absurd h (by assumption)
theorem both_ways {s t er : Int} {xs ys : List Nat} (h : bothE s t xs ys = er) (h0 : (er == 0) = false) : (chk s xs = er ∧ (er == 0) = false) ∨ (chk s xs = 0 ∧ chk t ys = er ∧ (er == 0) = false) ∨ (chk s xs = 0 ∧ chk t ys = 0 ∧ er = 1 ∧ s ≠ t) := by
  unfold bothE at h
  split at h
  · split at h
    · split at h
      · subst h; simp at h0
      · exact .inr (.inr ⟨by assumption, by assumption, h.symm, by assumption⟩)
    · exact .inr (.inl ⟨by assumption, h, h0⟩)
  · exact .inl ⟨h, h0⟩
theorem BoxIs.far {w : World} {g : Nat} {s : Int} {v : Value} (h : BoxIs w g s v) {p : Addr} (hp : g ≠ p.block) (u : Value) : BoxIs (w.setCell p u) g s v := (Below.heap_setCell w p u g hp).trans h
theorem BoxIs.put {w : World} {g : Nat} {s t : Int} {v u : Value} (h : BoxIs w g s v) : BoxIs ((w.setCell ⟨g, 0, none⟩ (.int .i64 t)).setCell ⟨g, 1, none⟩ u) g t u := by
  unfold BoxIs at *
  simp [World.setCell, Array.getElem?_modify, h]
theorem wd_far {w : World} {A : Option Addr} {ws : List Nat} (h : Wd w A ws) {p : Addr} (hp : ws ≠ [] → ∀ a, A = some a → a.block ≠ p.block) (u : Value) : Wd (w.setCell p u) A ws := fun hn => by
  obtain ⟨b, off, rfl, hb, hc⟩ := h hn
  refine ⟨b, off, rfl, by simpa using hb, fun j x hj => ?_⟩
  rw [← hc j x hj]
  unfold World.cell?
  rw [Below.heap_setCell w p u b (hp hn _ rfl)]
set_option maxHeartbeats 1000000 in
theorem morgan_walk (S : Nat) (A B : Option Addr) (xs ys X NX NA NB : List Nat) (c d : Nat) (w : World) (ht : Tab w) (ha : Wd w A xs) (hb : Wd w B ys) (hnx : NX.length ≤ 64) (hxl : xs.length ≤ 64)
    (hAnd : ∀ W, Wd W A xs → Wd W B ys → Calls Tryd.prog 27 #[.agg #[.int .i64 S, .slice A xs.length c], .agg #[.int .i64 S, .slice B ys.length d]] W (BitsMine S X 0 W))
    (hNX : ∀ A c W, Wd W A X → Calls Tryd.prog 31 #[.agg #[.int .i64 S, .slice A X.length c]] W (BitsMine S NX 0 W))
    (hNA : ∀ W, Wd W A xs → Calls Tryd.prog 31 #[.agg #[.int .i64 S, .slice A xs.length c]] W (BitsMine S NA 0 W))
    (hNB : ∀ W, Wd W B ys → Calls Tryd.prog 31 #[.agg #[.int .i64 S, .slice B ys.length d]] W (BitsMine S NB 0 W))
    (hOr : ∀ A B c d W, Wd W A NA → Wd W B NB → Calls Tryd.prog 29 #[.agg #[.int .i64 S, .slice A NA.length c], .agg #[.int .i64 S, .slice B NB.length d]] W (BitsMine S NX 0 W))
    (hNN : ∀ A c W, Wd W A NA → Calls Tryd.prog 31 #[.agg #[.int .i64 S, .slice A NA.length c]] W (BitsMine S xs 0 W))
    (hCk : ∀ A c W, Wd W A NX → Calls Tryd.prog 14 #[.agg #[.int .i64 S, .slice A NX.length c]] W fun e w' => e = .returned (.int .i64 0) ∧ Below W.heap.size W w') :
    Calls Tryd.prog 10 #[.agg #[.int .i64 S, .slice A xs.length c], .agg #[.int .i64 S, .slice B ys.length d]] w fun e w' => e = .returned (.bool true) ∧ Below w.heap.size w w' := by
  have h0 := bal (bal (brefl w) (.cells #[.int .i64 S, .slice A xs.length c] 24)) (.cells #[.int .i64 S, .slice B ys.length d] 24)
  have HT := hide (ht.below h0)
  have H1 := hide ha
  have H2 := hide hb
  have H0 := hide h0
  have HAnd := hide hAnd
  have HNX := hide hNX
  have HNA := hide hNA
  have HNB := hide hNB
  have HOr := hide hOr
  have HNN := hide hNN
  have HCk := hide hCk
  clear h0 ht ha hb hAnd hNX hNA hNB hOr hNN hCk
  go_enter Tryd.func10, Tryd.ntmps10
  go_wp2_with fail
  refine (awake _ HT.out).mono ?_
  rintro e w1 ⟨rfl, hb1⟩
  have ba := ((BoxIs.new w S (.slice A xs.length c)).alloc (.cells #[.int .i64 S, .slice B ys.length d] 24)).below hb1
  have bb : BoxIs w1 (w.heap.size + 1) S (.slice B ys.length d) := (by simpa using BoxIs.new (w.alloc (.cells #[.int .i64 S, .slice A xs.length c] 24)) S (.slice B ys.length d) : BoxIs _ (w.heap.size + 1) S (.slice B ys.length d)).below hb1
  have x0 := ba.c0
  have x1 := ba.c1
  have x2 := bb.c0
  have x3 := bb.c1
  have P := hide (And.intro (btrans H0.out hb1) (And.intro ba bb))
  clear ba bb hb1 H0 HT
  go_wp2_with fail
  refine (HAnd.out _ (H1.out.below P.out.1) (H2.out.below P.out.1)).mono ?_
  rintro e w2 ⟨A2, c2, rfl, hm2, hb2⟩
  have P2 := hide (And.intro (btrans P.out.1 hb2) (And.intro (P.out.2.1.below hb2) (And.intro (P.out.2.2.below hb2) hm2.wd)))
  clear hb2 hm2 x0 x1 x2 x3 P
  go_wp2_with fail
  have a2 := bal (brefl w2) (.cells #[.int .i64 S, .slice A2 X.length c2] 24)
  refine (HNX.out _ _ _ (P2.out.2.2.2.below a2)).mono ?_
  rintro e w3 ⟨A3, c3, rfl, hm3, hb3⟩
  have hb23 := btrans a2 hb3
  have la := P2.out.2.1.lt
  have lb := P2.out.2.2.1.lt
  have na1 : ¬ w.heap.size = w2.heap.size := by omega
  have na2 : ¬ w2.heap.size = w.heap.size := by omega
  have ba := P2.out.2.1.below hb23
  have bb := P2.out.2.2.1.below hb23
  have bx := (BoxIs.new w2 S (.slice A2 X.length c2)).below hb3
  have y0 := ba.c0
  have y1 := ba.c1
  have y2 := bx.c0
  have y3 := bx.c1
  have y4 := bx.free 0
  have y5 := bx.free 1
  go_wp2_with fail
  have nx : NX ≠ [] → ∀ a, A3 = some a → a.block ≠ w2.heap.size := fun hz a ha => by
    obtain ⟨g, e, hg, _⟩ := hm3 hz
    rw [e] at ha
    injection ha with ha
    subst ha
    simp at hg ⊢
    omega
  have O3 := btrans P2.out.1 hb23
  have Q3 := hide (And.intro (bset (bset O3 (p := ⟨w2.heap.size, 0, none⟩) P2.out.1.size (.int .i64 S)) (p := ⟨w2.heap.size, 1, none⟩) P2.out.1.size (.slice A3 NX.length c3)) (And.intro ((ba.far (p := ⟨w2.heap.size, 0, none⟩) (by show _ ≠ w2.heap.size; omega) (.int .i64 S)).far (p := ⟨w2.heap.size, 1, none⟩) (by show _ ≠ w2.heap.size; omega) (.slice A3 NX.length c3)) (And.intro ((bb.far (p := ⟨w2.heap.size, 0, none⟩) (by show _ ≠ w2.heap.size; omega) (.int .i64 S)).far (p := ⟨w2.heap.size, 1, none⟩) (by show _ ≠ w2.heap.size; omega) (.slice A3 NX.length c3)) (And.intro (bx.put (t := S) (u := .slice A3 NX.length c3)) (wd_far (wd_far hm3.wd (p := ⟨w2.heap.size, 0, none⟩) nx (.int .i64 S)) (p := ⟨w2.heap.size, 1, none⟩) nx (.slice A3 NX.length c3))))))
  obtain ⟨W3, hW3⟩ : ∃ W3, W3 = (w3.setCell ⟨w2.heap.size, 0, none⟩ (.int .i64 S)).setCell ⟨w2.heap.size, 1, none⟩ (.slice A3 NX.length c3) := ⟨_, rfl⟩
  rw [← hW3] at Q3 ⊢
  clear hW3 nx O3 ba bb bx y0 y1 y2 y3 y4 y5 hb3 hb23 hm3 a2 na1 na2 la lb
  clear P2
  -- Q3: Below, a, b, x, NX
  refine (HNA.out _ (H1.out.below Q3.out.1)).mono ?_
  rintro e w4 ⟨A4, c4, rfl, hm4, hb4⟩
  have bb := Q3.out.2.2.1.below hb4
  have l4 := bb.lt
  have y0 := bb.c0
  have y1 := bb.c1
  go_wp2_with fail
  have K4 := btrans hb4 (bal (brefl w4) (.cells #[.int .i64 S, .slice A4 NA.length c4] 24))
  have D4 := hide (And.intro K4 (And.intro (BoxIs.new w4 S (.slice A4 NA.length c4)) (hm4.wd.below (bal (brefl w4) (.cells #[.int .i64 S, .slice A4 NA.length c4] 24)))))
  clear hb4 hm4 bb l4 y0 y1
  refine (HNB.out _ (H2.out.below (btrans Q3.out.1 K4))).mono ?_
  rintro e w5 ⟨A5, c5, rfl, hm5, hb5⟩
  have na := D4.out.2.1.below hb5
  have l5 := na.lt
  have y0 := na.c0
  have y1 := na.c1
  have g1 : ¬ w4.heap.size = w5.heap.size := by omega
  go_wp2_with fail
  have K5 := btrans hb5 (bal (brefl w5) (.cells #[.int .i64 S, .slice A5 NB.length c5] 24))
  have D5 := hide (And.intro (btrans K4 K5) (And.intro (D4.out.2.1.below K5) (D4.out.2.2.below K5)))
  refine (HOr.out _ _ _ _ _ D5.out.2.2 (hm5.wd.below (bal (brefl w5) (.cells #[.int .i64 S, .slice A5 NB.length c5] 24)))).mono ?_
  rintro e w6 ⟨A6, c6, rfl, hm6, hb6⟩
  have K6 := btrans hb6 (bal (brefl w6) (.cells #[.int .i64 S, .slice A6 NX.length c6] 24))
  have D6 := hide (And.intro (btrans D5.out.1 K6) (And.intro (D5.out.2.1.below K6) (And.intro (D5.out.2.2.below K6) (And.intro (BoxIs.new w6 S (.slice A6 NX.length c6)) (hm6.wd.below (bal (brefl w6) (.cells #[.int .i64 S, .slice A6 NX.length c6] 24)))))))
  have bx := Q3.out.2.2.2.1.below (btrans D5.out.1 hb6)
  have l6 := bx.lt
  have z0 := bx.c0
  have z1 := bx.c1
  clear y0 y1 l5 na K4 K5 K6 hb5 hb6 hm5 hm6 g1 bx D4 D5
  go_wp2_with fail
  refine (same_refl S NX A3 A6 c3 c6 _ (Q3.out.2.2.2.2.below D6.out.1) D6.out.2.2.2.2 hnx).mono ?_
  rintro e w7 ⟨rfl, hb7⟩
  have D7 := hide (And.intro (btrans D6.out.1 hb7) (And.intro (D6.out.2.1.below hb7) (D6.out.2.2.1.below hb7)))
  have bx := Q3.out.2.2.2.1.below D7.out.1
  have z0 := bx.c0
  have z1 := bx.c1
  clear hb7 bx D6
  go_wp2_with fail
  refine (HCk.out _ _ _ (Q3.out.2.2.2.2.below D7.out.1)).mono ?_
  rintro e w8 ⟨rfl, hb8⟩
  have D8 := hide (And.intro (btrans D7.out.1 hb8) (D7.out.2.2.below hb8))
  have na := D7.out.2.1.below hb8
  clear z0 z1
  have z0 := na.c0
  have z1 := na.c1
  clear hb8 na D7
  go_wp2_with fail
  refine (HNN.out _ _ _ D8.out.2).mono ?_
  rintro e w9 ⟨A9, c9, rfl, hm9, hb9⟩
  have K9 := btrans hb9 (bal (brefl w9) (.cells #[.int .i64 S, .slice A9 xs.length c9] 24))
  have D9 := hide (And.intro (btrans D8.out.1 K9) (hm9.wd.below (bal (brefl w9) (.cells #[.int .i64 S, .slice A9 xs.length c9] 24))))
  have ba := Q3.out.2.1.below (btrans D8.out.1 hb9)
  have l9 := ba.lt
  clear z0 z1
  have z0 := ba.c0
  have z1 := ba.c1
  clear hb9 ba K9 hm9 D8
  go_wp2_with fail
  refine (same_refl S xs A9 A c9 c _ D9.out.2 (H1.out.below (btrans Q3.out.1 D9.out.1)) hxl).mono ?_
  rintro e w10 ⟨rfl, hb10⟩
  have D10 := hide (btrans Q3.out.1 (btrans D9.out.1 hb10))
  clear hb10 z0 z1 l9 D9
  go_wp2_with fail
  go_ret
  exact ⟨rfl, D10.out⟩

theorem morgan_bad (s t er : Int) (A B : Option Addr) (xs ys : List Nat) (c d : Nat) (w : World) (ht : Tab w) (ha : Wd w A xs) (hb : Wd w B ys) (he : (er == 0) = false)
    (hAnd : ∀ W, Wd W A xs → Wd W B ys → Calls Tryd.prog 27 #[.agg #[.int .i64 s, .slice A xs.length c], .agg #[.int .i64 t, .slice B ys.length d]] W (BitsMine 0 [] er W)) :
    Calls Tryd.prog 10 #[.agg #[.int .i64 s, .slice A xs.length c], .agg #[.int .i64 t, .slice B ys.length d]] w fun e w' => e = .returned (.bool true) ∧ Below w.heap.size w w' := by
  have h0 := bal (bal (brefl w) (.cells #[.int .i64 s, .slice A xs.length c] 24)) (.cells #[.int .i64 t, .slice B ys.length d] 24)
  have HT := hide (ht.below h0)
  have H1 := hide ha
  have H2 := hide hb
  have H0 := hide h0
  have HAnd := hide hAnd
  have he2 : (er != 0) = true := by rw [bne, he]; rfl
  clear h0 ht ha hb hAnd
  go_enter Tryd.func10, Tryd.ntmps10
  go_wp2_with fail
  refine (awake _ HT.out).mono ?_
  rintro e w1 ⟨rfl, hb1⟩
  have ba := ((BoxIs.new w s (.slice A xs.length c)).alloc (.cells #[.int .i64 t, .slice B ys.length d] 24)).below hb1
  have bb : BoxIs w1 (w.heap.size + 1) t (.slice B ys.length d) := (by simpa using BoxIs.new (w.alloc (.cells #[.int .i64 s, .slice A xs.length c] 24)) t (.slice B ys.length d) : BoxIs _ (w.heap.size + 1) t (.slice B ys.length d)).below hb1
  have x0 := ba.c0
  have x1 := ba.c1
  have x2 := bb.c0
  have x3 := bb.c1
  have P := hide (btrans H0.out hb1)
  clear ba bb hb1 H0 HT
  go_wp2_with fail
  refine (HAnd.out _ (H1.out.below P.out) (H2.out.below P.out)).mono ?_
  rintro e w2 ⟨A2, c2, rfl, hm2, hb2⟩
  have P2 := hide (bal (btrans P.out hb2) (.cells #[.int .i64 0, .slice A2 0 c2] 24))
  clear hb2 hm2 x0 x1 x2 x3 P
  go_wp2_with fail
  go_ret
  exact ⟨rfl, P2.out⟩
theorem ok_size {S : Int} {ws : List Nat} (h : chk S ws = 0) : ∃ N : Nat, S = N ∧ ws.length ≤ 64 := by
  obtain ⟨v1, _, _, _⟩ := valid_len h
  exact ⟨S.toNat, by have := (chk_ok.1 h).1; omega, v1⟩
theorem not_is (S : Nat) (A : Option Addr) (ws zs : List Nat) (c : Nat) (W : World) (hr : Wd W A ws) (hw : ∀ x ∈ ws, x < 2 ^ 64) (he : chk (S : Int) ws = 0) (hz : bitsAre ws.length zs (notV S ws)) :
    Calls Tryd.prog 31 #[.agg #[.int .i64 S, .slice A ws.length c]] W (BitsMine S zs 0 W) :=
  (not_good S A ws c W hr hw he).mono fun e w' ⟨A', c', ys, he, hf, hm, hb⟩ => by
    obtain rfl := hf.one hz
    exact ⟨A', c', by rw [he, hf.1], hm, hb⟩
theorem and_is (S : Nat) (A B : Option Addr) (xs ys zs : List Nat) (c d : Nat) (w : World) (ha : Wd w A xs) (hb : Wd w B ys) (hx : ∀ x ∈ xs, x < 2 ^ 64) (hy : ∀ x ∈ ys, x < 2 ^ 64) (h1 : chk (S : Int) xs = 0) (h2 : chk (S : Int) ys = 0) (hz : bitsAre xs.length zs (candV xs ys)) :
    Calls Tryd.prog 27 #[.agg #[.int .i64 S, .slice A xs.length c], .agg #[.int .i64 S, .slice B ys.length d]] w (BitsMine S zs 0 w) :=
  and_wrap S S S 0 zs A B xs.length ys.length c d w fun W hW => (cand_good S A B xs ys c d W (ha.below hW) (hb.below hW) hx hy h1 h2).mono fun e w' ⟨A', c', us, he, hf, hm, hb⟩ => by
    obtain rfl := hf.one hz
    exact ⟨A', c', by rw [he, hf.1], hm, hb⟩
theorem or_is (S : Nat) (A B : Option Addr) (xs ys zs : List Nat) (c d : Nat) (w : World) (ha : Wd w A xs) (hb : Wd w B ys) (hx : ∀ x ∈ xs, x < 2 ^ 64) (hy : ∀ x ∈ ys, x < 2 ^ 64) (h1 : chk (S : Int) xs = 0) (h2 : chk (S : Int) ys = 0) (hz : bitsAre xs.length zs (corV xs ys)) :
    Calls Tryd.prog 29 #[.agg #[.int .i64 S, .slice A xs.length c], .agg #[.int .i64 S, .slice B ys.length d]] w (BitsMine S zs 0 w) :=
  or_wrap S S S 0 zs A B xs.length ys.length c d w fun W hW => (cor_good S A B xs ys c d W (ha.below hW) (hb.below hW) hx hy h1 h2).mono fun e w' ⟨A', c', us, he, hf, hm, hb⟩ => by
    obtain rfl := hf.one hz
    exact ⟨A', c', by rw [he, hf.1], hm, hb⟩
theorem and_err (s t er : Int) (A B : Option Addr) (xs ys : List Nat) (c d : Nat) (w : World) (ha : Wd w A xs) (hb : Wd w B ys) (hx : ∀ x ∈ xs, x < 2 ^ 64) (hy : ∀ x ∈ ys, x < 2 ^ 64) (hn : xs.length ≤ 9223372036854775807) (hm : ys.length ≤ 9223372036854775807) (h : bothE s t xs ys = er) (h0 : (er == 0) = false) :
    Calls Tryd.prog 27 #[.agg #[.int .i64 s, .slice A xs.length c], .agg #[.int .i64 t, .slice B ys.length d]] w (BitsMine 0 [] er w) :=
  and_wrap s t 0 er [] A B xs.length ys.length c d w fun W hW => (cand_bad s t er A B xs ys c d W (ha.below hW) (hb.below hW) hx hy hn hm (both_ways h h0)).mono fun e w' h => bitsMine_err h
theorem or_err (s t er : Int) (A B : Option Addr) (xs ys : List Nat) (c d : Nat) (w : World) (ha : Wd w A xs) (hb : Wd w B ys) (hx : ∀ x ∈ xs, x < 2 ^ 64) (hy : ∀ x ∈ ys, x < 2 ^ 64) (hn : xs.length ≤ 9223372036854775807) (hm : ys.length ≤ 9223372036854775807) (h : bothE s t xs ys = er) (h0 : (er == 0) = false) :
    Calls Tryd.prog 29 #[.agg #[.int .i64 s, .slice A xs.length c], .agg #[.int .i64 t, .slice B ys.length d]] w (BitsMine 0 [] er w) :=
  or_wrap s t 0 er [] A B xs.length ys.length c d w fun W hW => (cor_bad s t er A B xs ys c d W (ha.below hW) (hb.below hW) hx hy hn hm (both_ways h h0)).mono fun e w' h => bitsMine_err h
theorem law_morgan (s t : Int) (A B : Option Addr) (xs ys : List Nat) (c d : Nat) (w : World) (ht : Tab w) (ha : Wd w A xs) (hb : Wd w B ys) (hx : ∀ x ∈ xs, x < 2 ^ 64) (hy : ∀ x ∈ ys, x < 2 ^ 64) (hn : xs.length ≤ 9223372036854775807) (hm : ys.length ≤ 9223372036854775807) :
    Calls Tryd.prog 10 #[.agg #[.int .i64 s, .slice A xs.length c], .agg #[.int .i64 t, .slice B ys.length d]] w fun e w' => e = .returned (.bool true) ∧ Below w.heap.size w w' := by
  by_cases h0 : bothE s t xs ys = 0
  · obtain ⟨h1, h2, rfl⟩ := both_zero h0
    obtain ⟨S, rfl, l1⟩ := ok_size h1
    have hl : xs.length = ys.length := (chk_ok.1 h1).2.2.1.trans (chk_ok.1 h2).2.2.1.symm
    obtain ⟨X, hX⟩ := bits_exist xs.length (candV xs ys)
    obtain ⟨NX, hNX⟩ := bits_exist xs.length (notV S X)
    obtain ⟨NA, hNA⟩ := bits_exist xs.length (notV S xs)
    obtain ⟨NB, hNB⟩ := bits_exist xs.length (notV S ys)
    have cX : chk (S : Int) X = 0 := hX.chk0 h1 rfl fun i hi _ => by unfold candV; rw [no_bit h1 i hi]; rfl
    have off : ∀ (ws : List Nat) (i : Nat), S ≤ i → notV S ws i = false := fun ws i hi => by unfold notV; rw [decide_eq_false (by omega)]; simp
    have cNX : chk (S : Int) NX = 0 := hNX.chk0 h1 rfl fun i hi _ => off _ _ hi
    have cNA : chk (S : Int) NA = 0 := hNA.chk0 h1 rfl fun i hi _ => off _ _ hi
    have cNB : chk (S : Int) NB = 0 := hNB.chk0 h1 rfl fun i hi _ => off _ _ hi
    have hS : S ≤ 64 * xs.length := by have := (valid_len h1).2; omega
    have dOr : bitsAre NA.length NX (corV NA NB) := by
      rw [hNA.1]
      refine hNX.congr fun i hi => ?_
      unfold corV
      rw [hNA.2.2 i hi, hNB.2.2 i hi]
      unfold notV
      rw [hX.2.2 i hi]
      unfold candV
      cases bitAt xs i <;> cases bitAt ys i <;> simp
    have dNN : bitsAre NA.length xs (notV S NA) := by
      rw [hNA.1]
      refine ⟨rfl, hx, fun i hi => ?_⟩
      unfold notV
      rw [hNA.2.2 i hi]
      unfold notV
      by_cases c : i < S
      · simp [c]
      · rw [no_bit h1 i (by omega)]; simp [c]
    refine morgan_walk S A B xs ys X NX NA NB c d w ht ha hb (by rw [hNX.1]; exact l1) l1 ?_ ?_ ?_ ?_ ?_ ?_ ?_
    · exact fun W k1 k2 => and_is S A B xs ys X c d W k1 k2 hx hy h1 h2 hX
    · exact fun A c W k => not_is S A X NX c W k hX.2.1 cX (by rw [hX.1]; exact hNX)
    · exact fun W k => not_is S A xs NA c W k hx h1 hNA
    · exact fun W k => not_is S B ys NB d W k hy h2 (by rw [← hl]; exact hNB)
    · exact fun A B c d W k1 k2 => or_is S A B NA NB NX c d W k1 k2 hNA.2.1 hNB.2.1 cNA cNB dOr
    · exact fun A c W k => not_is S A NA xs c W k hNA.2.1 cNA dNN
    · exact fun A c W k => by
        have := check_any S A NX c W k hNX.2.1 (by rw [hNX.1]; omega)
        rw [cNX] at this
        exact this
  · exact morgan_bad s t _ A B xs ys c d w ht ha hb (by simpa using h0) fun W k1 k2 => and_err s t _ A B xs ys c d W k1 k2 hx hy hn hm rfl (by simpa using h0)
end Go.Proofs.YtdpdlbonlpdkjaaDoor.Bs
