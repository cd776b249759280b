import Derived.Test.YtoogdggiemacjaaG12
namespace Go.Proofs.Ytoogdggiemacjaa.Cw
open Go Go.RowKit
set_option linter.unusedVariables false
set_option linter.unusedSimpArgs false
set_option maxRecDepth 100000 in
set_option maxHeartbeats 16000000 in
theorem rnew_ok (f n : Nat) (h1 : 1 ≤ f) (h2 : f ≤ 256) (h3 : 1 ≤ n) (h4 : n ≤ 512) (w : World) : Calls Try.prog 12 #[.int .i64 (f : Int), .int .i64 (n : Int)] w (Res w (nwM f n) 0) := by
  unfold Res
  obtain ⟨i64, hi64, hz64, hy64, hx64⟩ := info_parts info64
  obtain ⟨i53, hi53, hz53, hy53, hx53⟩ := info_parts info53
  obtain ⟨i62, hi62, hz62, hy62, hx62⟩ := info_parts info62
  obtain ⟨W0, hW0⟩ : ∃ W0, W0 = ((w.alloc (.cells #[.int .i64 0, .slice none 0 0, .slice none 0 0, .int .i64 0] 28)).alloc (.cells #[.int .i64 (n : Int), .slice none 0 0, .slice none 0 0, .int .i64 0] 28)).alloc (.cells #[.bool true, .slice none 0 0] 62) := ⟨_, rfl⟩
  have K := hide (show Below w.heap.size w W0 by rw [hW0]; exact bal (bal (bal (brefl w) _) _) _)
  have X4 := hide (show Box W0 w.heap.size 28 #[.int .i64 0, .slice none 0 0, .slice none 0 0, .int .i64 0] by rw [hW0]; exact ((Box.new w 28 _).more _).more _)
  have X6 := hide (show Box W0 (w.heap.size + 1) 28 #[.int .i64 (n : Int), .slice none 0 0, .slice none 0 0, .int .i64 0] by rw [hW0]; exact (Box.new2 w _ 28 _).more _)
  have X7 := hide (show Box W0 (w.heap.size + 1 + 1) 62 #[.bool true, .slice none 0 0] by rw [hW0]; exact Box.new3 w _ _ 62 _)
  have a1 : ¬ (f : Int) < 1 := by omega
  have a2 : ¬ (256 : Int) < (f : Int) := by omega
  have a3 : ¬ (n : Int) < 1 := by omega
  have a4 : ¬ (512 : Int) < (n : Int) := by omega
  go_enter Try.func12, Try.ntmps12
  go_upto_region 5 with fail
  rw [← hW0]
  clear hW0 a1 a2 a3 a4
  have H4 := hide (show w.heap.size ≤ w.heap.size by omega)
  have H6 := hide (show w.heap.size ≤ w.heap.size + 1 by omega)
  have H7 := hide (show w.heap.size ≤ w.heap.size + 1 + 1 by omega)
  have N47 := hide (show w.heap.size ≠ w.heap.size + 1 + 1 by omega)
  have N46 := hide (show w.heap.size ≠ w.heap.size + 1 by omega)
  have N67 := hide (show w.heap.size + 1 ≠ w.heap.size + 1 + 1 by omega)
  generalize hg7 : w.heap.size + 1 + 1 = g7 at *
  generalize hg6 : w.heap.size + 1 = g6 at *
  obtain ⟨g4, hg4⟩ : ∃ g, g = w.heap.size := ⟨_, rfl⟩
  rw [← hg4] at X4 N47 N46
  replace H4 := hide (show w.heap.size ≤ g4 by omega)
  rw [← hg4]
  clear hg4 hg6 hg7
  have P := hide (show W0.ownsRow (g7 + 1) 64 2 (.slice none 0 0) 0 (pcs (List.replicate 0 ((-1 : Int), false))) from ⟨rfl, .inl ⟨rfl, rfl⟩⟩)
  go_wp2
  go_loopw [8] (fun i wr => ∃ (k : Nat) (PA : Option Addr) (cP : Nat), k ≤ n ∧ i = .int .i64 k ∧ Hid (Box wr g4 28 #[.int .i64 0, .slice none 0 0, .slice none 0 0, .int .i64 0]) ∧ Hid (Box wr g6 28 #[.int .i64 (n : Int), .slice none 0 0, .slice none 0 0, .int .i64 0]) ∧ Hid (Box wr g7 62 #[.bool true, .slice PA k cP]) ∧ Hid (wr.ownsRow (g7 + 1) 64 2 (.slice PA k cP) k (pcs (List.replicate k ((-1 : Int), false)))) ∧ Hid (Below w.heap.size w wr)) (fun i _ => n - (intOf i).toNat)
  case atStart => exact ⟨0, none, 0, Nat.zero_le _, rfl, X4, X6, X7, P, K⟩
  case round =>
    clear X4 X6 X7 P K
    obtain ⟨k, PA, cP, hk, rfl, X4, X6, X7, P, K⟩ := hrel
    obtain ⟨c0, c1⟩ := box2 X7.out
    have GC6 := X7.out.lt
    by_cases hlt : k < n
    · have hl2 : (k : Int) < (n : Int) := by omega
      have M8 := bal (brefl wr) (.cells #[.int .i64 (-1), .bool false] 64)
      have NB := hide (Box.new wr 64 #[.int .i64 (-1), .bool false])
      replace X4 := hide (X4.out.below M8)
      replace X6 := hide (X6.out.below M8)
      replace X7 := hide (X7.out.below M8)
      have OP := hide (row_below P.out M8)
      replace K := hide (btrans K.out M8)
      have SB := hide (show g7 + 1 ≤ (wr.alloc (.cells #[.int .i64 (-1), .bool false] 64)).heap.size from Nat.le_trans GC6 M8.size)
      clear M8 P
      go_upto_region 7 with (at_builtin; refine wpList_append_own_at _ rfl (.tmp 34) (.tmp 36) 60 rfl (g7 + 1) 64 i64 _ 2 16 Try.underlying60 hi64 hz64 hy64 hx64 rfl (by omega) (.slice PA k cP) k _ rfl OP.out ⟨wr.heap.size, 0, none⟩ 1 1 [.int .i64 (-1), .bool false] rfl rfl (two_at NB.out) (one_two rfl rfl) (by simp only [maxLen]; omega) (by omega) SB.out ?_; intro v9 w9 hown hg9 _ hat; obtain ⟨PA2, cP2, ev, hcN⟩ := row_form hown; subst ev; have BG := (Kp.grown OP.out hg9 (Nat.le_refl _) SB.out); obtain ⟨xc0, xc1⟩ := box2 (Box.kp X7.out BG (by decide)); have xf1 := (Box.kp X7.out BG (by decide)).frozen 1)
      have X4N := hide ((Box.kp X4.out BG (by decide)).far N47.out (b := g7) (i := 1) (.slice PA2 (k + 1) cP2))
      have X6N := hide ((Box.kp X6.out BG (by decide)).far N67.out (b := g7) (i := 1) (.slice PA2 (k + 1) cP2))
      have X7N := hide (show Box (w9.setCell ⟨g7, 1, none⟩ (.slice PA2 (k + 1) cP2)) g7 62 #[.bool true, .slice PA2 (k + 1) cP2] by have := (Box.kp X7.out BG (by decide)).put 1 (.slice PA2 (k + 1) cP2); simpa using this)
      have PN := hide (show (w9.setCell ⟨g7, 1, none⟩ (.slice PA2 (k + 1) cP2)).ownsRow (g7 + 1) 64 2 (.slice PA2 (k + 1) cP2) (k + 1) (pcs (List.replicate (k + 1) ((-1 : Int), false))) by
        rw [List.replicate_succ', pcs_snoc]
        exact own_blk hown (fun kk hk1 _ => heap_setCell_other w9 ⟨g7, 1, none⟩ kk (.slice PA2 (k + 1) cP2) (show kk ≠ g7 by omega)))
      have KN := hide ((K.out.trans (BG.below.mono (show w.heap.size ≤ g7 + 1 by have := H7.out; omega))).setCell (p := ⟨g7, 1, none⟩) H7.out (.slice PA2 (k + 1) cP2))
      clear BG hown hg9 hat hcN xc0 xc1 xf1 c0 c1 NB SB GC6 OP X4 X6 X7 K
      generalize w9.setCell ⟨g7, 1, none⟩ (.slice PA2 (k + 1) cP2) = wz at *
      go_wp2
      go_roundw
      case rel => first | exact ⟨k + 1, PA2, cP2, by omega, by go_num, X4N, X6N, X7N, PN, KN⟩ | ((repeat apply Exists.intro); exact ⟨⟨k + 1, PA2, cP2, by omega, by go_num, X4N, X6N, X7N, PN, KN⟩, rfl⟩)
      case measure => simp [intOf]; omega
    · obtain rfl : n = k := by omega
      obtain ⟨m0, m1, m2, m3⟩ := box4 X6.out
      have M8 := bal (brefl wr) (.cells #[.bool true, .slice PA n cP] 62)
      have NB := hide (Box.new wr 62 #[.bool true, .slice PA n cP])
      replace X4 := hide (X4.out.below M8)
      replace X6 := hide (X6.out.below M8)
      replace P := hide (row_below P.out M8)
      have SB := hide (Nat.le_trans K.out.size M8.size)
      replace K := hide (btrans K.out M8)
      have OM := hide (show OwM w.heap.size (wr.alloc (.cells #[.bool true, .slice PA n cP] 62)) ⟨n, [], [], 0⟩ none 0 none 0 [] from ⟨rfl, ⟨rfl, .inl ⟨rfl, rfl⟩⟩, ⟨rfl, .inl ⟨rfl, rfl⟩⟩, fun k hk => absurd hk (Nat.not_lt_zero _), fun k hk => absurd hk (Nat.not_lt_zero _), fun i j hi => absurd hi (Nat.not_lt_zero _)⟩)
      have OP := hide (show (wr.alloc (.cells #[.bool true, .slice PA n cP] 62)).ownsRow w.heap.size 62 2 (.slice none 0 0) 0 (tcs []) from OM.out.sp)
      clear M8
      go_upto_region 10 with (at_builtin; refine wpList_append_own_at _ rfl (.tmp 40) (.tmp 42) 25 rfl (w.heap.size) 62 i62 _ 2 32 Try.underlying25 hi62 hz62 hy62 hx62 rfl (by omega) (.slice none 0 0) 0 (tcs []) rfl OP.out ⟨wr.heap.size, 0, none⟩ 1 1 [.bool true, .slice PA n cP] rfl rfl (two_at NB.out) (one_two rfl rfl) (by simp only [maxLen]; omega) (by omega) SB.out ?_; intro v9 w9 hown hg9 _ hat; obtain ⟨A4, c4, ev, hcN⟩ := row_form hown; subst ev; have BG := (Kp.grown OP.out hg9 (Nat.le_refl _) SB.out); obtain ⟨xc0, xc1, xc2, xc3⟩ := box4 (Box.kp X6.out BG (by decide)); have xf1 := (Box.kp X6.out BG (by decide)).frozen 1)
      have O2 := OM.out.pushL (lv := true) (L := List.replicate n ((-1 : Int), false)) (v1 := .slice PA n cP) (A4 := A4) (c4 := c4) (by rw [List.length_replicate]; exact row_mono P.out (by have := H7.out; omega)) (fun _ _ j hj => absurd hj (Nat.not_lt_zero _)) hown BG
      have V7 := Box.kp X6.out BG (by decide)
      have ON := hide (O2.kp (Kp.boxset V7 H6.out 1 (.slice A4 (0 + 1) c4)))
      have X4N := hide ((Box.kp X4.out BG (by decide)).far N46.out (b := g6) (i := 1) (.slice A4 (0 + 1) c4))
      have X6N := hide (show Box (w9.setCell ⟨g6, 1, none⟩ (.slice A4 (0 + 1) c4)) g6 28 #[.int .i64 (n : Int), .slice A4 1 c4, .slice none 0 0, .int .i64 0] by have := V7.put 1 (.slice A4 (0 + 1) c4); simpa using this)
      have KN := hide ((K.out.trans BG.below).setCell (p := ⟨g6, 1, none⟩) H6.out (.slice A4 (0 + 1) c4))
      clear O2 V7 BG hown hg9 hat hcN xc0 xc1 xc2 xc3 xf1 m0 m1 m2 m3 c0 c1 OP NB SB P OM X4 X6 X7 K GC6
      generalize w9.setCell ⟨g6, 1, none⟩ (.slice A4 (0 + 1) c4) = wz at *
      replace ON := hide (show OwM w.heap.size wz ⟨n, [(true, List.replicate n ((-1 : Int), false))], List.replicate 0 ((0 : Int), (0 : Int)), 0⟩ A4 c4 none 0 [(true, .slice PA n cP)] from ON.out)
      go_wp2
      go_loopw [9] (fun i wr => ∃ (k : Nat) (FA : Option Addr) (cF : Nat), k ≤ f ∧ i = .int .i64 k ∧ Hid (Box wr g4 28 #[.int .i64 0, .slice none 0 0, .slice none 0 0, .int .i64 0]) ∧ Hid (Box wr g6 28 #[.int .i64 (n : Int), .slice A4 1 c4, .slice FA k cF, .int .i64 0]) ∧ Hid (OwM w.heap.size wr ⟨n, [(true, List.replicate n ((-1 : Int), false))], List.replicate k ((0 : Int), (0 : Int)), 0⟩ A4 c4 FA cF [(true, .slice PA n cP)]) ∧ Hid (Below w.heap.size w wr)) (fun i _ => f - (intOf i).toNat)
      case atStart => exact ⟨0, none, 0, Nat.zero_le _, rfl, X4N, X6N, ON, KN⟩
      case round =>
        clear X4N X6N ON KN
        obtain ⟨k, FA, cF, hk, rfl, X4, X6, OM, K⟩ := hrel
        obtain ⟨m0, m1, m2, m3⟩ := box4 X6.out
        by_cases hlt : k < f
        · have hl2 : (k : Int) < (f : Int) := by omega
          have M8 := bal (brefl wr) (.cells #[.int .i64 0, .int .i64 0] 53)
          have NB := hide (Box.new wr 53 #[.int .i64 0, .int .i64 0])
          have SB := hide (Nat.le_trans K.out.size M8.size)
          replace X4 := hide (X4.out.below M8)
          replace X6 := hide (X6.out.below M8)
          replace K := hide (btrans K.out M8)
          replace OM := hide (OM.out.below M8)
          have OP := hide OM.out.fr
          dsimp only at OP
          rw [List.length_replicate] at OP
          clear M8
          go_upto_region 12 with (at_builtin; refine wpList_append_own_at _ rfl (.tmp 51) (.tmp 53) 26 rfl (w.heap.size) 53 i53 _ 2 16 Try.underlying26 hi53 hz53 hy53 hx53 rfl (by omega) (.slice FA k cF) k _ rfl OP.out ⟨wr.heap.size, 0, none⟩ 1 1 [.int .i64 0, .int .i64 0] rfl rfl (two_at NB.out) (one_two rfl rfl) (by simp only [maxLen]; omega) (by omega) SB.out ?_; intro v9 w9 hown hg9 _ hat; obtain ⟨FA2, cF2, ev, hcN⟩ := row_form hown; subst ev; have BG := (Kp.grown OP.out hg9 (Nat.le_refl _) SB.out); obtain ⟨xc0, xc1, xc2, xc3⟩ := box4 (Box.kp X6.out BG (by decide)); have xf1 := (Box.kp X6.out BG (by decide)).frozen 2)
          have O2 := OM.out.pushF (f := (0, 0)) (Af' := FA2) (cf' := cF2) (by rw [List.length_replicate]; exact hown) BG
          have V7 := Box.kp X6.out BG (by decide)
          have ON := hide (show OwM w.heap.size (w9.setCell ⟨g6, 2, none⟩ (.slice FA2 (k + 1) cF2)) ⟨n, [(true, List.replicate n ((-1 : Int), false))], List.replicate (k + 1) ((0 : Int), (0 : Int)), 0⟩ A4 c4 FA2 cF2 [(true, .slice PA n cP)] by
            rw [List.replicate_succ']
            exact O2.kp (Kp.boxset V7 H6.out 2 (.slice FA2 (k + 1) cF2)))
          have X4N := hide ((Box.kp X4.out BG (by decide)).far N46.out (b := g6) (i := 2) (.slice FA2 (k + 1) cF2))
          have X6N := hide (show Box (w9.setCell ⟨g6, 2, none⟩ (.slice FA2 (k + 1) cF2)) g6 28 #[.int .i64 (n : Int), .slice A4 1 c4, .slice FA2 (k + 1) cF2, .int .i64 0] by have := V7.put 2 (.slice FA2 (k + 1) cF2); simpa using this)
          have KN := hide ((K.out.trans BG.below).setCell (p := ⟨g6, 2, none⟩) H6.out (.slice FA2 (k + 1) cF2))
          clear O2 V7 BG hown hg9 hat hcN xc0 xc1 xc2 xc3 xf1 m0 m1 m2 m3 OP NB SB OM X4 X6 K
          generalize w9.setCell ⟨g6, 2, none⟩ (.slice FA2 (k + 1) cF2) = wz at *
          go_wp2
          go_roundw
          case rel => first | exact ⟨k + 1, FA2, cF2, by omega, by go_num, X4N, X6N, ON, KN⟩ | ((repeat apply Exists.intro); exact ⟨⟨k + 1, FA2, cF2, by omega, by go_num, X4N, X6N, ON, KN⟩, rfl⟩)
          case measure => simp [intOf]; omega
        · obtain rfl : f = k := by omega
          obtain ⟨q0, q1, q2, q3⟩ := box4 X4.out
          have f0 := X4.out.frozen 0
          have f1 := X4.out.frozen 1
          have f2 := X4.out.frozen 2
          have f3 := X4.out.frozen 3
          go_wp2
          refine ret_c2 Try.results12 rfl rfl rfl (box4s X4.out) ⟨A4, c4, FA, cF, ?_, (OM.out.setCells4 X4.out H4.out _ _ _ _).toIn, below4 K.out H4.out _ _ _ _⟩
          unfold cwA nwM
          simp
theorem rnew_any (f s : Int) (w : World) : Calls Try.prog 12 #[.int .i64 f, .int .i64 s] w (Res w (nwG f s).1 (nwG f s).2) := by
  by_cases h : (1 ≤ f ∧ f ≤ 256) ∧ 1 ≤ s ∧ s ≤ 512
  · have e : nwG f s = (nwM f.toNat s.toNat, 0) := if_pos h
    rw [e]
    have := rnew_ok f.toNat s.toNat (by omega) (by omega) (by omega) (by omega) w
    rwa [Int.toNat_of_nonneg (by omega), Int.toNat_of_nonneg (by omega)] at this
  · have e : nwG f s = (zeroM, 2) := if_neg h
    rw [e]
    unfold Res
    have K := hide (bal (brefl w) (.cells #[.int .i64 0, .slice none 0 0, .slice none 0 0, .int .i64 0] 28))
    have X4 := hide (Box.new w 28 #[.int .i64 0, .slice none 0 0, .slice none 0 0, .int .i64 0])
    have CS : f < 1 ∨ (¬ f < 1 ∧ 256 < f) ∨ (¬ f < 1 ∧ ¬ 256 < f ∧ s < 1) ∨ (¬ f < 1 ∧ ¬ 256 < f ∧ ¬ s < 1 ∧ 512 < s) := by omega
    clear h e
    go_enter Try.func12, Try.ntmps12
    go_upto_region 1 with fail
    have H4 := hide (Nat.le_refl w.heap.size)
    obtain ⟨g4, hg4⟩ : ∃ g, g = w.heap.size := ⟨_, rfl⟩
    rw [← hg4] at X4 ⊢
    replace H4 := hide (show w.heap.size ≤ g4 by omega)
    clear hg4
    generalize w.alloc (.cells #[.int .i64 0, .slice none 0 0, .slice none 0 0, .int .i64 0] 28) = w1 at *
    obtain ⟨q0, q1, q2, q3⟩ := box4 X4.out
    have f0 := X4.out.frozen 0
    have f1 := X4.out.frozen 1
    have f2 := X4.out.frozen 2
    have f3 := X4.out.frozen 3
    rcases CS with a | ⟨a, b⟩ | ⟨a, b, c⟩ | ⟨a, b, c, d⟩
    all_goals
      go_wp2
      exact ret_c2 Try.results12 rfl rfl rfl (box4s X4.out) ⟨none, 0, none, 0, rfl, zero_in _, below4 K.out H4.out _ _ _ _⟩
end Go.Proofs.Ytoogdggiemacjaa.Cw
