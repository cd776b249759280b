import Derived.Test.YtiopfeleaifpbabW2
namespace Go.Proofs.Ytiopfeleaifpbab.Bd
open Go Go.RowKit
set_option linter.unusedVariables false
theorem lv_no {c n : Int} (h : ¬ (inC c ∧ 0 ≤ n ∧ n ≤ c)) : lvE c n = 2 ∧ lvM c n = ⟨0, 0, 0⟩ := ⟨if_neg h, if_neg h⟩
theorem lv_yes {c n : Int} (h : inC c ∧ 0 ≤ n ∧ n ≤ c) : lvE c n = 0 ∧ lvM c n = ⟨n, min c (n + (n + 3) / 4), min c (n + (n + 1) / 2)⟩ := ⟨if_pos h, if_pos h⟩
/-- what Levels answers -/
def LvR (c n : Int) (w : World) (e : Ending) (w' : World) : Prop := e = .returned (.tuple #[.agg #[.int .i64 (lvM c n).lo, .int .i64 (lvM c n).md, .int .i64 (lvM c n).hi], .int .i64 (lvE c n)]) ∧ Below w.heap.size w w'
theorem set3 {w : World} {g : Nat} {x y z a b c : Value} {t : TypeId} (h : Box w g t #[x, y, z]) : Box (((w.setCell ⟨g, 0, none⟩ a).setCell ⟨g, 1, none⟩ b).setCell ⟨g, 2, none⟩ c) g t #[a, b, c] := ((h.put 0 a).put 1 b).put 2 c
theorem below3 {w w0 : World} {g : Nat} {a b c : Value} (h : Below w0.heap.size w0 w) (hg : w0.heap.size ≤ g) : Below w0.heap.size w0 (((w.setCell ⟨g, 0, none⟩ a).setCell ⟨g, 1, none⟩ b).setCell ⟨g, 2, none⟩ c) := bset (bset (bset h hg _) hg _) hg _
set_option maxHeartbeats 2000000 in
theorem lev_any (c n : Int) (w : World) : Calls Try.prog 11 #[.int .i64 c, .int .i64 n] w (LvR c n w) := by
  unfold LvR
  obtain ⟨g, hg⟩ : ∃ g, g = w.heap.size := ⟨_, rfl⟩
  obtain ⟨W0, hW0⟩ : ∃ W0, W0 = w.alloc (.cells #[.int .i64 0, .int .i64 0, .int .i64 0] 23) := ⟨_, rfl⟩
  have X := hide (show Box W0 g 23 #[.int .i64 0, .int .i64 0, .int .i64 0] by rw [hW0, hg]; exact Box.new w 23 _)
  have K := hide (show Below w.heap.size w W0 by rw [hW0]; exact bal (brefl w) _)
  have HG := hide (show w.heap.size ≤ g by rw [hg]; exact Nat.le_refl _)
  have IC := hide (fun n w => isc_any n w)
  have MN := hide (fun a b w => min_any a b w)
  have x0 : W0.cell? ⟨g, 0, none⟩ = some (.int .i64 0) := X.out.cell 0
  have x1 : W0.cell? ⟨g, 1, none⟩ = some (.int .i64 0) := X.out.cell 1
  have x2 : W0.cell? ⟨g, 2, none⟩ = some (.int .i64 0) := X.out.cell 2
  by_cases hc : inC c
  · have dc := decide_eq_true hc
    by_cases h0 : 0 ≤ n
    · by_cases h1 : n ≤ c
      · have EV := hide (lv_yes ⟨hc, h0, h1⟩)
        unfold inC at hc
        obtain ⟨hc0, hc1⟩ := hc
        go_enter Try.func11, Try.ntmps11
        go_upto_region 1 with fail
        rw [← hW0, ← hg]
        clear hW0 hg
        have f0 := X.out.frozen 0
        have f1 := X.out.frozen 1
        have f2 := X.out.frozen 2
        go_wp2_with (first | (go_at_call 26; refine (IC.out _ _).mono ?_; rintro e w' ⟨rfl, rfl⟩) | (go_at_call 27; refine (MN.out _ _ _).mono ?_; rintro e w' ⟨rfl, rfl⟩))
        exact ret_m2 Try.results11 rfl rfl rfl (set3 X.out) ⟨by rw [EV.out.1, EV.out.2], below3 K.out HG.out⟩
      · have EV := hide (lv_no (c := c) (n := n) (fun h => h1 h.2.2))
        clear hc
        go_enter Try.func11, Try.ntmps11
        go_upto_region 1 with fail
        rw [← hW0, ← hg]
        clear hW0 hg
        have f0 := X.out.frozen 0
        have f1 := X.out.frozen 1
        have f2 := X.out.frozen 2
        go_wp2_with (go_at_call 26; refine (IC.out _ _).mono ?_; rintro e w' ⟨rfl, rfl⟩)
        exact ret_m2 Try.results11 rfl rfl rfl (set3 X.out) ⟨by rw [EV.out.1, EV.out.2], below3 K.out HG.out⟩
    · have EV := hide (lv_no (c := c) (n := n) (fun h => h0 h.2.1))
      clear hc
      go_enter Try.func11, Try.ntmps11
      go_upto_region 1 with fail
      rw [← hW0, ← hg]
      clear hW0 hg
      have f0 := X.out.frozen 0
      have f1 := X.out.frozen 1
      have f2 := X.out.frozen 2
      go_wp2_with (go_at_call 26; refine (IC.out _ _).mono ?_; rintro e w' ⟨rfl, rfl⟩)
      exact ret_m2 Try.results11 rfl rfl rfl (set3 X.out) ⟨by rw [EV.out.1, EV.out.2], below3 K.out HG.out⟩
  · have dc := decide_eq_false hc
    have EV := hide (lv_no (c := c) (n := n) (fun h => hc h.1))
    clear hc
    go_enter Try.func11, Try.ntmps11
    go_upto_region 1 with fail
    rw [← hW0, ← hg]
    clear hW0 hg
    have f0 := X.out.frozen 0
    have f1 := X.out.frozen 1
    have f2 := X.out.frozen 2
    go_wp2_with (go_at_call 26; refine (IC.out _ _).mono ?_; rintro e w' ⟨rfl, rfl⟩)
    exact ret_m2 Try.results11 rfl rfl rfl (set3 X.out) ⟨by rw [EV.out.1, EV.out.2], below3 K.out HG.out⟩
set_option maxHeartbeats 2000000 in
theorem rlev_any (c n : Int) (w : World) : Calls Try.prog 12 #[.int .i64 c, .int .i64 n] w (LvR c n w) := by
  unfold LvR
  obtain ⟨g, hg⟩ : ∃ g, g = w.heap.size := ⟨_, rfl⟩
  obtain ⟨W0, hW0⟩ : ∃ W0, W0 = w.alloc (.cells #[.int .i64 0, .int .i64 0, .int .i64 0] 23) := ⟨_, rfl⟩
  have X := hide (show Box W0 g 23 #[.int .i64 0, .int .i64 0, .int .i64 0] by rw [hW0, hg]; exact Box.new w 23 _)
  have K := hide (show Below w.heap.size w W0 by rw [hW0]; exact bal (brefl w) _)
  have HG := hide (show w.heap.size ≤ g by rw [hg]; exact Nat.le_refl _)
  have IC := hide (fun n w => isr_any n w)
  have MN := hide (fun a b w => min_any a b w)
  have x0 : W0.cell? ⟨g, 0, none⟩ = some (.int .i64 0) := X.out.cell 0
  have x1 : W0.cell? ⟨g, 1, none⟩ = some (.int .i64 0) := X.out.cell 1
  have x2 : W0.cell? ⟨g, 2, none⟩ = some (.int .i64 0) := X.out.cell 2
  by_cases hc : inC c
  · have dc := decide_eq_true hc
    by_cases h0 : 0 ≤ n
    · by_cases h1 : n ≤ c
      · have EV := hide (lv_yes ⟨hc, h0, h1⟩)
        unfold inC at hc
        obtain ⟨hc0, hc1⟩ := hc
        go_enter Try.func12, Try.ntmps12
        go_upto_region 1 with fail
        rw [← hW0, ← hg]
        clear hW0 hg
        have f0 := X.out.frozen 0
        have f1 := X.out.frozen 1
        have f2 := X.out.frozen 2
        go_upto_region 4 with (go_at_call 28; refine (IC.out _ _).mono ?_; rintro e w' ⟨rfl, rfl⟩)
        generalize hp1 : n + (n + 3) / 4 = p1 at *
        generalize hp2 : n + (n + 1) / 2 = p2 at *
        clear hp1 hp2
        have M := bal (brefl W0) (.cells #[.int .i64 n, .int .i64 p1, .int .i64 p2] 23)
        have X2 := hide (Box.new W0 23 #[.int .i64 n, .int .i64 p1, .int .i64 p2])
        have HG2 := hide (show w.heap.size ≤ W0.heap.size from K.out.size)
        have HNE := hide (show g ≠ W0.heap.size from Nat.ne_of_lt X.out.lt)
        replace X := hide (X.out.below M)
        replace K := hide (btrans K.out M)
        obtain ⟨g2, hg2⟩ : ∃ x, x = W0.heap.size := ⟨_, rfl⟩
        rw [← hg2] at X2 HG2 HNE ⊢
        clear M x0 x1 x2 f0 f1 f2
        generalize W0.alloc (.cells #[.int .i64 n, .int .i64 p1, .int .i64 p2] 23) = W1 at *
        clear hg2
        have q0 : W1.cell? ⟨g2, 0, none⟩ = some (.int .i64 n) := X2.out.cell 0
        have q1 : W1.cell? ⟨g2, 1, none⟩ = some (.int .i64 p1) := X2.out.cell 1
        have q2 : W1.cell? ⟨g2, 2, none⟩ = some (.int .i64 p2) := X2.out.cell 2
        have e1 := X2.out.frozen 1
        have e2 := X2.out.frozen 2
        by_cases h1 : c < p1
        · go_upto_region 6 with fail
          replace X2 := hide (X2.out.put 1 (.int .i64 c))
          replace X := hide (X.out.far HNE.out (.int .i64 c) (i := 1))
          replace K := hide (bset K.out (p := ⟨g2, 1, none⟩) HG2.out (.int .i64 c))
          clear q0 q1 q2 e1 e2
          generalize W1.setCell ⟨g2, 1, none⟩ (.int .i64 c) = W1 at *
          have q0 : W1.cell? ⟨g2, 0, none⟩ = some (.int .i64 n) := X2.out.cell 0
          have q1 : W1.cell? ⟨g2, 1, none⟩ = some (.int .i64 c) := X2.out.cell 1
          have q2 : W1.cell? ⟨g2, 2, none⟩ = some (.int .i64 p2) := X2.out.cell 2
          have e1 := X2.out.frozen 1
          have e2 := X2.out.frozen 2
          by_cases h2 : c < p2
          · go_upto_region 8 with fail
            have Y2 := hide (X2.out.put 2 (.int .i64 c))
            have Y := hide (X.out.far HNE.out (.int .i64 c) (i := 2))
            have KY := hide (bset K.out (p := ⟨g2, 2, none⟩) HG2.out (.int .i64 c))
            clear q0 q1 q2 e1 e2 X X2 K
            generalize W1.setCell ⟨g2, 2, none⟩ (.int .i64 c) = W3 at *
            have f0 := Y.out.frozen 0
            have f1 := Y.out.frozen 1
            have f2 := Y.out.frozen 2
            have x0 : W3.cell? ⟨g, 0, none⟩ = some (.int .i64 0) := Y.out.cell 0
            have x1 : W3.cell? ⟨g, 1, none⟩ = some (.int .i64 0) := Y.out.cell 1
            have x2 : W3.cell? ⟨g, 2, none⟩ = some (.int .i64 0) := Y.out.cell 2
            have z0 : W3.cell? ⟨g2, 0, none⟩ = some (.int .i64 n) := Y2.out.cell 0
            have z1 : W3.cell? ⟨g2, 1, none⟩ = some (.int .i64 c) := Y2.out.cell 1
            have z2 : W3.cell? ⟨g2, 2, none⟩ = some (.int .i64 c) := Y2.out.cell 2
            go_wp2
            exact ret_m2 Try.results12 rfl rfl rfl (set3 Y.out) ⟨by rw [EV.out.1, EV.out.2, show min c p1 = c by omega, show min c p2 = c by omega], below3 KY.out HG.out⟩
          · have Y2 := X2
            have Y := X
            have KY := K
            obtain ⟨W3, hW3⟩ : ∃ W3, W3 = W1 := ⟨_, rfl⟩
            go_upto_region 8 with fail
            rw [← hW3] at Y2 Y KY ⊢
            clear q0 q1 q2 e1 e2 X X2 K hW3
            have f0 := Y.out.frozen 0
            have f1 := Y.out.frozen 1
            have f2 := Y.out.frozen 2
            have x0 : W3.cell? ⟨g, 0, none⟩ = some (.int .i64 0) := Y.out.cell 0
            have x1 : W3.cell? ⟨g, 1, none⟩ = some (.int .i64 0) := Y.out.cell 1
            have x2 : W3.cell? ⟨g, 2, none⟩ = some (.int .i64 0) := Y.out.cell 2
            have z0 : W3.cell? ⟨g2, 0, none⟩ = some (.int .i64 n) := Y2.out.cell 0
            have z1 : W3.cell? ⟨g2, 1, none⟩ = some (.int .i64 c) := Y2.out.cell 1
            have z2 : W3.cell? ⟨g2, 2, none⟩ = some (.int .i64 p2) := Y2.out.cell 2
            go_wp2
            exact ret_m2 Try.results12 rfl rfl rfl (set3 Y.out) ⟨by rw [EV.out.1, EV.out.2, show min c p1 = c by omega, show min c p2 = p2 by omega], below3 KY.out HG.out⟩
        · go_upto_region 6 with fail
          clear q0 q1 q2 e1 e2
          have q0 : W1.cell? ⟨g2, 0, none⟩ = some (.int .i64 n) := X2.out.cell 0
          have q1 : W1.cell? ⟨g2, 1, none⟩ = some (.int .i64 p1) := X2.out.cell 1
          have q2 : W1.cell? ⟨g2, 2, none⟩ = some (.int .i64 p2) := X2.out.cell 2
          have e1 := X2.out.frozen 1
          have e2 := X2.out.frozen 2
          by_cases h2 : c < p2
          · go_upto_region 8 with fail
            have Y2 := hide (X2.out.put 2 (.int .i64 c))
            have Y := hide (X.out.far HNE.out (.int .i64 c) (i := 2))
            have KY := hide (bset K.out (p := ⟨g2, 2, none⟩) HG2.out (.int .i64 c))
            clear q0 q1 q2 e1 e2 X X2 K
            generalize W1.setCell ⟨g2, 2, none⟩ (.int .i64 c) = W3 at *
            have f0 := Y.out.frozen 0
            have f1 := Y.out.frozen 1
            have f2 := Y.out.frozen 2
            have x0 : W3.cell? ⟨g, 0, none⟩ = some (.int .i64 0) := Y.out.cell 0
            have x1 : W3.cell? ⟨g, 1, none⟩ = some (.int .i64 0) := Y.out.cell 1
            have x2 : W3.cell? ⟨g, 2, none⟩ = some (.int .i64 0) := Y.out.cell 2
            have z0 : W3.cell? ⟨g2, 0, none⟩ = some (.int .i64 n) := Y2.out.cell 0
            have z1 : W3.cell? ⟨g2, 1, none⟩ = some (.int .i64 p1) := Y2.out.cell 1
            have z2 : W3.cell? ⟨g2, 2, none⟩ = some (.int .i64 c) := Y2.out.cell 2
            go_wp2
            exact ret_m2 Try.results12 rfl rfl rfl (set3 Y.out) ⟨by rw [EV.out.1, EV.out.2, show min c p1 = p1 by omega, show min c p2 = c by omega], below3 KY.out HG.out⟩
          · have Y2 := X2
            have Y := X
            have KY := K
            obtain ⟨W3, hW3⟩ : ∃ W3, W3 = W1 := ⟨_, rfl⟩
            go_upto_region 8 with fail
            rw [← hW3] at Y2 Y KY ⊢
            clear q0 q1 q2 e1 e2 X X2 K hW3
            have f0 := Y.out.frozen 0
            have f1 := Y.out.frozen 1
            have f2 := Y.out.frozen 2
            have x0 : W3.cell? ⟨g, 0, none⟩ = some (.int .i64 0) := Y.out.cell 0
            have x1 : W3.cell? ⟨g, 1, none⟩ = some (.int .i64 0) := Y.out.cell 1
            have x2 : W3.cell? ⟨g, 2, none⟩ = some (.int .i64 0) := Y.out.cell 2
            have z0 : W3.cell? ⟨g2, 0, none⟩ = some (.int .i64 n) := Y2.out.cell 0
            have z1 : W3.cell? ⟨g2, 1, none⟩ = some (.int .i64 p1) := Y2.out.cell 1
            have z2 : W3.cell? ⟨g2, 2, none⟩ = some (.int .i64 p2) := Y2.out.cell 2
            go_wp2
            exact ret_m2 Try.results12 rfl rfl rfl (set3 Y.out) ⟨by rw [EV.out.1, EV.out.2, show min c p1 = p1 by omega, show min c p2 = p2 by omega], below3 KY.out HG.out⟩
      · have EV := hide (lv_no (c := c) (n := n) (fun h => h1 h.2.2))
        clear hc
        go_enter Try.func12, Try.ntmps12
        go_upto_region 1 with fail
        rw [← hW0, ← hg]
        clear hW0 hg
        have f0 := X.out.frozen 0
        have f1 := X.out.frozen 1
        have f2 := X.out.frozen 2
        go_wp2_with (go_at_call 28; refine (IC.out _ _).mono ?_; rintro e w' ⟨rfl, rfl⟩)
        exact ret_m2 Try.results12 rfl rfl rfl (set3 X.out) ⟨by rw [EV.out.1, EV.out.2], below3 K.out HG.out⟩
    · have EV := hide (lv_no (c := c) (n := n) (fun h => h0 h.2.1))
      clear hc
      go_enter Try.func12, Try.ntmps12
      go_upto_region 1 with fail
      rw [← hW0, ← hg]
      clear hW0 hg
      have f0 := X.out.frozen 0
      have f1 := X.out.frozen 1
      have f2 := X.out.frozen 2
      go_wp2_with (go_at_call 28; refine (IC.out _ _).mono ?_; rintro e w' ⟨rfl, rfl⟩)
      exact ret_m2 Try.results12 rfl rfl rfl (set3 X.out) ⟨by rw [EV.out.1, EV.out.2], below3 K.out HG.out⟩
  · have dc := decide_eq_false hc
    have EV := hide (lv_no (c := c) (n := n) (fun h => hc h.1))
    clear hc
    go_enter Try.func12, Try.ntmps12
    go_upto_region 1 with fail
    rw [← hW0, ← hg]
    clear hW0 hg
    have f0 := X.out.frozen 0
    have f1 := X.out.frozen 1
    have f2 := X.out.frozen 2
    go_wp2_with (go_at_call 28; refine (IC.out _ _).mono ?_; rintro e w' ⟨rfl, rfl⟩)
    exact ret_m2 Try.results12 rfl rfl rfl (set3 X.out) ⟨by rw [EV.out.1, EV.out.2], below3 K.out HG.out⟩
end Go.Proofs.Ytiopfeleaifpbab.Bd
