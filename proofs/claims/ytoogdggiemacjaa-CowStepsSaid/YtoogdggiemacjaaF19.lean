import Derived.Test.YtoogdggiemacjaaF18
import Derived.Test.YtoogdggiemacjaaF12
import Derived.Test.YtoogdggiemacjaaF10
namespace Go.Proofs.Ytoogdggiemacjaa.Cw
open Go Go.RowKit
set_option linter.unusedVariables false
set_option linter.unusedSimpArgs false
/-- rows that are read lie in no box of a machine -/
theorem RdF.far4 {w : World} {A : Option Addr} {L : List Fr} {g : Nat} {a d : Int} {A1 A2 : Option Addr} {n1 n2 c1 c2 : Nat} (h : RdF w A L) (hX : Box w g 28 #[.int .i64 a, .slice A1 n1 c1, .slice A2 n2 c2, .int .i64 d]) (x y z u : Value) : RdF ((((w.setCell ⟨g, 0, none⟩ x).setCell ⟨g, 1, none⟩ y).setCell ⟨g, 2, none⟩ z).setCell ⟨g, 3, none⟩ u) A L := fun hn => by
  obtain ⟨b, off, e, hl, hc⟩ := h hn
  have hne : b ≠ g := by
    rintro rfl
    have hp : 0 < L.length := by cases L with | nil => exact absurd rfl hn | cons _ _ => simp
    obtain ⟨h0, h1⟩ := hc 0 hp
    rw [Nat.zero_mul, Nat.add_zero, hX.cell] at h0
    rw [Nat.zero_mul, Nat.add_zero, hX.cell] at h1
    rcases (show off = 0 ∨ off = 1 ∨ off = 2 ∨ 3 ≤ off by omega) with rfl | rfl | rfl | h3
    · simp at h1
    · simp at h0
    · simp at h0
    · rw [Array.getElem?_eq_none (by show 4 ≤ off + 1; omega)] at h1; cases h1
  have ec : ∀ j, ((((w.setCell ⟨g, 0, none⟩ x).setCell ⟨g, 1, none⟩ y).setCell ⟨g, 2, none⟩ z).setCell ⟨g, 3, none⟩ u).cell? ⟨b, j, none⟩ = w.cell? ⟨b, j, none⟩ := fun j => by
    simp only [World.cell?, set4_other w g x y z u hne]
  exact ⟨b, off, e, by simpa using hl, fun k hk => ⟨(ec _).trans (hc k hk).1, (ec _).trans (hc k hk).2⟩⟩
theorem RdP.far4 {w : World} {A : Option Addr} {L : List Pg} {g : Nat} {a d : Int} {A1 A2 : Option Addr} {n1 n2 c1 c2 : Nat} (h : RdP w A L) (hX : Box w g 28 #[.int .i64 a, .slice A1 n1 c1, .slice A2 n2 c2, .int .i64 d]) (x y z u : Value) : RdP ((((w.setCell ⟨g, 0, none⟩ x).setCell ⟨g, 1, none⟩ y).setCell ⟨g, 2, none⟩ z).setCell ⟨g, 3, none⟩ u) A L := fun hn => by
  obtain ⟨b, off, e, hl, hc⟩ := h hn
  have hne : b ≠ g := by
    rintro rfl
    have hp : 0 < L.length := by cases L with | nil => exact absurd rfl hn | cons _ _ => simp
    obtain ⟨h0, h1⟩ := hc 0 hp
    rw [Nat.zero_mul, Nat.add_zero, hX.cell] at h1
    rcases (show off = 0 ∨ off = 1 ∨ off = 2 ∨ 3 ≤ off by omega) with rfl | rfl | rfl | h3
    · simp at h1
    · simp at h1
    · simp at h1
    · rw [Array.getElem?_eq_none (by show 4 ≤ off + 1; omega)] at h1; cases h1
  have ec : ∀ j, ((((w.setCell ⟨g, 0, none⟩ x).setCell ⟨g, 1, none⟩ y).setCell ⟨g, 2, none⟩ z).setCell ⟨g, 3, none⟩ u).cell? ⟨b, j, none⟩ = w.cell? ⟨b, j, none⟩ := fun j => by
    simp only [World.cell?, set4_other w g x y z u hne]
  exact ⟨b, off, e, by simpa using hl, fun k hk => ⟨(ec _).trans (hc k hk).1, (ec _).trans (hc k hk).2⟩⟩
theorem RdS.far4 {w : World} {A : Option Addr} {L : List Sp} {g : Nat} {a d : Int} {A1 A2 : Option Addr} {n1 n2 c1 c2 : Nat} (h : RdS w A L) (hX : Box w g 28 #[.int .i64 a, .slice A1 n1 c1, .slice A2 n2 c2, .int .i64 d]) (x y z u : Value) : RdS ((((w.setCell ⟨g, 0, none⟩ x).setCell ⟨g, 1, none⟩ y).setCell ⟨g, 2, none⟩ z).setCell ⟨g, 3, none⟩ u) A L := fun hn => by
  obtain ⟨b, off, e, hl, hc⟩ := h hn
  have hne : b ≠ g := by
    rintro rfl
    have hp : 0 < L.length := by cases L with | nil => exact absurd rfl hn | cons _ _ => simp
    obtain ⟨v, h0, h1, _⟩ := hc 0 hp
    rw [Nat.zero_mul, Nat.add_zero, hX.cell] at h0
    rcases (show off = 0 ∨ off = 1 ∨ off = 2 ∨ off = 3 ∨ 4 ≤ off by omega) with rfl | rfl | rfl | rfl | h3
    · simp at h0
    · simp at h0
    · simp at h0
    · simp at h0
    · rw [Array.getElem?_eq_none (by show 4 ≤ off; omega)] at h0; cases h0
  have ec : ∀ j, ((((w.setCell ⟨g, 0, none⟩ x).setCell ⟨g, 1, none⟩ y).setCell ⟨g, 2, none⟩ z).setCell ⟨g, 3, none⟩ u).cell? ⟨b, j, none⟩ = w.cell? ⟨b, j, none⟩ := fun j => by
    simp only [World.cell?, set4_other w g x y z u hne]
  refine ⟨b, off, e, by simpa using hl, fun k hk => ?_⟩
  obtain ⟨v, h0, h1, A, c, e2, h2, h3⟩ := hc k hk
  exact ⟨v, (ec _).trans h0, (ec _).trans h1, A, c, e2, h2, h3.far4 hX x y z u⟩
theorem CwIn.far4 {w : World} {M : Cow} {As Af : Option Addr} {cs cf : Nat} {g : Nat} {a d : Int} {A1 A2 : Option Addr} {n1 n2 c1 c2 : Nat} (h : CwIn w M As cs Af cf) (hX : Box w g 28 #[.int .i64 a, .slice A1 n1 c1, .slice A2 n2 c2, .int .i64 d]) (x y z u : Value) : CwIn ((((w.setCell ⟨g, 0, none⟩ x).setCell ⟨g, 1, none⟩ y).setCell ⟨g, 2, none⟩ z).setCell ⟨g, 3, none⟩ u) M As cs Af cf :=
  ⟨h.hs, h.hf, h.rs.far4 hX x y z u, h.rf.far4 hX x y z u⟩
/-- one operation -/
def plG (M : Cow) (k s p x : Int) : Cow × Int × Int :=
  if k = 0 then ((wrG1 M s p x).1, 0, (wrG1 M s p x).2) else if k = 1 then fkG M s else if k = 2 then (unG M s p, 0, cpE M s p) else if k = 3 then (exG M s, 0, csE M s) else (M, rdV M s p, cpE M s p)
set_option maxRecDepth 100000 in
set_option maxHeartbeats 8000000 in
theorem play_0 (M : Cow) (As Af : Option Addr) (cs cf : Nat) (s p x : Int) (w : World) (h : CwIn w M As cs Af cf) (hB : Big M) : Calls Try.prog 14 #[.agg (cwA M As cs Af cf), .agg #[.int .i64 0, .int .i64 s, .int .i64 p, .int .i64 x]] w (Res3 w (wrG1 M s p x).1 0 (wrG1 M s p x).2) := by
  have hp := True.intro
  have C := hide (fun w (h : CwIn w M As cs Af cf) => write_any M As Af cs cf s p x w h hB)
  obtain ⟨M2, hM2⟩ : ∃ M2, M2 = (wrG1 M s p x).1 := ⟨_, rfl⟩
  obtain ⟨er, her⟩ : ∃ er, er = (wrG1 M s p x).2 := ⟨_, rfl⟩
  rw [← hM2, ← her] at C
  unfold Res at C
  rw [← hM2, ← her]
  clear hM2 her
  unfold cwA at C
  unfold Res3
  obtain ⟨W0, hW0⟩ : ∃ W0, W0 = ((w.alloc (.cells (cwA M As cs Af cf) 28)).alloc (.cells #[.int .i64 0, .int .i64 s, .int .i64 p, .int .i64 x] 33)).alloc (.cells #[.int .i64 0, .slice none 0 0, .slice none 0 0, .int .i64 0] 28) := ⟨_, rfl⟩
  have K := hide (show Below w.heap.size w W0 by rw [hW0]; exact bal (bal (bal (brefl w) _) _) _)
  have X2 := hide (show Box W0 w.heap.size 28 (cwA M As cs Af cf) by rw [hW0]; exact ((Box.new w 28 _).more _).more _)
  have X3 := hide (show Box W0 (w.heap.size + 1) 33 #[.int .i64 0, .int .i64 s, .int .i64 p, .int .i64 x] by rw [hW0]; exact (Box.new2 w _ 33 _).more _)
  have X4 := hide (show Box W0 (w.heap.size + 1 + 1) 28 #[.int .i64 0, .slice none 0 0, .slice none 0 0, .int .i64 0] by rw [hW0]; exact Box.new3 w _ _ 28 _)
  have IN := hide (h.below K.out)
  have PL := hide hp
  unfold cwA at X2 hW0 ⊢
  clear hp h
  go_enter Try.func14, Try.ntmps14
  go_upto_region 1 with fail
  rw [← hW0]
  clear hW0
  have HG := hide (show w.heap.size ≤ w.heap.size + 1 + 1 by omega)
  generalize hg4 : w.heap.size + 1 + 1 = g4 at *
  generalize hg3 : w.heap.size + 1 = g3 at *
  obtain ⟨g2, hg2⟩ : ∃ g, g = w.heap.size := ⟨_, rfl⟩
  rw [← hg2] at X2 ⊢
  clear hg2 hg3 hg4
  obtain ⟨x0, x1, x2, x3⟩ := box4 X2.out
  obtain ⟨y0, y1, y2, y3⟩ := box4 X3.out
  go_wp2_with fail
  refine (C.out _ IN.out).mono ?_
  rintro e w1 ⟨As', cs', Af', cf', rfl, hin, hb⟩
  replace X4 := hide (X4.out.below hb)
  replace K := hide (btrans K.out hb)
  have IN2 := hide hin
  clear hb hin x0 x1 x2 x3 y0 y1 y2 y3 C
  have M7 := bal (brefl w1) (.cells (cwA M2 As' cs' Af' cf') 28)
  have X7 := hide (Box.new w1 28 (cwA M2 As' cs' Af' cf'))
  replace X4 := hide (X4.out.below M7)
  replace K := hide (btrans K.out M7)
  replace IN2 := hide (IN2.out.below M7)
  clear M7
  unfold cwA at X7 X4 K IN2
  go_upto_region 4 with fail
  generalize w1.heap.size = g7 at *
  generalize w1.alloc (.cells #[.int .i64 M2.sz, .slice As' M2.sp.length cs', .slice Af' M2.fr.length cf', .int .i64 M2.cp] 28) = w2 at *
  obtain ⟨z0, z1, z2, z3⟩ := box4 X7.out
  obtain ⟨q0, q1, q2, q3⟩ := box4 X4.out
  have f0 := X4.out.frozen 0
  have f1 := X4.out.frozen 1
  have f2 := X4.out.frozen 2
  have f3 := X4.out.frozen 3
  go_wp2
  exact ret_c3 Try.results14 rfl rfl rfl rfl (box4s X4.out) ⟨As', cs', Af', cf', rfl, IN2.out.far4 X4.out _ _ _ _, below4 K.out HG.out _ _ _ _⟩
set_option maxRecDepth 100000 in
set_option maxHeartbeats 8000000 in
theorem play_2 (M : Cow) (As Af : Option Addr) (cs cf : Nat) (s p x : Int) (w : World) (h : CwIn w M As cs Af cf) (hB : Big M) : Calls Try.prog 14 #[.agg (cwA M As cs Af cf), .agg #[.int .i64 2, .int .i64 s, .int .i64 p, .int .i64 x]] w (Res3 w (unG M s p) 0 (cpE M s p)) := by
  have hp := True.intro
  have C := hide (fun w (h : CwIn w M As cs Af cf) => unmap_any M As Af cs cf s p w h hB)
  obtain ⟨M2, hM2⟩ : ∃ M2, M2 = unG M s p := ⟨_, rfl⟩
  obtain ⟨er, her⟩ : ∃ er, er = cpE M s p := ⟨_, rfl⟩
  rw [← hM2, ← her] at C
  unfold Res at C
  rw [← hM2, ← her]
  clear hM2 her
  unfold cwA at C
  unfold Res3
  obtain ⟨W0, hW0⟩ : ∃ W0, W0 = ((w.alloc (.cells (cwA M As cs Af cf) 28)).alloc (.cells #[.int .i64 2, .int .i64 s, .int .i64 p, .int .i64 x] 33)).alloc (.cells #[.int .i64 0, .slice none 0 0, .slice none 0 0, .int .i64 0] 28) := ⟨_, rfl⟩
  have K := hide (show Below w.heap.size w W0 by rw [hW0]; exact bal (bal (bal (brefl w) _) _) _)
  have X2 := hide (show Box W0 w.heap.size 28 (cwA M As cs Af cf) by rw [hW0]; exact ((Box.new w 28 _).more _).more _)
  have X3 := hide (show Box W0 (w.heap.size + 1) 33 #[.int .i64 2, .int .i64 s, .int .i64 p, .int .i64 x] by rw [hW0]; exact (Box.new2 w _ 33 _).more _)
  have X4 := hide (show Box W0 (w.heap.size + 1 + 1) 28 #[.int .i64 0, .slice none 0 0, .slice none 0 0, .int .i64 0] by rw [hW0]; exact Box.new3 w _ _ 28 _)
  have IN := hide (h.below K.out)
  have PL := hide hp
  unfold cwA at X2 hW0 ⊢
  clear hp h
  go_enter Try.func14, Try.ntmps14
  go_upto_region 1 with fail
  rw [← hW0]
  clear hW0
  have HG := hide (show w.heap.size ≤ w.heap.size + 1 + 1 by omega)
  generalize hg4 : w.heap.size + 1 + 1 = g4 at *
  generalize hg3 : w.heap.size + 1 = g3 at *
  obtain ⟨g2, hg2⟩ : ∃ g, g = w.heap.size := ⟨_, rfl⟩
  rw [← hg2] at X2 ⊢
  clear hg2 hg3 hg4
  obtain ⟨x0, x1, x2, x3⟩ := box4 X2.out
  obtain ⟨y0, y1, y2, y3⟩ := box4 X3.out
  go_wp2_with fail
  refine (C.out _ IN.out).mono ?_
  rintro e w1 ⟨As', cs', Af', cf', rfl, hin, hb⟩
  replace X4 := hide (X4.out.below hb)
  replace K := hide (btrans K.out hb)
  have IN2 := hide hin
  clear hb hin x0 x1 x2 x3 y0 y1 y2 y3 C
  have M7 := bal (brefl w1) (.cells (cwA M2 As' cs' Af' cf') 28)
  have X7 := hide (Box.new w1 28 (cwA M2 As' cs' Af' cf'))
  replace X4 := hide (X4.out.below M7)
  replace K := hide (btrans K.out M7)
  replace IN2 := hide (IN2.out.below M7)
  clear M7
  unfold cwA at X7 X4 K IN2
  go_upto_region 9 with fail
  generalize w1.heap.size = g7 at *
  generalize w1.alloc (.cells #[.int .i64 M2.sz, .slice As' M2.sp.length cs', .slice Af' M2.fr.length cf', .int .i64 M2.cp] 28) = w2 at *
  obtain ⟨z0, z1, z2, z3⟩ := box4 X7.out
  obtain ⟨q0, q1, q2, q3⟩ := box4 X4.out
  have f0 := X4.out.frozen 0
  have f1 := X4.out.frozen 1
  have f2 := X4.out.frozen 2
  have f3 := X4.out.frozen 3
  go_wp2
  exact ret_c3 Try.results14 rfl rfl rfl rfl (box4s X4.out) ⟨As', cs', Af', cf', rfl, IN2.out.far4 X4.out _ _ _ _, below4 K.out HG.out _ _ _ _⟩
set_option maxRecDepth 100000 in
set_option maxHeartbeats 8000000 in
theorem play_3 (M : Cow) (As Af : Option Addr) (cs cf : Nat) (s p x : Int) (w : World) (h : CwIn w M As cs Af cf) (hB : Big M) : Calls Try.prog 14 #[.agg (cwA M As cs Af cf), .agg #[.int .i64 3, .int .i64 s, .int .i64 p, .int .i64 x]] w (Res3 w (exG M s) 0 (csE M s)) := by
  have hp := True.intro
  have C := hide (fun w (h : CwIn w M As cs Af cf) => exit_any M As Af cs cf s w h hB)
  obtain ⟨M2, hM2⟩ : ∃ M2, M2 = exG M s := ⟨_, rfl⟩
  obtain ⟨er, her⟩ : ∃ er, er = csE M s := ⟨_, rfl⟩
  rw [← hM2, ← her] at C
  unfold Res at C
  rw [← hM2, ← her]
  clear hM2 her
  unfold cwA at C
  unfold Res3
  obtain ⟨W0, hW0⟩ : ∃ W0, W0 = ((w.alloc (.cells (cwA M As cs Af cf) 28)).alloc (.cells #[.int .i64 3, .int .i64 s, .int .i64 p, .int .i64 x] 33)).alloc (.cells #[.int .i64 0, .slice none 0 0, .slice none 0 0, .int .i64 0] 28) := ⟨_, rfl⟩
  have K := hide (show Below w.heap.size w W0 by rw [hW0]; exact bal (bal (bal (brefl w) _) _) _)
  have X2 := hide (show Box W0 w.heap.size 28 (cwA M As cs Af cf) by rw [hW0]; exact ((Box.new w 28 _).more _).more _)
  have X3 := hide (show Box W0 (w.heap.size + 1) 33 #[.int .i64 3, .int .i64 s, .int .i64 p, .int .i64 x] by rw [hW0]; exact (Box.new2 w _ 33 _).more _)
  have X4 := hide (show Box W0 (w.heap.size + 1 + 1) 28 #[.int .i64 0, .slice none 0 0, .slice none 0 0, .int .i64 0] by rw [hW0]; exact Box.new3 w _ _ 28 _)
  have IN := hide (h.below K.out)
  have PL := hide hp
  unfold cwA at X2 hW0 ⊢
  clear hp h
  go_enter Try.func14, Try.ntmps14
  go_upto_region 1 with fail
  rw [← hW0]
  clear hW0
  have HG := hide (show w.heap.size ≤ w.heap.size + 1 + 1 by omega)
  generalize hg4 : w.heap.size + 1 + 1 = g4 at *
  generalize hg3 : w.heap.size + 1 = g3 at *
  obtain ⟨g2, hg2⟩ : ∃ g, g = w.heap.size := ⟨_, rfl⟩
  rw [← hg2] at X2 ⊢
  clear hg2 hg3 hg4
  obtain ⟨x0, x1, x2, x3⟩ := box4 X2.out
  obtain ⟨y0, y1, y2, y3⟩ := box4 X3.out
  go_wp2_with fail
  refine (C.out _ IN.out).mono ?_
  rintro e w1 ⟨As', cs', Af', cf', rfl, hin, hb⟩
  replace X4 := hide (X4.out.below hb)
  replace K := hide (btrans K.out hb)
  have IN2 := hide hin
  clear hb hin x0 x1 x2 x3 y0 y1 y2 y3 C
  have M7 := bal (brefl w1) (.cells (cwA M2 As' cs' Af' cf') 28)
  have X7 := hide (Box.new w1 28 (cwA M2 As' cs' Af' cf'))
  replace X4 := hide (X4.out.below M7)
  replace K := hide (btrans K.out M7)
  replace IN2 := hide (IN2.out.below M7)
  clear M7
  unfold cwA at X7 X4 K IN2
  go_upto_region 12 with fail
  generalize w1.heap.size = g7 at *
  generalize w1.alloc (.cells #[.int .i64 M2.sz, .slice As' M2.sp.length cs', .slice Af' M2.fr.length cf', .int .i64 M2.cp] 28) = w2 at *
  obtain ⟨z0, z1, z2, z3⟩ := box4 X7.out
  obtain ⟨q0, q1, q2, q3⟩ := box4 X4.out
  have f0 := X4.out.frozen 0
  have f1 := X4.out.frozen 1
  have f2 := X4.out.frozen 2
  have f3 := X4.out.frozen 3
  go_wp2
  exact ret_c3 Try.results14 rfl rfl rfl rfl (box4s X4.out) ⟨As', cs', Af', cf', rfl, IN2.out.far4 X4.out _ _ _ _, below4 K.out HG.out _ _ _ _⟩
set_option maxRecDepth 100000 in
set_option maxHeartbeats 8000000 in
theorem play_1 (M : Cow) (As Af : Option Addr) (cs cf : Nat) (s p x : Int) (w : World) (h : CwIn w M As cs Af cf) (hB : Big M) : Calls Try.prog 14 #[.agg (cwA M As cs Af cf), .agg #[.int .i64 1, .int .i64 s, .int .i64 p, .int .i64 x]] w (Res3 w (fkG M s).1 (fkG M s).2.1 (fkG M s).2.2) := by
  have hp := True.intro
  have C := hide (fun w (h : CwIn w M As cs Af cf) => fork_any M As Af cs cf s w h hB)
  obtain ⟨⟨M2, nr, er⟩, hf⟩ : ∃ q, q = fkG M s := ⟨_, rfl⟩
  rw [← hf] at C ⊢
  clear hf
  dsimp only at C ⊢
  unfold Res3 cwA at C
  unfold Res3
  obtain ⟨W0, hW0⟩ : ∃ W0, W0 = ((w.alloc (.cells (cwA M As cs Af cf) 28)).alloc (.cells #[.int .i64 1, .int .i64 s, .int .i64 p, .int .i64 x] 33)).alloc (.cells #[.int .i64 0, .slice none 0 0, .slice none 0 0, .int .i64 0] 28) := ⟨_, rfl⟩
  have K := hide (show Below w.heap.size w W0 by rw [hW0]; exact bal (bal (bal (brefl w) _) _) _)
  have X2 := hide (show Box W0 w.heap.size 28 (cwA M As cs Af cf) by rw [hW0]; exact ((Box.new w 28 _).more _).more _)
  have X3 := hide (show Box W0 (w.heap.size + 1) 33 #[.int .i64 1, .int .i64 s, .int .i64 p, .int .i64 x] by rw [hW0]; exact (Box.new2 w _ 33 _).more _)
  have X4 := hide (show Box W0 (w.heap.size + 1 + 1) 28 #[.int .i64 0, .slice none 0 0, .slice none 0 0, .int .i64 0] by rw [hW0]; exact Box.new3 w _ _ 28 _)
  have IN := hide (h.below K.out)
  have PL := hide hp
  unfold cwA at X2 hW0 ⊢
  clear hp h
  go_enter Try.func14, Try.ntmps14
  go_upto_region 1 with fail
  rw [← hW0]
  clear hW0
  have HG := hide (show w.heap.size ≤ w.heap.size + 1 + 1 by omega)
  generalize hg4 : w.heap.size + 1 + 1 = g4 at *
  generalize hg3 : w.heap.size + 1 = g3 at *
  obtain ⟨g2, hg2⟩ : ∃ g, g = w.heap.size := ⟨_, rfl⟩
  rw [← hg2] at X2 ⊢
  clear hg2 hg3 hg4
  obtain ⟨x0, x1, x2, x3⟩ := box4 X2.out
  obtain ⟨y0, y1, y2, y3⟩ := box4 X3.out
  go_wp2_with fail
  refine (C.out _ IN.out).mono ?_
  rintro e w1 ⟨As', cs', Af', cf', rfl, hin, hb⟩
  replace X4 := hide (X4.out.below hb)
  replace K := hide (btrans K.out hb)
  have IN2 := hide hin
  clear hb hin x0 x1 x2 x3 y0 y1 y2 y3 C
  obtain ⟨q0, q1, q2, q3⟩ := box4 X4.out
  have f0 := X4.out.frozen 0
  have f1 := X4.out.frozen 1
  have f2 := X4.out.frozen 2
  have f3 := X4.out.frozen 3
  go_wp2
  exact ret_c3 Try.results14 rfl rfl rfl rfl (box4s X4.out) ⟨As', cs', Af', cf', rfl, IN2.out.far4 X4.out _ _ _ _, below4 K.out HG.out _ _ _ _⟩
set_option maxRecDepth 100000 in
set_option maxHeartbeats 8000000 in
theorem play_4 (M : Cow) (As Af : Option Addr) (cs cf : Nat) (k s p x : Int) (w : World) (h : CwIn w M As cs Af cf) (hB : Big M) (hk : k ≠ 0 ∧ k ≠ 1 ∧ k ≠ 2 ∧ k ≠ 3) : Calls Try.prog 14 #[.agg (cwA M As cs Af cf), .agg #[.int .i64 k, .int .i64 s, .int .i64 p, .int .i64 x]] w (Res3 w M (rdV M s p) (cpE M s p)) := by
  have hp := True.intro
  have C := hide (fun w (h : CwIn w M As cs Af cf) => read_any M As Af cs cf s p w h hB)
  obtain ⟨rv, hrv⟩ : ∃ rv, rv = rdV M s p := ⟨_, rfl⟩
  obtain ⟨er, her⟩ : ∃ er, er = cpE M s p := ⟨_, rfl⟩
  rw [← hrv, ← her] at C ⊢
  clear hrv her
  have d0 : (k == 0) = false := by simp; exact hk.1
  have d1 : (k == 1) = false := by simp; exact hk.2.1
  have d2 : (k == 2) = false := by simp; exact hk.2.2.1
  have d3 : (k == 3) = false := by simp; exact hk.2.2.2
  clear hk
  unfold cwA at C
  unfold Res3
  obtain ⟨W0, hW0⟩ : ∃ W0, W0 = ((w.alloc (.cells (cwA M As cs Af cf) 28)).alloc (.cells #[.int .i64 k, .int .i64 s, .int .i64 p, .int .i64 x] 33)).alloc (.cells #[.int .i64 0, .slice none 0 0, .slice none 0 0, .int .i64 0] 28) := ⟨_, rfl⟩
  have K := hide (show Below w.heap.size w W0 by rw [hW0]; exact bal (bal (bal (brefl w) _) _) _)
  have X2 := hide (show Box W0 w.heap.size 28 (cwA M As cs Af cf) by rw [hW0]; exact ((Box.new w 28 _).more _).more _)
  have X3 := hide (show Box W0 (w.heap.size + 1) 33 #[.int .i64 k, .int .i64 s, .int .i64 p, .int .i64 x] by rw [hW0]; exact (Box.new2 w _ 33 _).more _)
  have X4 := hide (show Box W0 (w.heap.size + 1 + 1) 28 #[.int .i64 0, .slice none 0 0, .slice none 0 0, .int .i64 0] by rw [hW0]; exact Box.new3 w _ _ 28 _)
  have IN := hide (h.below K.out)
  have PL := hide hp
  unfold cwA at X2 hW0 ⊢
  clear hp h
  go_enter Try.func14, Try.ntmps14
  go_upto_region 1 with fail
  rw [← hW0]
  clear hW0
  have HG := hide (show w.heap.size ≤ w.heap.size + 1 + 1 by omega)
  generalize hg4 : w.heap.size + 1 + 1 = g4 at *
  generalize hg3 : w.heap.size + 1 = g3 at *
  obtain ⟨g2, hg2⟩ : ∃ g, g = w.heap.size := ⟨_, rfl⟩
  rw [← hg2] at X2 ⊢
  clear hg2 hg3 hg4
  obtain ⟨x0, x1, x2, x3⟩ := box4 X2.out
  obtain ⟨y0, y1, y2, y3⟩ := box4 X3.out
  go_wp2_with fail
  refine (C.out _ IN.out).mono ?_
  rintro e w1 ⟨rfl, hb⟩
  replace X4 := hide (X4.out.below hb)
  replace X2 := hide (X2.out.below hb)
  replace K := hide (btrans K.out hb)
  replace IN := hide (IN.out.below hb)
  clear hb x0 x1 x2 x3 y0 y1 y2 y3 C
  obtain ⟨x0, x1, x2, x3⟩ := box4 X2.out
  obtain ⟨q0, q1, q2, q3⟩ := box4 X4.out
  have f0 := X4.out.frozen 0
  have f1 := X4.out.frozen 1
  have f2 := X4.out.frozen 2
  have f3 := X4.out.frozen 3
  go_wp2
  exact ret_c3 Try.results14 rfl rfl rfl rfl (box4s X4.out) ⟨As, cs, Af, cf, rfl, IN.out.far4 X4.out _ _ _ _, below4 K.out HG.out _ _ _ _⟩
theorem play_any (M : Cow) (As Af : Option Addr) (cs cf : Nat) (k s p x : Int) (w : World) (h : CwIn w M As cs Af cf) (hB : Big M) : Calls Try.prog 14 #[.agg (cwA M As cs Af cf), .agg #[.int .i64 k, .int .i64 s, .int .i64 p, .int .i64 x]] w (Res3 w (plG M k s p x).1 (plG M k s p x).2.1 (plG M k s p x).2.2) := by
  by_cases h0 : k = 0
  · subst h0; exact play_0 M As Af cs cf s p x w h hB
  · by_cases h1 : k = 1
    · subst h1; exact play_1 M As Af cs cf s p x w h hB
    · by_cases h2 : k = 2
      · subst h2; exact play_2 M As Af cs cf s p x w h hB
      · by_cases h3 : k = 3
        · subst h3; exact play_3 M As Af cs cf s p x w h hB
        · have e : plG M k s p x = (M, rdV M s p, cpE M s p) := by unfold plG; rw [if_neg h0, if_neg h1, if_neg h2, if_neg h3]
          rw [e]
          exact play_4 M As Af cs cf k s p x w h hB ⟨h0, h1, h2, h3⟩
end Go.Proofs.Ytoogdggiemacjaa.Cw
