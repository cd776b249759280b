import Derived.Deep.Cut
import Derived.Test.YtacehgcgkpolhaaInv
namespace Go.Proofs.Ytacehgcgkpolhaa.Pt
open Go Go.RowKit
set_option linter.unusedVariables false
def NotPage (W : Int) : Prop := good W = false ∨ uk W ≠ 1
set_option maxRecDepth 100000 in
set_option maxHeartbeats 1000000 in
theorem bits_bad (W : Int) (b : Bool) (w : World) (h0 : 0 ≤ W) (h1 : W < 18446744073709551616) (h : good W = false) : Calls Try.prog 10 #[.int .u64 W, .bool b] w (True1 w) := by
  have H := hide h
  clear h
  go_enter Try.func10, Try.ntmps10
  go_wp2_with fail
  refine (dec_bad W _ h0 h1 H.out).mono ?_
  rintro en w1 ⟨rfl, hb1⟩
  have K := hide hb1
  clear hb1
  go_wp2_with fail
  refine (awake _).mono ?_
  rintro en w2 ⟨rfl, hb1⟩
  replace K := hide (btrans (bal K.out _) hb1)
  clear hb1
  go_wp2_with fail
  go_ret
  exact ⟨rfl, K.out⟩
set_option maxRecDepth 100000 in
set_option maxHeartbeats 1000000 in
theorem bits_kind (W : Int) (b : Bool) (w : World) (h0 : 0 ≤ W) (h1 : W < 18446744073709551616) (h : good W = true) (hk : uk W ≠ 1) : Calls Try.prog 10 #[.int .u64 W, .bool b] w (True1 w) := by
  have H := hide h
  have hk1 : (uk W != 1) = true := by simpa using hk
  clear h hk
  go_enter Try.func10, Try.ntmps10
  go_wp2_with fail
  refine (dec_good W _ h0 h1 H.out).mono ?_
  rintro en w1 ⟨rfl, hb1⟩
  have K := hide hb1
  clear hb1
  go_wp2_with fail
  refine (awake _).mono ?_
  rintro en w2 ⟨rfl, hb1⟩
  replace K := hide (btrans (bal K.out _) hb1)
  clear hb1
  go_wp2_with fail
  go_ret
  exact ⟨rfl, K.out⟩
/-- decode, of a word with these fields -/
def Dec0 (v k n : Int) (wr ac di hu : Bool) : Prop := ∀ w, Calls Try.prog 15 #[.int .u64 v] w fun en w' => en = .returned (.tuple #[.agg #[.int .i64 k, .int .i64 n, .bool wr, .bool ac, .bool di, .bool hu], .int .i64 0]) ∧ Below w.heap.size w w'
theorem Ent.far {w : World} {g : Nat} {k n : Int} {wr ac di hu : Bool} (h : Ent w g k n wr ac di hu) {p : Addr} (hp : g ≠ p.block) (v : Value) : Ent (w.setCell p v) g k n wr ac di hu := (Below.heap_setCell w p v g hp).trans h
theorem Ent.far6 {w : World} {g b : Nat} {k n : Int} {wr ac di hu : Bool} {a0 a1 a2 a3 a4 a5 : Value} (h : Ent w g k n wr ac di hu) (hp : g ≠ b) :
    Ent ((((((w.setCell ⟨b, 0, none⟩ a0).setCell ⟨b, 1, none⟩ a1).setCell ⟨b, 2, none⟩ a2).setCell ⟨b, 3, none⟩ a3).setCell ⟨b, 4, none⟩ a4).setCell ⟨b, 5, none⟩ a5) g k n wr ac di hu :=
  (((((h.far hp _).far hp _).far hp _).far hp _).far hp _).far hp _
theorem Ent.set3 {w : World} {g : Nat} {k n : Int} {wr ac di hu b : Bool} (h : Ent w g k n wr ac di hu) : Ent (w.setCell ⟨g, 3, none⟩ (.bool b)) g k n wr b di hu := by
  unfold Ent at h ⊢
  simp [World.setCell, Array.getElem?_modify, h]
theorem Ent.set4 {w : World} {g : Nat} {k n : Int} {wr ac di hu b : Bool} (h : Ent w g k n wr ac di hu) : Ent (w.setCell ⟨g, 4, none⟩ (.bool b)) g k n wr ac b hu := by
  unfold Ent at h ⊢
  simp [World.setCell, Array.getElem?_modify, h]
theorem bset6 {a w : World} {g : Nat} {a0 a1 a2 a3 a4 a5 : Value} (h : Below a.heap.size a w) (hg : a.heap.size ≤ g) :
    Below a.heap.size a ((((((w.setCell ⟨g, 0, none⟩ a0).setCell ⟨g, 1, none⟩ a1).setCell ⟨g, 2, none⟩ a2).setCell ⟨g, 3, none⟩ a3).setCell ⟨g, 4, none⟩ a4).setCell ⟨g, 5, none⟩ a5) :=
  bset (bset (bset (bset (bset (bset h hg _) hg _) hg _) hg _) hg _) hg _
set_option maxRecDepth 100000 in
set_option maxHeartbeats 4000000 in
theorem bits_no (W n p o m : Int) (wr ac di hu b : Bool) (w : World) (hx : Dec0 W 1 n wr ac di hu) (hp : Two 21 #[.int .u64 W] p 0) (hpd : Dec0 p 1 n false ac di hu) (hpm : Two 17 #[.int .u64 p, .bool true] 0 12)
    (ho : Two 19 #[.int .u64 W] o 0) (hod : Dec0 o 1 n wr false di hu) (hm : Two 17 #[.int .u64 W, .bool b] 0 12) (hb : b = true) (hw : wr = false) :
    Calls Try.prog 10 #[.int .u64 W, .bool b] w (True1 w) := by
  subst hb hw
  have HX := hide hx
  have HP := hide hp
  have HPD := hide hpd
  have HPM := hide hpm
  have HO := hide ho
  have HOD := hide hod
  have HM := hide hm
  clear hx hp hpd hpm ho hod hm
  go_enter Try.func10, Try.ntmps10
  go_wp2_with fail
  refine (HX.out _).mono ?_
  rintro en w1 ⟨rfl, hb1⟩
  have K := hide hb1
  have L1 := hide hb1.size
  clear hb1
  go_wp2_with fail
  refine (HP.out _).mono ?_
  rintro en w2 ⟨rfl, hb2⟩
  have X := hide ((Ent.new w1 1 n false ac di hu).below hb2)
  replace K := hide (btrans (bal K.out _) hb2)
  clear hb2
  go_wp2_with fail
  refine (HPD.out _).mono ?_
  rintro en w3 ⟨rfl, hb3⟩
  replace X := hide (X.out.below hb3)
  have lx : w1.heap.size < w3.heap.size := X.out.lt
  replace K := hide (btrans K.out hb3)
  clear hb3
  go_wp2_with fail
  refine (HPM.out _).mono ?_
  rintro en w4 ⟨rfl, hb4⟩
  replace X := hide ((X.out.below (bal (brefl _) _)).below hb4)
  have Y := hide ((Ent.new w3 1 n false ac di hu).below hb4)
  have ly : w3.heap.size < w4.heap.size := Y.out.lt
  replace K := hide (btrans (bal K.out _) hb4)
  clear hb4
  obtain ⟨x0, x1, x2, x3, x4, x5⟩ := Ent.cells X.out
  obtain ⟨y0, y1, y2, y3, y4, y5⟩ := Ent.cells Y.out
  go_wp2_with fail
  refine (HO.out _).mono ?_
  rintro en w5 ⟨rfl, hb5⟩
  replace X := hide ((X.out.below (bal (brefl _) _)).below hb5)
  replace Y := hide ((Y.out.below (bal (brefl _) _)).below hb5)
  have Z := hide ((Ent.new w4 1 n false ac di hu).below hb5)
  replace K := hide (btrans (bal K.out _) hb5)
  clear hb5
  clear x0 x1 x2 x3 x4 x5 y0 y1 y2 y3 y4 y5
  go_wp2_with fail
  refine (HOD.out _).mono ?_
  rintro en w6 ⟨rfl, hb6⟩
  replace X := hide (X.out.below hb6)
  replace Y := hide (Y.out.below hb6)
  replace Z := hide (Z.out.below hb6)
  replace K := hide (btrans K.out hb6)
  clear hb6
  have ne1 := hide (show w1.heap.size ≠ w3.heap.size by omega)
  have ne2 := hide (show w1.heap.size ≠ w4.heap.size by omega)
  have ne3 := hide (show w3.heap.size ≠ w4.heap.size by omega)
  have lz : w1.heap.size < w4.heap.size := by omega
  have g3 := hide (show w.heap.size ≤ w3.heap.size by have := L1.out; omega)
  have g4 := hide (show w.heap.size ≤ w4.heap.size by have := L1.out; omega)
  obtain ⟨x0, x1, x2, x3, x4, x5⟩ := Ent.cells X.out
  obtain ⟨y0, y1, y2, y3, y4, y5⟩ := Ent.cells Y.out
  obtain ⟨z0, z1, z2, z3, z4, z5⟩ := Ent.cells Z.out
  obtain ⟨yq0, yq1, yq2, yq3, yq4, yq5⟩ := Ent.free Y.out
  obtain ⟨zq0, zq1, zq2, zq3, zq4, zq5⟩ := Ent.free Z.out
  go_upto_region 15 with (fail)
  obtain ⟨v6, hv6⟩ : ∃ v6, v6 = ((((((((((((w6.setCell ⟨w3.heap.size, 0, none⟩ (.int .i64 1)).setCell ⟨w3.heap.size, 1, none⟩ (.int .i64 n)).setCell ⟨w3.heap.size, 2, none⟩ (.bool false)).setCell ⟨w3.heap.size, 3, none⟩ (.bool false)).setCell ⟨w3.heap.size, 4, none⟩ (.bool di)).setCell ⟨w3.heap.size, 5, none⟩ (.bool hu)).setCell ⟨w4.heap.size, 0, none⟩ (.int .i64 1)).setCell ⟨w4.heap.size, 1, none⟩ (.int .i64 n)).setCell ⟨w4.heap.size, 2, none⟩ (.bool false)).setCell ⟨w4.heap.size, 3, none⟩ (.bool ac)).setCell ⟨w4.heap.size, 4, none⟩ (.bool di)).setCell ⟨w4.heap.size, 5, none⟩ (.bool hu)).setCell ⟨w4.heap.size, 3, none⟩ (.bool false) := ⟨_, rfl⟩
  rw [← hv6]
  replace X := hide (show Ent v6 w1.heap.size 1 n false ac di hu by rw [hv6]; exact ((X.out.far6 ne1.out).far6 ne2.out).far ne2.out _)
  replace Y := hide (show Ent v6 w3.heap.size 1 n false false di hu by rw [hv6]; exact ((Y.out.put).far6 ne3.out).far ne3.out _)
  replace Z := hide (show Ent v6 w4.heap.size 1 n false false di hu by rw [hv6]; exact ((Z.out.far6 (Ne.symm ne3.out)).put).set3)
  replace K := hide (show Below w.heap.size w v6 by rw [hv6]; exact bset (bset6 (bset6 K.out g3.out) g4.out) g4.out _)
  clear hv6
  clear x0 x1 x2 x3 x4 x5 y0 y1 y2 y3 y4 y5 z0 z1 z2 z3 z4 z5 yq0 yq1 yq2 yq3 yq4 yq5 zq0 zq1 zq2 zq3 zq4 zq5
  obtain ⟨x0, x1, x2, x3, x4, x5⟩ := Ent.cells X.out
  obtain ⟨y0, y1, y2, y3, y4, y5⟩ := Ent.cells Y.out
  obtain ⟨z0, z1, z2, z3, z4, z5⟩ := Ent.cells Z.out
  go_wp2_with fail
  refine (HM.out _).mono ?_
  rintro en w7 ⟨rfl, hb7⟩
  replace X := hide (X.out.below hb7)
  replace Y := hide (Y.out.below hb7)
  replace Z := hide (Z.out.below hb7)
  replace K := hide (btrans K.out hb7)
  clear hb7
  clear x0 x1 x2 x3 x4 x5 y0 y1 y2 y3 y4 y5 z0 z1 z2 z3 z4 z5
  obtain ⟨x0, x1, x2, x3, x4, x5⟩ := Ent.cells X.out
  go_wp2_with fail
  refine (awake _).mono ?_
  rintro en w8 ⟨rfl, hb8⟩
  replace K := hide (btrans K.out hb8)
  clear hb8
  clear x0 x1 x2 x3 x4 x5
  go_wp2_with fail
  go_ret
  exact ⟨rfl, K.out⟩
set_option maxRecDepth 100000 in
set_option maxHeartbeats 4000000 in
theorem bits_rd0 (W n p o m : Int) (wr ac di hu b : Bool) (w : World) (hx : Dec0 W 1 n wr ac di hu) (hp : Two 21 #[.int .u64 W] p 0) (hpd : Dec0 p 1 n false ac di hu) (hpm : Two 17 #[.int .u64 p, .bool true] 0 12)
    (ho : Two 19 #[.int .u64 W] o 0) (hod : Dec0 o 1 n wr false di hu) (hm : Two 17 #[.int .u64 W, .bool b] m 0) (hb : b = false) (hd : di = false) (hmd : Dec0 m 1 n wr true false hu) :
    Calls Try.prog 10 #[.int .u64 W, .bool b] w (True1 w) := by
  subst hb hd
  have HMD := hide hmd
  clear hmd
  have HX := hide hx
  have HP := hide hp
  have HPD := hide hpd
  have HPM := hide hpm
  have HO := hide ho
  have HOD := hide hod
  have HM := hide hm
  clear hx hp hpd hpm ho hod hm
  go_enter Try.func10, Try.ntmps10
  go_wp2_with fail
  refine (HX.out _).mono ?_
  rintro en w1 ⟨rfl, hb1⟩
  have K := hide hb1
  have L1 := hide hb1.size
  clear hb1
  go_wp2_with fail
  refine (HP.out _).mono ?_
  rintro en w2 ⟨rfl, hb2⟩
  have X := hide ((Ent.new w1 1 n wr ac false hu).below hb2)
  replace K := hide (btrans (bal K.out _) hb2)
  clear hb2
  go_wp2_with fail
  refine (HPD.out _).mono ?_
  rintro en w3 ⟨rfl, hb3⟩
  replace X := hide (X.out.below hb3)
  have lx : w1.heap.size < w3.heap.size := X.out.lt
  replace K := hide (btrans K.out hb3)
  clear hb3
  go_wp2_with fail
  refine (HPM.out _).mono ?_
  rintro en w4 ⟨rfl, hb4⟩
  replace X := hide ((X.out.below (bal (brefl _) _)).below hb4)
  have Y := hide ((Ent.new w3 1 n false ac false hu).below hb4)
  have ly : w3.heap.size < w4.heap.size := Y.out.lt
  replace K := hide (btrans (bal K.out _) hb4)
  clear hb4
  obtain ⟨x0, x1, x2, x3, x4, x5⟩ := Ent.cells X.out
  obtain ⟨y0, y1, y2, y3, y4, y5⟩ := Ent.cells Y.out
  go_wp2_with fail
  refine (HO.out _).mono ?_
  rintro en w5 ⟨rfl, hb5⟩
  replace X := hide ((X.out.below (bal (brefl _) _)).below hb5)
  replace Y := hide ((Y.out.below (bal (brefl _) _)).below hb5)
  have Z := hide ((Ent.new w4 1 n false ac false hu).below hb5)
  replace K := hide (btrans (bal K.out _) hb5)
  clear hb5
  clear x0 x1 x2 x3 x4 x5 y0 y1 y2 y3 y4 y5
  go_wp2_with fail
  refine (HOD.out _).mono ?_
  rintro en w6 ⟨rfl, hb6⟩
  replace X := hide (X.out.below hb6)
  replace Y := hide (Y.out.below hb6)
  replace Z := hide (Z.out.below hb6)
  replace K := hide (btrans K.out hb6)
  clear hb6
  have ne1 := hide (show w1.heap.size ≠ w3.heap.size by omega)
  have ne2 := hide (show w1.heap.size ≠ w4.heap.size by omega)
  have ne3 := hide (show w3.heap.size ≠ w4.heap.size by omega)
  have lz : w1.heap.size < w4.heap.size := by omega
  have g3 := hide (show w.heap.size ≤ w3.heap.size by have := L1.out; omega)
  have g4 := hide (show w.heap.size ≤ w4.heap.size by have := L1.out; omega)
  obtain ⟨x0, x1, x2, x3, x4, x5⟩ := Ent.cells X.out
  obtain ⟨y0, y1, y2, y3, y4, y5⟩ := Ent.cells Y.out
  obtain ⟨z0, z1, z2, z3, z4, z5⟩ := Ent.cells Z.out
  obtain ⟨yq0, yq1, yq2, yq3, yq4, yq5⟩ := Ent.free Y.out
  obtain ⟨zq0, zq1, zq2, zq3, zq4, zq5⟩ := Ent.free Z.out
  go_upto_region 15 with (fail)
  obtain ⟨v6, hv6⟩ : ∃ v6, v6 = ((((((((((((w6.setCell ⟨w3.heap.size, 0, none⟩ (.int .i64 1)).setCell ⟨w3.heap.size, 1, none⟩ (.int .i64 n)).setCell ⟨w3.heap.size, 2, none⟩ (.bool wr)).setCell ⟨w3.heap.size, 3, none⟩ (.bool false)).setCell ⟨w3.heap.size, 4, none⟩ (.bool false)).setCell ⟨w3.heap.size, 5, none⟩ (.bool hu)).setCell ⟨w4.heap.size, 0, none⟩ (.int .i64 1)).setCell ⟨w4.heap.size, 1, none⟩ (.int .i64 n)).setCell ⟨w4.heap.size, 2, none⟩ (.bool wr)).setCell ⟨w4.heap.size, 3, none⟩ (.bool ac)).setCell ⟨w4.heap.size, 4, none⟩ (.bool false)).setCell ⟨w4.heap.size, 5, none⟩ (.bool hu)).setCell ⟨w4.heap.size, 3, none⟩ (.bool false) := ⟨_, rfl⟩
  rw [← hv6]
  replace X := hide (show Ent v6 w1.heap.size 1 n wr ac false hu by rw [hv6]; exact ((X.out.far6 ne1.out).far6 ne2.out).far ne2.out _)
  replace Y := hide (show Ent v6 w3.heap.size 1 n wr false false hu by rw [hv6]; exact ((Y.out.put).far6 ne3.out).far ne3.out _)
  replace Z := hide (show Ent v6 w4.heap.size 1 n wr false false hu by rw [hv6]; exact ((Z.out.far6 (Ne.symm ne3.out)).put).set3)
  replace K := hide (show Below w.heap.size w v6 by rw [hv6]; exact bset (bset6 (bset6 K.out g3.out) g4.out) g4.out _)
  clear hv6
  clear x0 x1 x2 x3 x4 x5 y0 y1 y2 y3 y4 y5 z0 z1 z2 z3 z4 z5 yq0 yq1 yq2 yq3 yq4 yq5 zq0 zq1 zq2 zq3 zq4 zq5
  obtain ⟨x0, x1, x2, x3, x4, x5⟩ := Ent.cells X.out
  obtain ⟨y0, y1, y2, y3, y4, y5⟩ := Ent.cells Y.out
  obtain ⟨z0, z1, z2, z3, z4, z5⟩ := Ent.cells Z.out
  go_wp2_with fail
  refine (HM.out _).mono ?_
  rintro en w7 ⟨rfl, hb7⟩
  replace X := hide (X.out.below hb7)
  replace Y := hide (Y.out.below hb7)
  replace Z := hide (Z.out.below hb7)
  replace K := hide (btrans K.out hb7)
  clear hb7
  clear x0 x1 x2 x3 x4 x5 y0 y1 y2 y3 y4 y5 z0 z1 z2 z3 z4 z5
  obtain ⟨x0, x1, x2, x3, x4, x5⟩ := Ent.cells X.out
  go_wp2_with fail
  refine (HMD.out _).mono ?_
  rintro en w8 ⟨rfl, hb8⟩
  replace X := hide (X.out.below hb8)
  replace Y := hide (Y.out.below hb8)
  replace Z := hide (Z.out.below hb8)
  replace K := hide (btrans K.out hb8)
  clear hb8
  clear x0 x1 x2 x3 x4 x5
  obtain ⟨x0, x1, x2, x3, x4, x5⟩ := Ent.cells X.out
  obtain ⟨y0, y1, y2, y3, y4, y5⟩ := Ent.cells Y.out
  obtain ⟨z0, z1, z2, z3, z4, z5⟩ := Ent.cells Z.out
  obtain ⟨yq0, yq1, yq2, yq3, yq4, yq5⟩ := Ent.free Y.out
  obtain ⟨zq0, zq1, zq2, zq3, zq4, zq5⟩ := Ent.free Z.out
  go_upto_region 24 with (fail)
  obtain ⟨v8, hv8⟩ : ∃ v8, v8 = (((((((((((((w8.setCell ⟨w3.heap.size, 0, none⟩ (.int .i64 1)).setCell ⟨w3.heap.size, 1, none⟩ (.int .i64 n)).setCell ⟨w3.heap.size, 2, none⟩ (.bool wr)).setCell ⟨w3.heap.size, 3, none⟩ (.bool true)).setCell ⟨w3.heap.size, 4, none⟩ (.bool false)).setCell ⟨w3.heap.size, 5, none⟩ (.bool hu)).setCell ⟨w4.heap.size, 0, none⟩ (.int .i64 1)).setCell ⟨w4.heap.size, 1, none⟩ (.int .i64 n)).setCell ⟨w4.heap.size, 2, none⟩ (.bool wr)).setCell ⟨w4.heap.size, 3, none⟩ (.bool ac)).setCell ⟨w4.heap.size, 4, none⟩ (.bool false)).setCell ⟨w4.heap.size, 5, none⟩ (.bool hu)).setCell ⟨w4.heap.size, 3, none⟩ (.bool true)).setCell ⟨w4.heap.size, 4, none⟩ (.bool false) := ⟨_, rfl⟩
  rw [← hv8]
  replace Y := hide (show Ent v8 w3.heap.size 1 n wr true false hu by rw [hv8]; exact (((Y.out.put).far6 ne3.out).far ne3.out _).far ne3.out _)
  replace Z := hide (show Ent v8 w4.heap.size 1 n wr true false hu by rw [hv8]; exact (((Z.out.far6 (Ne.symm ne3.out)).put).set3).set4)
  replace K := hide (show Below w.heap.size w v8 by rw [hv8]; exact bset (bset (bset6 (bset6 K.out g3.out) g4.out) g4.out _) g4.out _)
  clear hv8 X
  clear x0 x1 x2 x3 x4 x5 y0 y1 y2 y3 y4 y5 z0 z1 z2 z3 z4 z5 yq0 yq1 yq2 yq3 yq4 yq5 zq0 zq1 zq2 zq3 zq4 zq5
  obtain ⟨y0, y1, y2, y3, y4, y5⟩ := Ent.cells Y.out
  obtain ⟨z0, z1, z2, z3, z4, z5⟩ := Ent.cells Z.out
  go_wp2_with fail
  refine (awake _).mono ?_
  rintro en w9 ⟨rfl, hb9⟩
  replace K := hide (btrans K.out hb9)
  clear hb9
  clear y0 y1 y2 y3 y4 y5 z0 z1 z2 z3 z4 z5
  go_wp2_with fail
  go_ret
  exact ⟨rfl, K.out⟩
set_option maxRecDepth 100000 in
set_option maxHeartbeats 4000000 in
theorem bits_rd1 (W n p o m : Int) (wr ac di hu b : Bool) (w : World) (hx : Dec0 W 1 n wr ac di hu) (hp : Two 21 #[.int .u64 W] p 0) (hpd : Dec0 p 1 n false ac di hu) (hpm : Two 17 #[.int .u64 p, .bool true] 0 12)
    (ho : Two 19 #[.int .u64 W] o 0) (hod : Dec0 o 1 n wr false di hu) (hm : Two 17 #[.int .u64 W, .bool b] m 0) (hb : b = false) (hd : di = true) (hmd : Dec0 m 1 n wr true true hu) :
    Calls Try.prog 10 #[.int .u64 W, .bool b] w (True1 w) := by
  subst hb hd
  have HMD := hide hmd
  clear hmd
  have HX := hide hx
  have HP := hide hp
  have HPD := hide hpd
  have HPM := hide hpm
  have HO := hide ho
  have HOD := hide hod
  have HM := hide hm
  clear hx hp hpd hpm ho hod hm
  go_enter Try.func10, Try.ntmps10
  go_wp2_with fail
  refine (HX.out _).mono ?_
  rintro en w1 ⟨rfl, hb1⟩
  have K := hide hb1
  have L1 := hide hb1.size
  clear hb1
  go_wp2_with fail
  refine (HP.out _).mono ?_
  rintro en w2 ⟨rfl, hb2⟩
  have X := hide ((Ent.new w1 1 n wr ac true hu).below hb2)
  replace K := hide (btrans (bal K.out _) hb2)
  clear hb2
  go_wp2_with fail
  refine (HPD.out _).mono ?_
  rintro en w3 ⟨rfl, hb3⟩
  replace X := hide (X.out.below hb3)
  have lx : w1.heap.size < w3.heap.size := X.out.lt
  replace K := hide (btrans K.out hb3)
  clear hb3
  go_wp2_with fail
  refine (HPM.out _).mono ?_
  rintro en w4 ⟨rfl, hb4⟩
  replace X := hide ((X.out.below (bal (brefl _) _)).below hb4)
  have Y := hide ((Ent.new w3 1 n false ac true hu).below hb4)
  have ly : w3.heap.size < w4.heap.size := Y.out.lt
  replace K := hide (btrans (bal K.out _) hb4)
  clear hb4
  obtain ⟨x0, x1, x2, x3, x4, x5⟩ := Ent.cells X.out
  obtain ⟨y0, y1, y2, y3, y4, y5⟩ := Ent.cells Y.out
  go_wp2_with fail
  refine (HO.out _).mono ?_
  rintro en w5 ⟨rfl, hb5⟩
  replace X := hide ((X.out.below (bal (brefl _) _)).below hb5)
  replace Y := hide ((Y.out.below (bal (brefl _) _)).below hb5)
  have Z := hide ((Ent.new w4 1 n false ac true hu).below hb5)
  replace K := hide (btrans (bal K.out _) hb5)
  clear hb5
  clear x0 x1 x2 x3 x4 x5 y0 y1 y2 y3 y4 y5
  go_wp2_with fail
  refine (HOD.out _).mono ?_
  rintro en w6 ⟨rfl, hb6⟩
  replace X := hide (X.out.below hb6)
  replace Y := hide (Y.out.below hb6)
  replace Z := hide (Z.out.below hb6)
  replace K := hide (btrans K.out hb6)
  clear hb6
  have ne1 := hide (show w1.heap.size ≠ w3.heap.size by omega)
  have ne2 := hide (show w1.heap.size ≠ w4.heap.size by omega)
  have ne3 := hide (show w3.heap.size ≠ w4.heap.size by omega)
  have lz : w1.heap.size < w4.heap.size := by omega
  have g3 := hide (show w.heap.size ≤ w3.heap.size by have := L1.out; omega)
  have g4 := hide (show w.heap.size ≤ w4.heap.size by have := L1.out; omega)
  obtain ⟨x0, x1, x2, x3, x4, x5⟩ := Ent.cells X.out
  obtain ⟨y0, y1, y2, y3, y4, y5⟩ := Ent.cells Y.out
  obtain ⟨z0, z1, z2, z3, z4, z5⟩ := Ent.cells Z.out
  obtain ⟨yq0, yq1, yq2, yq3, yq4, yq5⟩ := Ent.free Y.out
  obtain ⟨zq0, zq1, zq2, zq3, zq4, zq5⟩ := Ent.free Z.out
  go_upto_region 15 with (fail)
  obtain ⟨v6, hv6⟩ : ∃ v6, v6 = ((((((((((((w6.setCell ⟨w3.heap.size, 0, none⟩ (.int .i64 1)).setCell ⟨w3.heap.size, 1, none⟩ (.int .i64 n)).setCell ⟨w3.heap.size, 2, none⟩ (.bool wr)).setCell ⟨w3.heap.size, 3, none⟩ (.bool false)).setCell ⟨w3.heap.size, 4, none⟩ (.bool true)).setCell ⟨w3.heap.size, 5, none⟩ (.bool hu)).setCell ⟨w4.heap.size, 0, none⟩ (.int .i64 1)).setCell ⟨w4.heap.size, 1, none⟩ (.int .i64 n)).setCell ⟨w4.heap.size, 2, none⟩ (.bool wr)).setCell ⟨w4.heap.size, 3, none⟩ (.bool ac)).setCell ⟨w4.heap.size, 4, none⟩ (.bool true)).setCell ⟨w4.heap.size, 5, none⟩ (.bool hu)).setCell ⟨w4.heap.size, 3, none⟩ (.bool false) := ⟨_, rfl⟩
  rw [← hv6]
  replace X := hide (show Ent v6 w1.heap.size 1 n wr ac true hu by rw [hv6]; exact ((X.out.far6 ne1.out).far6 ne2.out).far ne2.out _)
  replace Y := hide (show Ent v6 w3.heap.size 1 n wr false true hu by rw [hv6]; exact ((Y.out.put).far6 ne3.out).far ne3.out _)
  replace Z := hide (show Ent v6 w4.heap.size 1 n wr false true hu by rw [hv6]; exact ((Z.out.far6 (Ne.symm ne3.out)).put).set3)
  replace K := hide (show Below w.heap.size w v6 by rw [hv6]; exact bset (bset6 (bset6 K.out g3.out) g4.out) g4.out _)
  clear hv6
  clear x0 x1 x2 x3 x4 x5 y0 y1 y2 y3 y4 y5 z0 z1 z2 z3 z4 z5 yq0 yq1 yq2 yq3 yq4 yq5 zq0 zq1 zq2 zq3 zq4 zq5
  obtain ⟨x0, x1, x2, x3, x4, x5⟩ := Ent.cells X.out
  obtain ⟨y0, y1, y2, y3, y4, y5⟩ := Ent.cells Y.out
  obtain ⟨z0, z1, z2, z3, z4, z5⟩ := Ent.cells Z.out
  go_wp2_with fail
  refine (HM.out _).mono ?_
  rintro en w7 ⟨rfl, hb7⟩
  replace X := hide (X.out.below hb7)
  replace Y := hide (Y.out.below hb7)
  replace Z := hide (Z.out.below hb7)
  replace K := hide (btrans K.out hb7)
  clear hb7
  clear x0 x1 x2 x3 x4 x5 y0 y1 y2 y3 y4 y5 z0 z1 z2 z3 z4 z5
  obtain ⟨x0, x1, x2, x3, x4, x5⟩ := Ent.cells X.out
  go_wp2_with fail
  refine (HMD.out _).mono ?_
  rintro en w8 ⟨rfl, hb8⟩
  replace X := hide (X.out.below hb8)
  replace Y := hide (Y.out.below hb8)
  replace Z := hide (Z.out.below hb8)
  replace K := hide (btrans K.out hb8)
  clear hb8
  clear x0 x1 x2 x3 x4 x5
  obtain ⟨x0, x1, x2, x3, x4, x5⟩ := Ent.cells X.out
  obtain ⟨y0, y1, y2, y3, y4, y5⟩ := Ent.cells Y.out
  obtain ⟨z0, z1, z2, z3, z4, z5⟩ := Ent.cells Z.out
  obtain ⟨yq0, yq1, yq2, yq3, yq4, yq5⟩ := Ent.free Y.out
  obtain ⟨zq0, zq1, zq2, zq3, zq4, zq5⟩ := Ent.free Z.out
  go_upto_region 24 with (fail)
  obtain ⟨v8, hv8⟩ : ∃ v8, v8 = (((((((((((((w8.setCell ⟨w3.heap.size, 0, none⟩ (.int .i64 1)).setCell ⟨w3.heap.size, 1, none⟩ (.int .i64 n)).setCell ⟨w3.heap.size, 2, none⟩ (.bool wr)).setCell ⟨w3.heap.size, 3, none⟩ (.bool true)).setCell ⟨w3.heap.size, 4, none⟩ (.bool true)).setCell ⟨w3.heap.size, 5, none⟩ (.bool hu)).setCell ⟨w4.heap.size, 0, none⟩ (.int .i64 1)).setCell ⟨w4.heap.size, 1, none⟩ (.int .i64 n)).setCell ⟨w4.heap.size, 2, none⟩ (.bool wr)).setCell ⟨w4.heap.size, 3, none⟩ (.bool ac)).setCell ⟨w4.heap.size, 4, none⟩ (.bool true)).setCell ⟨w4.heap.size, 5, none⟩ (.bool hu)).setCell ⟨w4.heap.size, 3, none⟩ (.bool true)).setCell ⟨w4.heap.size, 4, none⟩ (.bool true) := ⟨_, rfl⟩
  rw [← hv8]
  replace Y := hide (show Ent v8 w3.heap.size 1 n wr true true hu by rw [hv8]; exact (((Y.out.put).far6 ne3.out).far ne3.out _).far ne3.out _)
  replace Z := hide (show Ent v8 w4.heap.size 1 n wr true true hu by rw [hv8]; exact (((Z.out.far6 (Ne.symm ne3.out)).put).set3).set4)
  replace K := hide (show Below w.heap.size w v8 by rw [hv8]; exact bset (bset (bset6 (bset6 K.out g3.out) g4.out) g4.out _) g4.out _)
  clear hv8 X
  clear x0 x1 x2 x3 x4 x5 y0 y1 y2 y3 y4 y5 z0 z1 z2 z3 z4 z5 yq0 yq1 yq2 yq3 yq4 yq5 zq0 zq1 zq2 zq3 zq4 zq5
  obtain ⟨y0, y1, y2, y3, y4, y5⟩ := Ent.cells Y.out
  obtain ⟨z0, z1, z2, z3, z4, z5⟩ := Ent.cells Z.out
  go_wp2_with fail
  refine (awake _).mono ?_
  rintro en w9 ⟨rfl, hb9⟩
  replace K := hide (btrans K.out hb9)
  clear hb9
  clear y0 y1 y2 y3 y4 y5 z0 z1 z2 z3 z4 z5
  go_wp2_with fail
  go_ret
  exact ⟨rfl, K.out⟩
set_option maxRecDepth 100000 in
set_option maxHeartbeats 4000000 in
theorem bits_wr0 (W n p o m : Int) (wr ac di hu b : Bool) (w : World) (hx : Dec0 W 1 n wr ac di hu) (hp : Two 21 #[.int .u64 W] p 0) (hpd : Dec0 p 1 n false ac di hu) (hpm : Two 17 #[.int .u64 p, .bool true] 0 12)
    (ho : Two 19 #[.int .u64 W] o 0) (hod : Dec0 o 1 n wr false di hu) (hm : Two 17 #[.int .u64 W, .bool b] m 0) (hb : b = true) (hw : wr = true) (hd : di = false) (hmd : Dec0 m 1 n wr true true hu) :
    Calls Try.prog 10 #[.int .u64 W, .bool b] w (True1 w) := by
  subst hb hw hd
  have HMD := hide hmd
  clear hmd
  have HX := hide hx
  have HP := hide hp
  have HPD := hide hpd
  have HPM := hide hpm
  have HO := hide ho
  have HOD := hide hod
  have HM := hide hm
  clear hx hp hpd hpm ho hod hm
  go_enter Try.func10, Try.ntmps10
  go_wp2_with fail
  refine (HX.out _).mono ?_
  rintro en w1 ⟨rfl, hb1⟩
  have K := hide hb1
  have L1 := hide hb1.size
  clear hb1
  go_wp2_with fail
  refine (HP.out _).mono ?_
  rintro en w2 ⟨rfl, hb2⟩
  have X := hide ((Ent.new w1 1 n true ac false hu).below hb2)
  replace K := hide (btrans (bal K.out _) hb2)
  clear hb2
  go_wp2_with fail
  refine (HPD.out _).mono ?_
  rintro en w3 ⟨rfl, hb3⟩
  replace X := hide (X.out.below hb3)
  have lx : w1.heap.size < w3.heap.size := X.out.lt
  replace K := hide (btrans K.out hb3)
  clear hb3
  go_wp2_with fail
  refine (HPM.out _).mono ?_
  rintro en w4 ⟨rfl, hb4⟩
  replace X := hide ((X.out.below (bal (brefl _) _)).below hb4)
  have Y := hide ((Ent.new w3 1 n false ac false hu).below hb4)
  have ly : w3.heap.size < w4.heap.size := Y.out.lt
  replace K := hide (btrans (bal K.out _) hb4)
  clear hb4
  obtain ⟨x0, x1, x2, x3, x4, x5⟩ := Ent.cells X.out
  obtain ⟨y0, y1, y2, y3, y4, y5⟩ := Ent.cells Y.out
  go_wp2_with fail
  refine (HO.out _).mono ?_
  rintro en w5 ⟨rfl, hb5⟩
  replace X := hide ((X.out.below (bal (brefl _) _)).below hb5)
  replace Y := hide ((Y.out.below (bal (brefl _) _)).below hb5)
  have Z := hide ((Ent.new w4 1 n false ac false hu).below hb5)
  replace K := hide (btrans (bal K.out _) hb5)
  clear hb5
  clear x0 x1 x2 x3 x4 x5 y0 y1 y2 y3 y4 y5
  go_wp2_with fail
  refine (HOD.out _).mono ?_
  rintro en w6 ⟨rfl, hb6⟩
  replace X := hide (X.out.below hb6)
  replace Y := hide (Y.out.below hb6)
  replace Z := hide (Z.out.below hb6)
  replace K := hide (btrans K.out hb6)
  clear hb6
  have ne1 := hide (show w1.heap.size ≠ w3.heap.size by omega)
  have ne2 := hide (show w1.heap.size ≠ w4.heap.size by omega)
  have ne3 := hide (show w3.heap.size ≠ w4.heap.size by omega)
  have lz : w1.heap.size < w4.heap.size := by omega
  have g3 := hide (show w.heap.size ≤ w3.heap.size by have := L1.out; omega)
  have g4 := hide (show w.heap.size ≤ w4.heap.size by have := L1.out; omega)
  obtain ⟨x0, x1, x2, x3, x4, x5⟩ := Ent.cells X.out
  obtain ⟨y0, y1, y2, y3, y4, y5⟩ := Ent.cells Y.out
  obtain ⟨z0, z1, z2, z3, z4, z5⟩ := Ent.cells Z.out
  obtain ⟨yq0, yq1, yq2, yq3, yq4, yq5⟩ := Ent.free Y.out
  obtain ⟨zq0, zq1, zq2, zq3, zq4, zq5⟩ := Ent.free Z.out
  go_upto_region 15 with (fail)
  obtain ⟨v6, hv6⟩ : ∃ v6, v6 = ((((((((((((w6.setCell ⟨w3.heap.size, 0, none⟩ (.int .i64 1)).setCell ⟨w3.heap.size, 1, none⟩ (.int .i64 n)).setCell ⟨w3.heap.size, 2, none⟩ (.bool true)).setCell ⟨w3.heap.size, 3, none⟩ (.bool false)).setCell ⟨w3.heap.size, 4, none⟩ (.bool false)).setCell ⟨w3.heap.size, 5, none⟩ (.bool hu)).setCell ⟨w4.heap.size, 0, none⟩ (.int .i64 1)).setCell ⟨w4.heap.size, 1, none⟩ (.int .i64 n)).setCell ⟨w4.heap.size, 2, none⟩ (.bool true)).setCell ⟨w4.heap.size, 3, none⟩ (.bool ac)).setCell ⟨w4.heap.size, 4, none⟩ (.bool false)).setCell ⟨w4.heap.size, 5, none⟩ (.bool hu)).setCell ⟨w4.heap.size, 3, none⟩ (.bool false) := ⟨_, rfl⟩
  rw [← hv6]
  replace X := hide (show Ent v6 w1.heap.size 1 n true ac false hu by rw [hv6]; exact ((X.out.far6 ne1.out).far6 ne2.out).far ne2.out _)
  replace Y := hide (show Ent v6 w3.heap.size 1 n true false false hu by rw [hv6]; exact ((Y.out.put).far6 ne3.out).far ne3.out _)
  replace Z := hide (show Ent v6 w4.heap.size 1 n true false false hu by rw [hv6]; exact ((Z.out.far6 (Ne.symm ne3.out)).put).set3)
  replace K := hide (show Below w.heap.size w v6 by rw [hv6]; exact bset (bset6 (bset6 K.out g3.out) g4.out) g4.out _)
  clear hv6
  clear x0 x1 x2 x3 x4 x5 y0 y1 y2 y3 y4 y5 z0 z1 z2 z3 z4 z5 yq0 yq1 yq2 yq3 yq4 yq5 zq0 zq1 zq2 zq3 zq4 zq5
  obtain ⟨x0, x1, x2, x3, x4, x5⟩ := Ent.cells X.out
  obtain ⟨y0, y1, y2, y3, y4, y5⟩ := Ent.cells Y.out
  obtain ⟨z0, z1, z2, z3, z4, z5⟩ := Ent.cells Z.out
  go_wp2_with fail
  refine (HM.out _).mono ?_
  rintro en w7 ⟨rfl, hb7⟩
  replace X := hide (X.out.below hb7)
  replace Y := hide (Y.out.below hb7)
  replace Z := hide (Z.out.below hb7)
  replace K := hide (btrans K.out hb7)
  clear hb7
  clear x0 x1 x2 x3 x4 x5 y0 y1 y2 y3 y4 y5 z0 z1 z2 z3 z4 z5
  obtain ⟨x0, x1, x2, x3, x4, x5⟩ := Ent.cells X.out
  go_wp2_with fail
  refine (HMD.out _).mono ?_
  rintro en w8 ⟨rfl, hb8⟩
  replace X := hide (X.out.below hb8)
  replace Y := hide (Y.out.below hb8)
  replace Z := hide (Z.out.below hb8)
  replace K := hide (btrans K.out hb8)
  clear hb8
  clear x0 x1 x2 x3 x4 x5
  obtain ⟨x0, x1, x2, x3, x4, x5⟩ := Ent.cells X.out
  obtain ⟨y0, y1, y2, y3, y4, y5⟩ := Ent.cells Y.out
  obtain ⟨z0, z1, z2, z3, z4, z5⟩ := Ent.cells Z.out
  obtain ⟨yq0, yq1, yq2, yq3, yq4, yq5⟩ := Ent.free Y.out
  obtain ⟨zq0, zq1, zq2, zq3, zq4, zq5⟩ := Ent.free Z.out
  go_upto_region 24 with (fail)
  obtain ⟨v8, hv8⟩ : ∃ v8, v8 = (((((((((((((w8.setCell ⟨w3.heap.size, 0, none⟩ (.int .i64 1)).setCell ⟨w3.heap.size, 1, none⟩ (.int .i64 n)).setCell ⟨w3.heap.size, 2, none⟩ (.bool true)).setCell ⟨w3.heap.size, 3, none⟩ (.bool true)).setCell ⟨w3.heap.size, 4, none⟩ (.bool true)).setCell ⟨w3.heap.size, 5, none⟩ (.bool hu)).setCell ⟨w4.heap.size, 0, none⟩ (.int .i64 1)).setCell ⟨w4.heap.size, 1, none⟩ (.int .i64 n)).setCell ⟨w4.heap.size, 2, none⟩ (.bool true)).setCell ⟨w4.heap.size, 3, none⟩ (.bool ac)).setCell ⟨w4.heap.size, 4, none⟩ (.bool false)).setCell ⟨w4.heap.size, 5, none⟩ (.bool hu)).setCell ⟨w4.heap.size, 3, none⟩ (.bool true)).setCell ⟨w4.heap.size, 4, none⟩ (.bool true) := ⟨_, rfl⟩
  rw [← hv8]
  replace Y := hide (show Ent v8 w3.heap.size 1 n true true true hu by rw [hv8]; exact (((Y.out.put).far6 ne3.out).far ne3.out _).far ne3.out _)
  replace Z := hide (show Ent v8 w4.heap.size 1 n true true true hu by rw [hv8]; exact (((Z.out.far6 (Ne.symm ne3.out)).put).set3).set4)
  replace K := hide (show Below w.heap.size w v8 by rw [hv8]; exact bset (bset (bset6 (bset6 K.out g3.out) g4.out) g4.out _) g4.out _)
  clear hv8 X
  clear x0 x1 x2 x3 x4 x5 y0 y1 y2 y3 y4 y5 z0 z1 z2 z3 z4 z5 yq0 yq1 yq2 yq3 yq4 yq5 zq0 zq1 zq2 zq3 zq4 zq5
  obtain ⟨y0, y1, y2, y3, y4, y5⟩ := Ent.cells Y.out
  obtain ⟨z0, z1, z2, z3, z4, z5⟩ := Ent.cells Z.out
  go_wp2_with fail
  refine (awake _).mono ?_
  rintro en w9 ⟨rfl, hb9⟩
  replace K := hide (btrans K.out hb9)
  clear hb9
  clear y0 y1 y2 y3 y4 y5 z0 z1 z2 z3 z4 z5
  go_wp2_with fail
  go_ret
  exact ⟨rfl, K.out⟩
set_option maxRecDepth 100000 in
set_option maxHeartbeats 4000000 in
theorem bits_wr1 (W n p o m : Int) (wr ac di hu b : Bool) (w : World) (hx : Dec0 W 1 n wr ac di hu) (hp : Two 21 #[.int .u64 W] p 0) (hpd : Dec0 p 1 n false ac di hu) (hpm : Two 17 #[.int .u64 p, .bool true] 0 12)
    (ho : Two 19 #[.int .u64 W] o 0) (hod : Dec0 o 1 n wr false di hu) (hm : Two 17 #[.int .u64 W, .bool b] m 0) (hb : b = true) (hw : wr = true) (hd : di = true) (hmd : Dec0 m 1 n wr true true hu) :
    Calls Try.prog 10 #[.int .u64 W, .bool b] w (True1 w) := by
  subst hb hw hd
  have HMD := hide hmd
  clear hmd
  have HX := hide hx
  have HP := hide hp
  have HPD := hide hpd
  have HPM := hide hpm
  have HO := hide ho
  have HOD := hide hod
  have HM := hide hm
  clear hx hp hpd hpm ho hod hm
  go_enter Try.func10, Try.ntmps10
  go_wp2_with fail
  refine (HX.out _).mono ?_
  rintro en w1 ⟨rfl, hb1⟩
  have K := hide hb1
  have L1 := hide hb1.size
  clear hb1
  go_wp2_with fail
  refine (HP.out _).mono ?_
  rintro en w2 ⟨rfl, hb2⟩
  have X := hide ((Ent.new w1 1 n true ac true hu).below hb2)
  replace K := hide (btrans (bal K.out _) hb2)
  clear hb2
  go_wp2_with fail
  refine (HPD.out _).mono ?_
  rintro en w3 ⟨rfl, hb3⟩
  replace X := hide (X.out.below hb3)
  have lx : w1.heap.size < w3.heap.size := X.out.lt
  replace K := hide (btrans K.out hb3)
  clear hb3
  go_wp2_with fail
  refine (HPM.out _).mono ?_
  rintro en w4 ⟨rfl, hb4⟩
  replace X := hide ((X.out.below (bal (brefl _) _)).below hb4)
  have Y := hide ((Ent.new w3 1 n false ac true hu).below hb4)
  have ly : w3.heap.size < w4.heap.size := Y.out.lt
  replace K := hide (btrans (bal K.out _) hb4)
  clear hb4
  obtain ⟨x0, x1, x2, x3, x4, x5⟩ := Ent.cells X.out
  obtain ⟨y0, y1, y2, y3, y4, y5⟩ := Ent.cells Y.out
  go_wp2_with fail
  refine (HO.out _).mono ?_
  rintro en w5 ⟨rfl, hb5⟩
  replace X := hide ((X.out.below (bal (brefl _) _)).below hb5)
  replace Y := hide ((Y.out.below (bal (brefl _) _)).below hb5)
  have Z := hide ((Ent.new w4 1 n false ac true hu).below hb5)
  replace K := hide (btrans (bal K.out _) hb5)
  clear hb5
  clear x0 x1 x2 x3 x4 x5 y0 y1 y2 y3 y4 y5
  go_wp2_with fail
  refine (HOD.out _).mono ?_
  rintro en w6 ⟨rfl, hb6⟩
  replace X := hide (X.out.below hb6)
  replace Y := hide (Y.out.below hb6)
  replace Z := hide (Z.out.below hb6)
  replace K := hide (btrans K.out hb6)
  clear hb6
  have ne1 := hide (show w1.heap.size ≠ w3.heap.size by omega)
  have ne2 := hide (show w1.heap.size ≠ w4.heap.size by omega)
  have ne3 := hide (show w3.heap.size ≠ w4.heap.size by omega)
  have lz : w1.heap.size < w4.heap.size := by omega
  have g3 := hide (show w.heap.size ≤ w3.heap.size by have := L1.out; omega)
  have g4 := hide (show w.heap.size ≤ w4.heap.size by have := L1.out; omega)
  obtain ⟨x0, x1, x2, x3, x4, x5⟩ := Ent.cells X.out
  obtain ⟨y0, y1, y2, y3, y4, y5⟩ := Ent.cells Y.out
  obtain ⟨z0, z1, z2, z3, z4, z5⟩ := Ent.cells Z.out
  obtain ⟨yq0, yq1, yq2, yq3, yq4, yq5⟩ := Ent.free Y.out
  obtain ⟨zq0, zq1, zq2, zq3, zq4, zq5⟩ := Ent.free Z.out
  go_upto_region 15 with (fail)
  obtain ⟨v6, hv6⟩ : ∃ v6, v6 = ((((((((((((w6.setCell ⟨w3.heap.size, 0, none⟩ (.int .i64 1)).setCell ⟨w3.heap.size, 1, none⟩ (.int .i64 n)).setCell ⟨w3.heap.size, 2, none⟩ (.bool true)).setCell ⟨w3.heap.size, 3, none⟩ (.bool false)).setCell ⟨w3.heap.size, 4, none⟩ (.bool true)).setCell ⟨w3.heap.size, 5, none⟩ (.bool hu)).setCell ⟨w4.heap.size, 0, none⟩ (.int .i64 1)).setCell ⟨w4.heap.size, 1, none⟩ (.int .i64 n)).setCell ⟨w4.heap.size, 2, none⟩ (.bool true)).setCell ⟨w4.heap.size, 3, none⟩ (.bool ac)).setCell ⟨w4.heap.size, 4, none⟩ (.bool true)).setCell ⟨w4.heap.size, 5, none⟩ (.bool hu)).setCell ⟨w4.heap.size, 3, none⟩ (.bool false) := ⟨_, rfl⟩
  rw [← hv6]
  replace X := hide (show Ent v6 w1.heap.size 1 n true ac true hu by rw [hv6]; exact ((X.out.far6 ne1.out).far6 ne2.out).far ne2.out _)
  replace Y := hide (show Ent v6 w3.heap.size 1 n true false true hu by rw [hv6]; exact ((Y.out.put).far6 ne3.out).far ne3.out _)
  replace Z := hide (show Ent v6 w4.heap.size 1 n true false true hu by rw [hv6]; exact ((Z.out.far6 (Ne.symm ne3.out)).put).set3)
  replace K := hide (show Below w.heap.size w v6 by rw [hv6]; exact bset (bset6 (bset6 K.out g3.out) g4.out) g4.out _)
  clear hv6
  clear x0 x1 x2 x3 x4 x5 y0 y1 y2 y3 y4 y5 z0 z1 z2 z3 z4 z5 yq0 yq1 yq2 yq3 yq4 yq5 zq0 zq1 zq2 zq3 zq4 zq5
  obtain ⟨x0, x1, x2, x3, x4, x5⟩ := Ent.cells X.out
  obtain ⟨y0, y1, y2, y3, y4, y5⟩ := Ent.cells Y.out
  obtain ⟨z0, z1, z2, z3, z4, z5⟩ := Ent.cells Z.out
  go_wp2_with fail
  refine (HM.out _).mono ?_
  rintro en w7 ⟨rfl, hb7⟩
  replace X := hide (X.out.below hb7)
  replace Y := hide (Y.out.below hb7)
  replace Z := hide (Z.out.below hb7)
  replace K := hide (btrans K.out hb7)
  clear hb7
  clear x0 x1 x2 x3 x4 x5 y0 y1 y2 y3 y4 y5 z0 z1 z2 z3 z4 z5
  obtain ⟨x0, x1, x2, x3, x4, x5⟩ := Ent.cells X.out
  go_wp2_with fail
  refine (HMD.out _).mono ?_
  rintro en w8 ⟨rfl, hb8⟩
  replace X := hide (X.out.below hb8)
  replace Y := hide (Y.out.below hb8)
  replace Z := hide (Z.out.below hb8)
  replace K := hide (btrans K.out hb8)
  clear hb8
  clear x0 x1 x2 x3 x4 x5
  obtain ⟨x0, x1, x2, x3, x4, x5⟩ := Ent.cells X.out
  obtain ⟨y0, y1, y2, y3, y4, y5⟩ := Ent.cells Y.out
  obtain ⟨z0, z1, z2, z3, z4, z5⟩ := Ent.cells Z.out
  obtain ⟨yq0, yq1, yq2, yq3, yq4, yq5⟩ := Ent.free Y.out
  obtain ⟨zq0, zq1, zq2, zq3, zq4, zq5⟩ := Ent.free Z.out
  go_upto_region 24 with (fail)
  obtain ⟨v8, hv8⟩ : ∃ v8, v8 = (((((((((((((w8.setCell ⟨w3.heap.size, 0, none⟩ (.int .i64 1)).setCell ⟨w3.heap.size, 1, none⟩ (.int .i64 n)).setCell ⟨w3.heap.size, 2, none⟩ (.bool true)).setCell ⟨w3.heap.size, 3, none⟩ (.bool true)).setCell ⟨w3.heap.size, 4, none⟩ (.bool true)).setCell ⟨w3.heap.size, 5, none⟩ (.bool hu)).setCell ⟨w4.heap.size, 0, none⟩ (.int .i64 1)).setCell ⟨w4.heap.size, 1, none⟩ (.int .i64 n)).setCell ⟨w4.heap.size, 2, none⟩ (.bool true)).setCell ⟨w4.heap.size, 3, none⟩ (.bool ac)).setCell ⟨w4.heap.size, 4, none⟩ (.bool true)).setCell ⟨w4.heap.size, 5, none⟩ (.bool hu)).setCell ⟨w4.heap.size, 3, none⟩ (.bool true)).setCell ⟨w4.heap.size, 4, none⟩ (.bool true) := ⟨_, rfl⟩
  rw [← hv8]
  replace Y := hide (show Ent v8 w3.heap.size 1 n true true true hu by rw [hv8]; exact (((Y.out.put).far6 ne3.out).far ne3.out _).far ne3.out _)
  replace Z := hide (show Ent v8 w4.heap.size 1 n true true true hu by rw [hv8]; exact (((Z.out.far6 (Ne.symm ne3.out)).put).set3).set4)
  replace K := hide (show Below w.heap.size w v8 by rw [hv8]; exact bset (bset (bset6 (bset6 K.out g3.out) g4.out) g4.out _) g4.out _)
  clear hv8 X
  clear x0 x1 x2 x3 x4 x5 y0 y1 y2 y3 y4 y5 z0 z1 z2 z3 z4 z5 yq0 yq1 yq2 yq3 yq4 yq5 zq0 zq1 zq2 zq3 zq4 zq5
  obtain ⟨y0, y1, y2, y3, y4, y5⟩ := Ent.cells Y.out
  obtain ⟨z0, z1, z2, z3, z4, z5⟩ := Ent.cells Z.out
  go_wp2_with fail
  refine (awake _).mono ?_
  rintro en w9 ⟨rfl, hb9⟩
  replace K := hide (btrans K.out hb9)
  clear hb9
  clear y0 y1 y2 y3 y4 y5 z0 z1 z2 z3 z4 z5
  go_wp2_with fail
  go_ret
  exact ⟨rfl, K.out⟩
theorem bits_rd (W n p o m : Int) (wr ac di hu b : Bool) (w : World) (hx : Dec0 W 1 n wr ac di hu) (hp : Two 21 #[.int .u64 W] p 0) (hpd : Dec0 p 1 n false ac di hu) (hpm : Two 17 #[.int .u64 p, .bool true] 0 12)
    (ho : Two 19 #[.int .u64 W] o 0) (hod : Dec0 o 1 n wr false di hu) (hm : Two 17 #[.int .u64 W, .bool b] m 0) (hb : b = false) (hmd : Dec0 m 1 n wr true di hu) :
    Calls Try.prog 10 #[.int .u64 W, .bool b] w (True1 w) := by
  cases di
  · exact bits_rd0 W n p o m wr ac _ hu b w hx hp hpd hpm ho hod hm hb rfl hmd
  · exact bits_rd1 W n p o m wr ac _ hu b w hx hp hpd hpm ho hod hm hb rfl hmd
theorem bits_wr (W n p o m : Int) (wr ac di hu b : Bool) (w : World) (hx : Dec0 W 1 n wr ac di hu) (hp : Two 21 #[.int .u64 W] p 0) (hpd : Dec0 p 1 n false ac di hu) (hpm : Two 17 #[.int .u64 p, .bool true] 0 12)
    (ho : Two 19 #[.int .u64 W] o 0) (hod : Dec0 o 1 n wr false di hu) (hm : Two 17 #[.int .u64 W, .bool b] m 0) (hb : b = true) (hw : wr = true) (hmd : Dec0 m 1 n wr true true hu) :
    Calls Try.prog 10 #[.int .u64 W, .bool b] w (True1 w) := by
  cases di
  · exact bits_wr0 W n p o m wr ac _ hu b w hx hp hpd hpm ho hod hm hb hw rfl hmd
  · exact bits_wr1 W n p o m wr ac _ hu b w hx hp hpd hpm ho hod hm hb hw rfl hmd
theorem dec0_good {W : Int} (h : good W = true) : Dec0 W (uk W) (un W) (f3 W) (f4 W) (f5 W) (f6 W) := fun w => dec_good W w (good_bd h).1 (by have := good_bd h; omega) h
theorem dec0_word {k n : Int} {wr ac di hu : Bool} (h : err k n wr ac di hu = 0) : Dec0 (word0 k n wr ac di hu) k n wr ac di hu := fun w => dec_word h w
theorem law_bits (W : Int) (b : Bool) (w : World) (h0 : 0 ≤ W) (h1 : W < 18446744073709551616) : Calls Try.prog 10 #[.int .u64 W, .bool b] w (True1 w) := by
  cases h : good W
  · exact bits_bad W b w h0 h1 h
  by_cases hk : uk W = 1
  · have hx := dec0_good h
    have e := good_err h
    have hp := prot_ok W h0 h1 h (mem13.2 (.inl hk))
    have ep := err_prot h (.inl hk)
    have ho := old_ok W h0 h1 h (mem1.2 hk)
    have eo := err_old h hk
    have hpm : Two 17 #[.int .u64 (word0 (uk W) (un W) false (f4 W) (f5 W) (f6 W)), .bool true] 0 12 := by
      obtain ⟨a1, a2, a3, a4, a5, a6⟩ := unword ep
      obtain ⟨c1, c2, _⟩ := word_bd ep
      exact mark_access _ c1 (by omega) (good_word ep) (mem1.2 (a1.trans hk)) a3
    have hr := mark_read W h0 h1 h (mem1.2 hk)
    have ha := mark_access W h0 h1 h (mem1.2 hk)
    have hw' := mark_write W h0 h1 h (mem1.2 hk)
    have hpd := dec0_word ep
    have hod := dec0_word eo
    have er : err (uk W) (un W) (f3 W) true (f5 W) (f6 W) = 0 := by rw [hk] at e ⊢; exact err_page e
    have ew : err (uk W) (un W) (f3 W) true true (f6 W) = 0 := by rw [hk] at e ⊢; exact err_page e
    have hrd := dec0_word er
    have hwd := dec0_word ew
    generalize uk W = k at *
    subst hk
    generalize word0 1 (un W) false (f4 W) (f5 W) (f6 W) = P at *
    generalize word0 1 (un W) (f3 W) false (f5 W) (f6 W) = O at *
    generalize word0 1 (un W) (f3 W) true (f5 W) (f6 W) = R at *
    generalize word0 1 (un W) (f3 W) true true (f6 W) = M at *
    generalize hf : f3 W = wr at *
    cases b
    · exact bits_rd W (un W) P O R wr (f4 W) (f5 W) (f6 W) false w hx hp hpd hpm ho hod hr rfl hrd
    · cases wr
      · exact bits_no W (un W) P O 0 false (f4 W) (f5 W) (f6 W) true w hx hp hpd hpm ho hod (ha rfl) rfl rfl
      · exact bits_wr W (un W) P O M true (f4 W) (f5 W) (f6 W) true w hx hp hpd hpm ho hod (hw' rfl) rfl rfl hwd
  · exact bits_kind W b w h0 h1 h hk
end Go.Proofs.Ytacehgcgkpolhaa.Pt
