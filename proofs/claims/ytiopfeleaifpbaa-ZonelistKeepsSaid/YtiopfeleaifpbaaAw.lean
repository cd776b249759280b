import Derived.Test.YtiopfeleaifpbaaSm
namespace Go.Proofs.Ytiopfeleaifpbaa.Bd
open Go Go.RowKit Go.Sort Go.Lib
set_option linter.unusedVariables false
set_option linter.unusedSimpArgs false
theorem bi_box {w : World} {g : Nat} {l : Is} (h : Box w g 3 (l.map ic).toArray) : Bi w (some ⟨g, 0, none⟩) l := fun _ => ⟨g, 0, rfl, h.lt, fun k hk => by
  rw [Nat.zero_add, h.cell k, List.getElem?_toArray, List.getElem?_map, List.getElem?_eq_getElem hk, getD_get hk]
  rfl⟩
theorem same_refl (A B : Option Addr) (c d : Nat) (a : Is) (w : World) (h1 : Bi w A a) (h2 : Bi w B a) (hn : a.length ≤ 9223372036854775807) : Calls Try.prog 19 #[.slice A a.length c, .slice B a.length d] w fun e w' => e = .returned (.bool true) ∧ Below w.heap.size w w' := by
  have h := same_any A B c d a a w h1 h2 hn
  rwa [show decide (a = a) = true from decide_eq_true rfl] at h
theorem zw_cells : (zcl Zw).toArray = #[.int .i64 0, .int .i64 0, .int .i64 0, .int .i64 0, .int .i64 0, .slice none 0 0, .slice none 0 0, .slice none 0 0, .slice none 0 0, .slice none 0 0, .int .i64 0, .int .i64 1, .int .i64 0, .int .i64 0, .int .i64 0, .slice none 0 0, .slice none 0 0, .slice none 0 0, .slice none 0 0, .slice none 0 0, .int .i64 2, .int .i64 0, .int .i64 0, .int .i64 0, .int .i64 0, .slice none 0 0, .slice none 0 0, .slice none 0 0, .slice none 0 0, .slice none 0 0, .int .i64 1, .int .i64 1, .int .i64 0, .int .i64 0, .int .i64 0, .slice none 0 0, .slice none 0 0, .slice none 0 0, .slice none 0 0, .slice none 0 0] := by kernel_rfl
theorem z4_cells : (zcl [zp 4 0]).toArray = #[.int .i64 4, .int .i64 0, .int .i64 0, .int .i64 0, .int .i64 0, .slice none 0 0, .slice none 0 0, .slice none 0 0, .slice none 0 0, .slice none 0 0] := by kernel_rfl
theorem awN (g : Nat) (W : World) (hz : Zs W (some ⟨g, 0, none⟩) Zw) : Calls Try.prog 15 #[.slice (some ⟨g, 0, none⟩) 4 4, .int .i64 1] W fun e w' => (∃ A c, e = .returned (.tuple #[.slice A 3 c, .int .i64 0]) ∧ OwI W.heap.size w' (.slice A 3 c) [1, 0, 2]) ∧ Below W.heap.size W w' := by
  have h := nodes_any _ 4 Zw 1 W hz (zis_w W) (by decide)
  rw [w_n.1, w_n.2] at h
  exact h
theorem awU (g : Nat) (W : World) (hz : Zs W (some ⟨g, 0, none⟩) Zw) : Calls Try.prog 17 #[.slice (some ⟨g, 0, none⟩) 4 4, .int .i64 1, .bool false] W fun e w' => (∃ A c, e = .returned (.tuple #[.slice A 4 c, .int .i64 0]) ∧ OwI W.heap.size w' (.slice A 4 c) [3, 1, 0, 2]) ∧ Below W.heap.size W w' := by
  have h := order_any _ 4 Zw 1 false W hz (zis_w W) (by decide)
  rw [w_n.1, w_u] at h
  exact h
theorem awKK (g : Nat) (W : World) (hz : Zs W (some ⟨g, 0, none⟩) Zw) : Calls Try.prog 17 #[.slice (some ⟨g, 0, none⟩) 4 4, .int .i64 1, .bool true] W fun e w' => (∃ A c, e = .returned (.tuple #[.slice A 2 c, .int .i64 0]) ∧ OwI W.heap.size w' (.slice A 2 c) [0, 2]) ∧ Below W.heap.size W w' := by
  have h := order_any _ 4 Zw 1 true W hz (zis_w W) (by decide)
  rw [w_n.1, w_k] at h
  exact h
theorem awBB (g : Nat) (W : World) (hz : Zs W (some ⟨g, 0, none⟩) Zw) : Calls Try.prog 20 #[.slice (some ⟨g, 0, none⟩) 4 4, .agg #[.int .i64 2, .int .i64 5, .int .i64 0], .int .i64 1, .bool false] W fun e w' => (∃ A c, e = .returned (.tuple #[.slice A 3 c, .int .i64 0]) ∧ OwI W.heap.size w' (.slice A 3 c) [1, 0, 2]) ∧ Below W.heap.size W w' := by
  have h := pick_any _ 4 Zw ⟨2, 5, 0⟩ 1 false W hz (zis_w W) (by decide)
  rw [w_b.1, w_b.2] at h
  exact h
theorem awII (g : Nat) (W : World) (hz : Zs W (some ⟨g, 0, none⟩) Zw) : Calls Try.prog 20 #[.slice (some ⟨g, 0, none⟩) 4 4, .agg #[.int .i64 3, .int .i64 6, .int .i64 3], .int .i64 0, .bool false] W fun e w' => (∃ A c, e = .returned (.tuple #[.slice A 4 c, .int .i64 0]) ∧ OwI W.heap.size w' (.slice A 4 c) [2, 3, 1, 0]) ∧ Below W.heap.size W w' := by
  have h := pick_any _ 4 Zw ⟨3, 6, 3⟩ 0 false W hz (zis_w W) (by decide)
  rw [w_i.1, w_i.2] at h
  exact h
set_option maxRecDepth 100000 in
set_option maxHeartbeats 16000000 in
theorem awake_any (w : World) : Calls Try.prog 12 #[] w fun e w' => e = .returned (.bool true) ∧ Below w.heap.size w w' := by
  have X := hide (Box.new w 41 #[.int .i64 0, .int .i64 0, .int .i64 0, .int .i64 0, .int .i64 0, .slice none 0 0, .slice none 0 0, .slice none 0 0, .slice none 0 0, .slice none 0 0, .int .i64 0, .int .i64 1, .int .i64 0, .int .i64 0, .int .i64 0, .slice none 0 0, .slice none 0 0, .slice none 0 0, .slice none 0 0, .slice none 0 0, .int .i64 2, .int .i64 0, .int .i64 0, .int .i64 0, .int .i64 0, .slice none 0 0, .slice none 0 0, .slice none 0 0, .slice none 0 0, .slice none 0 0, .int .i64 1, .int .i64 1, .int .i64 0, .int .i64 0, .int .i64 0, .slice none 0 0, .slice none 0 0, .slice none 0 0, .slice none 0 0, .slice none 0 0])
  have K := hide (bal (brefl w) (.cells #[.int .i64 0, .int .i64 0, .int .i64 0, .int .i64 0, .int .i64 0, .slice none 0 0, .slice none 0 0, .slice none 0 0, .slice none 0 0, .slice none 0 0, .int .i64 0, .int .i64 1, .int .i64 0, .int .i64 0, .int .i64 0, .slice none 0 0, .slice none 0 0, .slice none 0 0, .slice none 0 0, .slice none 0 0, .int .i64 2, .int .i64 0, .int .i64 0, .int .i64 0, .int .i64 0, .slice none 0 0, .slice none 0 0, .slice none 0 0, .slice none 0 0, .slice none 0 0, .int .i64 1, .int .i64 1, .int .i64 0, .int .i64 0, .int .i64 0, .slice none 0 0, .slice none 0 0, .slice none 0 0, .slice none 0 0, .slice none 0 0] 41))
  obtain ⟨g, hg⟩ : ∃ g, g = w.heap.size := ⟨_, rfl⟩
  obtain ⟨W0, hW0⟩ : ∃ W0, W0 = (w.alloc (.cells #[.int .i64 0, .int .i64 0, .int .i64 0, .int .i64 0, .int .i64 0, .slice none 0 0, .slice none 0 0, .slice none 0 0, .slice none 0 0, .slice none 0 0, .int .i64 0, .int .i64 1, .int .i64 0, .int .i64 0, .int .i64 0, .slice none 0 0, .slice none 0 0, .slice none 0 0, .slice none 0 0, .slice none 0 0, .int .i64 2, .int .i64 0, .int .i64 0, .int .i64 0, .int .i64 0, .slice none 0 0, .slice none 0 0, .slice none 0 0, .slice none 0 0, .slice none 0 0, .int .i64 1, .int .i64 1, .int .i64 0, .int .i64 0, .int .i64 0, .slice none 0 0, .slice none 0 0, .slice none 0 0, .slice none 0 0, .slice none 0 0] 41)) := ⟨_, rfl⟩
  rw [← hg, ← hW0] at X
  rw [← hW0] at K
  have ZZ := hide (zs_row (g := g) (Z := Zw) (w := W0) (by rw [zw_cells]; exact X.out))
  clear X
  go_enter Try.func12, Try.ntmps12
  go_upto_region 2 with fail
  rw [← hg, ← hW0]
  clear hg hW0
  go_wp2_with fail
  refine (awN g W0 ZZ.out).mono ?_
  rintro e w0 ⟨⟨A0, c0, rfl, hO⟩, hb⟩
  have R0 := hide (OwI.bi hO)
  replace ZZ := hide (ZZ.out.below hb)
  replace K := hide (btrans K.out hb)
  clear hO hb
  go_wp2_with fail
  refine (awU g w0 ZZ.out).mono ?_
  rintro e w1 ⟨⟨A1, c1, rfl, hO⟩, hb⟩
  have R1 := hide (OwI.bi hO)
  replace ZZ := hide (ZZ.out.below hb)
  replace K := hide (btrans K.out hb)
  replace R0 := hide (R0.out.below hb)
  clear hO hb
  go_wp2_with fail
  refine (awKK g w1 ZZ.out).mono ?_
  rintro e w2 ⟨⟨A2, c2, rfl, hO⟩, hb⟩
  have R2 := hide (OwI.bi hO)
  replace ZZ := hide (ZZ.out.below hb)
  replace K := hide (btrans K.out hb)
  replace R0 := hide (R0.out.below hb)
  replace R1 := hide (R1.out.below hb)
  clear hO hb
  go_wp2_with fail
  refine (awBB g w2 ZZ.out).mono ?_
  rintro e w3 ⟨⟨A3, c3, rfl, hO⟩, hb⟩
  have R3 := hide (OwI.bi hO)
  replace ZZ := hide (ZZ.out.below hb)
  replace K := hide (btrans K.out hb)
  replace R0 := hide (R0.out.below hb)
  replace R1 := hide (R1.out.below hb)
  replace R2 := hide (R2.out.below hb)
  clear hO hb
  go_wp2_with fail
  refine (awII g w3 ZZ.out).mono ?_
  rintro e w4 ⟨⟨A4, c4, rfl, hO⟩, hb⟩
  have R4 := hide (OwI.bi hO)
  replace ZZ := hide (ZZ.out.below hb)
  replace K := hide (btrans K.out hb)
  replace R0 := hide (R0.out.below hb)
  replace R1 := hide (R1.out.below hb)
  replace R2 := hide (R2.out.below hb)
  replace R3 := hide (R3.out.below hb)
  clear hO hb
  have M := bal (brefl w4) (.cells #[.int .i64 1, .int .i64 0, .int .i64 2] 3)
  have BX := bi_box (l := [1, 0, 2]) (Box.new w4 3 #[.int .i64 1, .int .i64 0, .int .i64 2])
  have RX := R0.out.below M
  replace K := hide (btrans K.out M)
  replace R1 := hide (R1.out.below M)
  replace R2 := hide (R2.out.below M)
  replace R3 := hide (R3.out.below M)
  replace R4 := hide (R4.out.below M)
  have SM := hide (same_refl _ _ c0 3 [1, 0, 2] _ RX BX (by decide))
  clear M BX RX R0
  go_wp2_with fail
  refine SM.out.mono ?_
  rintro e v0 ⟨rfl, hb⟩
  replace K := hide (btrans K.out hb)
  replace R1 := hide (R1.out.below hb)
  replace R2 := hide (R2.out.below hb)
  replace R3 := hide (R3.out.below hb)
  replace R4 := hide (R4.out.below hb)
  clear hb SM
  have M := bal (brefl v0) (.cells #[.int .i64 3, .int .i64 1, .int .i64 0, .int .i64 2] 3)
  have BX := bi_box (l := [3, 1, 0, 2]) (Box.new v0 3 #[.int .i64 3, .int .i64 1, .int .i64 0, .int .i64 2])
  have RX := R1.out.below M
  replace K := hide (btrans K.out M)
  replace R2 := hide (R2.out.below M)
  replace R3 := hide (R3.out.below M)
  replace R4 := hide (R4.out.below M)
  have SM := hide (same_refl _ _ c1 4 [3, 1, 0, 2] _ RX BX (by decide))
  clear M BX RX R1
  go_wp2_with fail
  refine SM.out.mono ?_
  rintro e v1 ⟨rfl, hb⟩
  replace K := hide (btrans K.out hb)
  replace R2 := hide (R2.out.below hb)
  replace R3 := hide (R3.out.below hb)
  replace R4 := hide (R4.out.below hb)
  clear hb SM
  have M := bal (brefl v1) (.cells #[.int .i64 0, .int .i64 2] 3)
  have BX := bi_box (l := [0, 2]) (Box.new v1 3 #[.int .i64 0, .int .i64 2])
  have RX := R2.out.below M
  replace K := hide (btrans K.out M)
  replace R3 := hide (R3.out.below M)
  replace R4 := hide (R4.out.below M)
  have SM := hide (same_refl _ _ c2 2 [0, 2] _ RX BX (by decide))
  clear M BX RX R2
  go_wp2_with fail
  refine SM.out.mono ?_
  rintro e v2 ⟨rfl, hb⟩
  replace K := hide (btrans K.out hb)
  replace R3 := hide (R3.out.below hb)
  replace R4 := hide (R4.out.below hb)
  clear hb SM
  have M := bal (brefl v2) (.cells #[.int .i64 1, .int .i64 0, .int .i64 2] 3)
  have BX := bi_box (l := [1, 0, 2]) (Box.new v2 3 #[.int .i64 1, .int .i64 0, .int .i64 2])
  have RX := R3.out.below M
  replace K := hide (btrans K.out M)
  replace R4 := hide (R4.out.below M)
  have SM := hide (same_refl _ _ c3 3 [1, 0, 2] _ RX BX (by decide))
  clear M BX RX R3
  go_wp2_with fail
  refine SM.out.mono ?_
  rintro e v3 ⟨rfl, hb⟩
  replace K := hide (btrans K.out hb)
  replace R4 := hide (R4.out.below hb)
  clear hb SM
  have M := bal (brefl v3) (.cells #[.int .i64 2, .int .i64 3, .int .i64 1, .int .i64 0] 3)
  have BX := bi_box (l := [2, 3, 1, 0]) (Box.new v3 3 #[.int .i64 2, .int .i64 3, .int .i64 1, .int .i64 0])
  have RX := R4.out.below M
  replace K := hide (btrans K.out M)
  have SM := hide (same_refl _ _ c4 4 [2, 3, 1, 0] _ RX BX (by decide))
  clear M BX RX R4
  go_wp2_with fail
  refine SM.out.mono ?_
  rintro e v4 ⟨rfl, hb⟩
  replace K := hide (btrans K.out hb)
  clear hb SM
  have M := bal (brefl v4) (.cells #[.int .i64 4, .int .i64 0, .int .i64 0, .int .i64 0, .int .i64 0, .slice none 0 0, .slice none 0 0, .slice none 0 0, .slice none 0 0, .slice none 0 0] 41)
  have BX := hide (Box.new v4 41 #[.int .i64 4, .int .i64 0, .int .i64 0, .int .i64 0, .int .i64 0, .slice none 0 0, .slice none 0 0, .slice none 0 0, .slice none 0 0, .slice none 0 0])
  have C4 := hide (check_any _ 1 [zp 4 0] _ (zs_row (by rw [z4_cells]; exact BX.out)) (zis_4 _) (by decide))
  rw [w_c] at C4
  replace K := hide (btrans K.out M)
  clear M BX
  go_wp2_with fail
  refine C4.out.mono ?_
  rintro e v9 ⟨rfl, hb⟩
  replace K := hide (btrans K.out hb)
  clear hb C4
  go_wp2
  go_ret
  exact ⟨rfl, K.out⟩
end Go.Proofs.Ytiopfeleaifpbaa.Bd
