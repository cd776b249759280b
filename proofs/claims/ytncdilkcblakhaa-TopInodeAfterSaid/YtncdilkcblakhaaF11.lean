import Derived.Test.YtncdilkcblakhaaF10
namespace Go.Proofs.Ytncdilkcblakhaa.In
open Go Go.RowKit
set_option linter.unusedVariables false
set_option linter.unusedSimpArgs false
theorem aw_e : eE 3 5 = 0 := by decide
theorem aw_b : eB 3 5 = blk 3 5 := if_pos aw_e
theorem aw_l : lE [4, 2] 3 = 0 := by decide
theorem aw_l2 : lR [4, 2] 3 = [0, 5, 8, 11] := by decide
theorem aw_m : mE [true, false, true] = 0 := by decide
theorem aw_m2 : mR [true, false, true] = 5 := by decide
theorem bsi_new (w : World) (l : Is) : BsI (w.alloc (.cells ((l.map ic).toArray) 3)) (some ⟨w.heap.size, 0, none⟩) l := fun hn => by
  have X := Box.new w 3 ((l.map ic).toArray)
  refine ⟨_, 0, rfl, X.lt, fun k hk => ?_⟩
  rw [X.cell]
  simp [ic, List.getD, List.getElem?_eq_getElem hk]
theorem bsf_new (w : World) (l : Fs) : BsF (w.alloc (.cells ((l.map fc).toArray) 4)) (some ⟨w.heap.size, 0, none⟩) l := fun hn => by
  have X := Box.new w 4 ((l.map fc).toArray)
  refine ⟨_, 0, rfl, X.lt, fun k hk => ?_⟩
  rw [X.cell]
  simp [fc, List.getD, List.getElem?_eq_getElem hk]
set_option maxRecDepth 100000 in
set_option maxHeartbeats 8000000 in
theorem awake_any (w : World) : Calls Try.prog 13 #[] w fun e w' => e = .returned (.bool true) ∧ Below w.heap.size w w' := by
  have C1 := hide (enc_any 3 5 w)
  unfold EnR at C1
  rw [aw_b, aw_e, blk_len] at C1
  go_enter Try.func13, Try.ntmps13
  go_wp2_with fail
  refine C1.out.mono ?_
  rintro e w1 ⟨A1, c1, rfl, hO, hB⟩
  have K := hide hB
  have HS := hide (show BsB w1 A1 (blk 3 5) from OwB.bs hO)
  clear hO hB C1
  obtain ⟨b, off, rfl, hb, hc⟩ := HS.out (by decide)
  have x0 : w1.cell? ⟨b, off, none⟩ = some (.int .u8 73) := hc 0 (by decide)
  have x4 : w1.cell? ⟨b, off + 4, none⟩ = some (.int .u8 3) := hc 4 (by decide)
  have x5 : w1.cell? ⟨b, off + 5, none⟩ = some (.int .u8 5) := hc 5 (by decide)
  have x7 : w1.cell? ⟨b, off + 7, none⟩ = some (.int .u8 55) := hc 7 (by decide)
  have C2 := hide (dec_any (some ⟨b, off, none⟩) c1 (blk 3 5) w1 HS.out (blk_byt aw_e) (by decide))
  unfold DeR at C2
  rw [dE_blk aw_e, dR_blk aw_e, blk_len] at C2
  clear hc
  go_wp2_with fail
  refine C2.out.mono ?_
  rintro e w2 ⟨rfl, hB⟩
  replace K := hide (btrans K.out hB)
  clear hB C2 x0 x4 x5 x7
  have C3 := hide (layout_any (some ⟨w2.heap.size, 0, none⟩) 2 [4, 2] 3 (w2.alloc (.cells #[.int .i64 4, .int .i64 2] 3)) (bsi_new w2 [4, 2]) (by decide))
  unfold LyR at C3
  rw [aw_l, aw_l2] at C3
  change Hid (Calls Try.prog 24 #[.slice (some ⟨w2.heap.size, 0, none⟩) 2 2, .int .i64 3] (w2.alloc (.cells #[.int .i64 4, .int .i64 2] 3)) fun e w' => ∃ A c, e = .returned (.tuple #[.slice A 4 c, .int .i64 0]) ∧ OwI (w2.alloc (.cells #[.int .i64 4, .int .i64 2] 3)).heap.size w' (.slice A 4 c) [0, 5, 8, 11] ∧ Below (w2.alloc (.cells #[.int .i64 4, .int .i64 2] 3)).heap.size (w2.alloc (.cells #[.int .i64 4, .int .i64 2] 3)) w') at C3
  have K2 := hide (bal K.out (.cells #[.int .i64 4, .int .i64 2] 3))
  go_wp2_with fail
  refine C3.out.mono ?_
  rintro e w3 ⟨A3, c3, rfl, hO, hB⟩
  replace K := hide (btrans K2.out hB)
  have HI := hide (show BsI w3 A3 [0, 5, 8, 11] from OwI.bs hO)
  clear hO hB C3 K2
  have C4 := hide (mask_any (some ⟨w3.heap.size, 0, none⟩) 3 [true, false, true] (w3.alloc (.cells #[.bool true, .bool false, .bool true] 4)) (bsf_new w3 [true, false, true]) (by decide))
  unfold MaR at C4
  rw [aw_m, aw_m2] at C4
  change Hid (Calls Try.prog 19 #[.slice (some ⟨w3.heap.size, 0, none⟩) 3 3] (w3.alloc (.cells #[.bool true, .bool false, .bool true] 4)) fun e w' => e = .returned (.tuple #[.int .i64 5, .int .i64 0]) ∧ (w3.alloc (.cells #[.bool true, .bool false, .bool true] 4)) = w') at C4
  have K2 := hide (bal K.out (.cells #[.bool true, .bool false, .bool true] 4))
  replace HI := hide (HI.out.below (bal (brefl w3) (.cells #[.bool true, .bool false, .bool true] 4)))
  go_wp2_with fail
  refine C4.out.mono ?_
  rintro e w4 ⟨rfl, rfl⟩
  clear C4
  obtain ⟨b3, o3, rfl, hb3, hc3⟩ := HI.out (by decide)
  generalize w3.alloc (.cells #[.bool true, .bool false, .bool true] 4) = w4 at *
  have y1 : w4.cell? ⟨b3, o3 + 1, none⟩ = some (.int .i64 5) := hc3 1 (by decide)
  have y3 : w4.cell? ⟨b3, o3 + 3, none⟩ = some (.int .i64 11) := hc3 3 (by decide)
  clear hc3
  go_wp2
  go_ret
  exact ⟨rfl, K2.out⟩
end Go.Proofs.Ytncdilkcblakhaa.In
