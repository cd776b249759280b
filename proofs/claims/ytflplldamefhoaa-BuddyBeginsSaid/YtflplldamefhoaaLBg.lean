import Derived.Test.YtflplldamefhoaaAw
import Derived.Test.YtflplldamefhoaaR11
namespace Go.Proofs.Ytflplldamefhoaa.Bd
open Go Go.RowKit
set_option linter.unusedVariables false
theorem three_all {w : World} {g : Nat} {a b c : Value} (h : Box w g 29 #[a, b, c]) : w.cell? ⟨g, 0, none⟩ = some a ∧ w.cell? ⟨g, 1, none⟩ = some b ∧ w.cell? ⟨g, 2, none⟩ = some c := ⟨h.cell 0, h.cell 1, h.cell 2⟩
set_option maxRecDepth 100000 in
set_option maxHeartbeats 8000000 in
theorem law_begins (n k a0 a1 a2 : Int) (w : World) (hn : i64r n) (hk : i64r k) (h0 : i64r a0) (h1 : i64r a1) (h2 : i64r a2) : Calls Try.prog 4 #[.int .i64 n, .int .i64 k, .agg #[.int .i64 a0, .int .i64 a1, .int .i64 a2]] w fun e w' => e = .returned (.bool true) ∧ Below w.heap.size w w' := by
  have X := hide (Box.new w 29 #[.int .i64 a0, .int .i64 a1, .int .i64 a2])
  have K0 := hide (bal (brefl w) (.cells #[.int .i64 a0, .int .i64 a1, .int .i64 a2] 29))
  have AW := hide (fun w1 => awake_any w1)
  have CC := hide (fun w1 => new_any ⟨n, k, a0, a1, a2⟩ ⟨hn, hk, h0, h1, h2⟩ w1)
  have CR := hide (fun w1 => rnew_any ⟨n, k, a0, a1, a2⟩ ⟨hn, hk, h0, h1, h2⟩ w1)
  have HPP := hide (show nwE ⟨n, k, a0, a1, a2⟩ = 0 → par ⟨n, k, a0, a1, a2⟩ from fun h => by
    unfold nwE at h
    by_cases hp : par ⟨n, k, a0, a1, a2⟩
    · exact hp
    · rw [if_neg hp] at h; exact absurd h (by decide))
  unfold ZE at CC
  unfold RE at CR
  generalize nwE ⟨n, k, a0, a1, a2⟩ = er at *
  obtain ⟨g, hg⟩ : ∃ g, g = w.heap.size := ⟨_, rfl⟩
  obtain ⟨W0, hW0⟩ : ∃ W0, W0 = (w.alloc (.cells #[.int .i64 a0, .int .i64 a1, .int .i64 a2] 29)) := ⟨_, rfl⟩
  rw [← hg, ← hW0] at X
  rw [← hW0] at K0
  go_enter Try.func4, Try.ntmps4
  go_upto_region 1 with fail
  rw [← hg, ← hW0]
  clear hg hW0
  go_upto_region 3 with (go_at_call 14; refine (AW.out _).mono ?_; rintro e w2 ⟨rfl, hb⟩; replace X := hide (X.out.below hb); replace K0 := hide (K0.out.trans (hb.mono K0.out.size)); clear hb; obtain ⟨y0, y1, y2⟩ := three_all X.out)
  go_wp2_with fail
  refine (CC.out _).mono ?_
  rintro e w3 ⟨q, v1, L1, rfl, o1, hb, zg⟩
  go_upto_region 4 with (refine wpList_store_row rfl 25 _ _ rfl w3.heap.size (znC q v1) rfl rfl 25 (znC p0 nv) (Box.new w3 25 _) (by kernel_rfl) rfl (one_zone o1.rd) ?_)
  have ee : (w3.alloc (.cells #[.int .i64 0, .int .i64 0, .int .i64 0, .int .i64 0, .int .i64 0, .slice none 0 0, .slice none 0 0, .slice none 0 0, .slice none 0 0, .slice none 0 0] 25)).setRow w3.heap.size (znC q v1) = w3.alloc (.cells (znC q v1) 25) := setRow_new w3 _ _ 25
  rw [ee]
  obtain ⟨g1, hg1⟩ : ∃ g, g = w3.heap.size := ⟨_, rfl⟩
  have M := bal (brefl w3) (.cells (znC q v1) 25)
  have X1 := hide (show Box (w3.alloc (.cells (znC q v1) 25)) g1 25 (znC q v1) by rw [hg1]; exact Box.new w3 25 _)
  have O1 := hide (o1.rd.below M)
  replace X := hide ((X.out.below hb).below M)
  replace K0 := hide ((K0.out.trans (hb.mono K0.out.size)).trans (M.mono (Nat.le_trans K0.out.size hb.size)))
  rw [← hg1]
  clear ee M hb o1 CC y0 y1 y2
  generalize w3.alloc (.cells (znC q v1) 25) = w4 at *
  clear hg1
  obtain ⟨y0, y1, y2⟩ := three_all X.out
  go_wp2_with fail
  refine (CR.out _).mono ?_
  rintro e w5 ⟨q2, v2, L2, rfl, o2, hb2, zq⟩
  obtain ⟨e1, e2, e3⟩ := agree HPP.out zg zq (fun _ _ => Iff.rfl)
  subst e1
  clear y0 y1 y2
  go_upto_region 5 with (refine wpList_store_row rfl 25 _ _ rfl w5.heap.size (znC q v2) rfl rfl 25 (znC p0 nv) (Box.new w5 25 _) (by kernel_rfl) rfl (one_zone o2.rd) ?_)
  have ee : (w5.alloc (.cells #[.int .i64 0, .int .i64 0, .int .i64 0, .int .i64 0, .int .i64 0, .slice none 0 0, .slice none 0 0, .slice none 0 0, .slice none 0 0, .slice none 0 0] 25)).setRow w5.heap.size (znC q v2) = w5.alloc (.cells (znC q v2) 25) := setRow_new w5 _ _ 25
  rw [ee]
  obtain ⟨g2, hg2⟩ : ∃ g, g = w5.heap.size := ⟨_, rfl⟩
  have M := bal (brefl w5) (.cells (znC q v2) 25)
  have X2 := hide (show Box (w5.alloc (.cells (znC q v2) 25)) g2 25 (znC q v2) by rw [hg2]; exact Box.new w5 25 _)
  have O2 := hide (o2.rd.below M)
  replace X1 := hide ((X1.out.below hb2).below M)
  replace O1 := hide ((O1.out.below hb2).below M)
  replace K0 := hide ((K0.out.trans (hb2.mono K0.out.size)).trans (M.mono (Nat.le_trans K0.out.size hb2.size)))
  rw [← hg2]
  clear ee M hb2 o2 CR zg zq HPP X
  generalize w5.alloc (.cells (znC q v2) 25) = w6 at *
  clear hg2
  have SM := hide (same_any q v1 v2 L1 L2 w6 O1.out O2.out e2 e3)
  clear e2 e3
  obtain ⟨y0, y1, y2, y3, y4, y5, y6, y7, y8, y9⟩ := box_all X1.out
  obtain ⟨z0, z1, z2, z3, z4, z5, z6, z7, z8, z9⟩ := box_all X2.out
  go_wp2_with (go_at_call 20; refine SM.out.mono ?_; rintro e w7 ⟨rfl, hb⟩)
  go_ret
  exact ⟨rfl, K0.out.trans (hb.mono K0.out.size)⟩
end Go.Proofs.Ytflplldamefhoaa.Bd
