import Derived.Test.YtflplldamefhoaaLCk
import Derived.Test.YtflplldamefhoaaBd
import Derived.Test.YtflplldamefhoaaR12
namespace Go.Proofs.Ytflplldamefhoaa.Bd
open Go Go.RowKit
set_option linter.unusedVariables false
set_option maxRecDepth 100000 in
set_option maxHeartbeats 8000000 in
theorem law_builds (p : Pm) (v : Nat → Value) (L : Fl) (A : Option Addr) (c : Nat) (fs : Is) (w : World) (hp : Pr p) (hr : RdZ w v L) (hw : ∀ k, k < 5 → ∀ f ∈ L k, i64r f) (hq : Bi w A fs) (hcf : fs.length ≤ c) (hwl : ∀ f ∈ fs, i64r f) : Calls Try.prog 5 #[.agg (znC p v), .slice A fs.length c] w fun e w' => e = .returned (.bool true) ∧ Below w.heap.size w w' := by
  have X := hide (Box.new w 25 (znC p v))
  have K0 := hide (bal (brefl w) (.cells (znC p v) 25))
  have AW := hide (fun w1 => awake_any w1)
  have FW := hide (fun w1 (hb : Below w.heap.size w w1) => few_any p v L w1 (hr.below hb))
  obtain ⟨g, hg⟩ : ∃ g, g = w.heap.size := ⟨_, rfl⟩
  obtain ⟨W0, hW0⟩ : ∃ W0, W0 = (w.alloc (.cells (znC p v) 25)) := ⟨_, rfl⟩
  rw [← hg, ← hW0] at X
  rw [← hW0] at K0
  by_cases h3 : fs.length ≤ 300
  · have d3 : decide ((300 : Int) < (fs.length : Int)) = false := decide_eq_false (by omega)
    by_cases hf : few L
    · rw [decide_eq_true hf] at FW
      have HZ := hide (zin_few hp hr hw hf)
      have CC := hide (fun w1 (hb : Below w.heap.size w w1) => build_any p v L A c fs w1 hp (hr.below hb) (hq.below hb) h3 hcf hwl)
      have CR := hide (fun w1 (hb : Below w.heap.size w w1) => rbuild_any p v L A c fs w1 hp (hr.below hb) (hq.below hb) h3 hwl)
      have HPP := hide (show bdE p fs = 0 → par p from fun h => by unfold bdE at h; by_cases hpp : par p; exact hpp; rw [if_neg hpp] at h; exact absurd h (by decide))
      have HSS := hide (show bdE p fs = 0 → ∀ x, (Fst fs fs.length x) ↔ (Fst fs fs.length x) from fun _ x => Iff.rfl)
      unfold ZE at CC
      unfold RE at CR
      generalize bdE p fs = er at *
      clear hq hcf hwl h3
      clear hp hr hw hf
      go_enter Try.func5, Try.ntmps5
      go_upto_region 1 with fail
      rw [← hg, ← hW0]
      clear hg hW0
      go_upto_region 3 with (first | (go_at_call 14; refine (AW.out _).mono ?_; rintro e w1 ⟨rfl, hb⟩; replace X := hide (X.out.below hb); replace K0 := hide (K0.out.trans (hb.mono K0.out.size)); clear hb; obtain ⟨y0, y1, y2, y3, y4, y5, y6, y7, y8, y9⟩ := box_all X.out) | (go_at_call 15; refine (FW.out _ K0.out).mono ?_; rintro e w2 ⟨rfl, hb⟩; replace X := hide (X.out.below hb); replace K0 := hide (K0.out.trans (hb.mono K0.out.size)); clear hb))
      clear y0 y1 y2 y3 y4 y5 y6 y7 y8 y9 AW FW
      go_wp2_with (first | (refine wpList_load_row rfl 25 _ rfl g rfl 25 (znC p v) (0, 0) _ X.out Try.underlying25 rfl (by kernel_rfl) ?_) | fail)
      refine (CC.out _ K0.out).mono ?_
      rintro e w3 ⟨q, v1, L1, rfl, o1, hb, zg⟩
      go_upto_region 4 with (refine wpList_store_row rfl 25 _ _ rfl w3.heap.size (znC q v1) rfl rfl 25 (znC p0 nv) (Box.new w3 25 _) (by kernel_rfl) rfl (one_zone o1.rd) ?_)
      have ee : (w3.alloc (.cells #[.int .i64 0, .int .i64 0, .int .i64 0, .int .i64 0, .int .i64 0, .slice none 0 0, .slice none 0 0, .slice none 0 0, .slice none 0 0, .slice none 0 0] 25)).setRow w3.heap.size (znC q v1) = w3.alloc (.cells (znC q v1) 25) := setRow_new w3 _ _ 25
      rw [ee]
      obtain ⟨g1, hg1⟩ : ∃ g, g = w3.heap.size := ⟨_, rfl⟩
      have M := bal (brefl w3) (.cells (znC q v1) 25)
      have X1 := hide (show Box (w3.alloc (.cells (znC q v1) 25)) g1 25 (znC q v1) by rw [hg1]; exact Box.new w3 25 _)
      have O1 := hide (o1.rd.below M)
      replace X := hide ((X.out.below hb).below M)
      replace K0 := hide ((K0.out.trans (hb.mono K0.out.size)).trans (M.mono (Nat.le_trans K0.out.size hb.size)))
      rw [← hg1]
      clear ee M hb o1 CC
      generalize w3.alloc (.cells (znC q v1) 25) = w4 at *
      clear hg1
      go_wp2_with (first | (refine wpList_load_row rfl 25 _ rfl g rfl 25 (znC p v) (0, 0) _ X.out Try.underlying25 rfl (by kernel_rfl) ?_) | fail)
      refine (CR.out _ K0.out).mono ?_
      rintro e w5 ⟨q2, v2, L2, rfl, o2, hb2, zq⟩
      obtain ⟨e1, e2, e3⟩ := agree HPP.out zg zq (fun _ _ => Iff.rfl)
      subst e1
      go_upto_region 5 with (refine wpList_store_row rfl 25 _ _ rfl w5.heap.size (znC q v2) rfl rfl 25 (znC p0 nv) (Box.new w5 25 _) (by kernel_rfl) rfl (one_zone o2.rd) ?_)
      have ee : (w5.alloc (.cells #[.int .i64 0, .int .i64 0, .int .i64 0, .int .i64 0, .int .i64 0, .slice none 0 0, .slice none 0 0, .slice none 0 0, .slice none 0 0, .slice none 0 0] 25)).setRow w5.heap.size (znC q v2) = w5.alloc (.cells (znC q v2) 25) := setRow_new w5 _ _ 25
      rw [ee]
      obtain ⟨g2, hg2⟩ : ∃ g, g = w5.heap.size := ⟨_, rfl⟩
      have M := bal (brefl w5) (.cells (znC q v2) 25)
      have X2 := hide (show Box (w5.alloc (.cells (znC q v2) 25)) g2 25 (znC q v2) by rw [hg2]; exact Box.new w5 25 _)
      have O2 := hide (o2.rd.below M)
      replace X1 := hide ((X1.out.below hb2).below M)
      replace O1 := hide ((O1.out.below hb2).below M)
      replace X := hide ((X.out.below hb2).below M)
      replace K0 := hide ((K0.out.trans (hb2.mono K0.out.size)).trans (M.mono (Nat.le_trans K0.out.size hb2.size)))
      rw [← hg2]
      clear ee M hb2 o2 CR zg zq HPP HSS
      generalize w5.alloc (.cells (znC q v2) 25) = w6 at *
      clear hg2
      have SM := hide (same_any q v1 v2 L1 L2 w6 O1.out O2.out e2 e3)
      clear e2 e3
      obtain ⟨y0, y1, y2, y3, y4, y5, y6, y7, y8, y9⟩ := box_all X1.out
      obtain ⟨z0, z1, z2, z3, z4, z5, z6, z7, z8, z9⟩ := box_all X2.out
      go_wp2_with (go_at_call 20; refine SM.out.mono ?_; rintro e w7 ⟨rfl, hb⟩)
      go_ret
      exact ⟨rfl, K0.out.trans (hb.mono K0.out.size)⟩
    · rw [decide_eq_false hf] at FW
      clear hp hr hw hf hq hcf hwl h3
      go_enter Try.func5, Try.ntmps5
      go_upto_region 1 with fail
      rw [← hg, ← hW0]
      clear hg hW0
      go_upto_region 2 with (first | (go_at_call 14; refine (AW.out _).mono ?_; rintro e w1 ⟨rfl, hb⟩; replace X := hide (X.out.below hb); replace K0 := hide (K0.out.trans (hb.mono K0.out.size)); clear hb; obtain ⟨y0, y1, y2, y3, y4, y5, y6, y7, y8, y9⟩ := box_all X.out) | (go_at_call 15; refine (FW.out _ K0.out).mono ?_; rintro e w2 ⟨rfl, hb⟩; replace X := hide (X.out.below hb); replace K0 := hide (K0.out.trans (hb.mono K0.out.size)); clear hb))
      clear y0 y1 y2 y3 y4 y5 y6 y7 y8 y9
      go_wp2_with (go_at_call 14; refine (AW.out _).mono ?_; rintro e w3 ⟨rfl, hb⟩)
      go_ret
      exact ⟨rfl, K0.out.trans (hb.mono K0.out.size)⟩
  · have d3 : decide ((300 : Int) < (fs.length : Int)) = true := decide_eq_true (by omega)
    have hcs : decide (few L) = true ∨ decide (few L) = false := by cases decide (few L) <;> simp
    rcases hcs with hf | hf
    · rw [hf] at FW
      clear hp hr hw hf hq hcf hwl h3
      go_enter Try.func5, Try.ntmps5
      go_upto_region 1 with fail
      rw [← hg, ← hW0]
      clear hg hW0
      go_upto_region 2 with (first | (go_at_call 14; refine (AW.out _).mono ?_; rintro e w1 ⟨rfl, hb⟩; replace X := hide (X.out.below hb); replace K0 := hide (K0.out.trans (hb.mono K0.out.size)); clear hb; obtain ⟨y0, y1, y2, y3, y4, y5, y6, y7, y8, y9⟩ := box_all X.out) | (go_at_call 15; refine (FW.out _ K0.out).mono ?_; rintro e w2 ⟨rfl, hb⟩; replace X := hide (X.out.below hb); replace K0 := hide (K0.out.trans (hb.mono K0.out.size)); clear hb))
      clear y0 y1 y2 y3 y4 y5 y6 y7 y8 y9
      go_wp2_with (go_at_call 14; refine (AW.out _).mono ?_; rintro e w3 ⟨rfl, hb⟩)
      go_ret
      exact ⟨rfl, K0.out.trans (hb.mono K0.out.size)⟩
    · rw [hf] at FW
      clear hp hr hw hf hq hcf hwl h3
      go_enter Try.func5, Try.ntmps5
      go_upto_region 1 with fail
      rw [← hg, ← hW0]
      clear hg hW0
      go_upto_region 2 with (first | (go_at_call 14; refine (AW.out _).mono ?_; rintro e w1 ⟨rfl, hb⟩; replace X := hide (X.out.below hb); replace K0 := hide (K0.out.trans (hb.mono K0.out.size)); clear hb; obtain ⟨y0, y1, y2, y3, y4, y5, y6, y7, y8, y9⟩ := box_all X.out) | (go_at_call 15; refine (FW.out _ K0.out).mono ?_; rintro e w2 ⟨rfl, hb⟩; replace X := hide (X.out.below hb); replace K0 := hide (K0.out.trans (hb.mono K0.out.size)); clear hb))
      clear y0 y1 y2 y3 y4 y5 y6 y7 y8 y9
      go_wp2_with (go_at_call 14; refine (AW.out _).mono ?_; rintro e w3 ⟨rfl, hb⟩)
      go_ret
      exact ⟨rfl, K0.out.trans (hb.mono K0.out.size)⟩
end Go.Proofs.Ytflplldamefhoaa.Bd
