import Derived.Test.YtnegigcjeoenmaaAw1
import Derived.Test.YtnegigcjeoenmaaFe1
import Derived.Test.YtnegigcjeoenmaaSa1
namespace Go.Proofs.Ytnegigcjeoenmaa.Dv
open Go Go.RowKit
set_option linter.unusedVariables false
theorem rdb_take {w : World} {A : Option Addr} {L : List By} (h : RdB w A L) (m : Nat) : RdB w A (L.take m) := fun hn => by
  obtain ⟨b, off, e, hl, hc⟩ := h (by rintro rfl; simp at hn)
  refine ⟨b, off, e, hl, fun k hk => ?_⟩
  have hk2 : k < m ∧ k < L.length := by rw [List.length_take] at hk; omega
  obtain ⟨v, h1, h2⟩ := hc k hk2.2
  refine ⟨v, h1, ?_⟩
  have : bAt (L.take m) k = bAt L k := by unfold bAt; rw [List.getD_eq_getElem?_getD, List.getD_eq_getElem?_getD, List.getElem?_take_of_lt hk2.1]
  rw [this]; exact h2
theorem big_nw {dep : Int} {L : List By} (h1 : L.length ≤ 9223372036854775807) (h2 : ∀ b ∈ L, b.length ≤ 9223372036854775807) : Big (if nwE dep L = 0 then nwD dep L else zeroD) := by
  by_cases e : nwE dep L = 0
  · rw [if_pos e]; exact ⟨h1, by simp [nwD], by simp [nwD], h2, fun b hb => by simp [nwD] at hb, fun b hb => by simp [nwD] at hb⟩
  · rw [if_neg e]; exact ⟨by simp [zeroD], by simp [zeroD], by simp [zeroD], fun b hb => by simp [zeroD] at hb, fun b hb => by simp [zeroD] at hb, fun b hb => by simp [zeroD] at hb⟩
set_option maxHeartbeats 1000000 in
set_option maxRecDepth 100000 in
theorem law_begins (dep : Int) (A : Option Addr) (c : Nat) (L : List By) (w : World) (hr : RdB w A L) (hc : L.length ≤ c) (h1 : L.length ≤ 9223372036854775807) (h2 : ∀ b ∈ L, b.length ≤ 9223372036854775807) :
    Calls Try.prog 3 #[.int .i64 dep, .slice A L.length c] w fun e w' => e = .returned (.bool true) ∧ Below w.heap.size w w' := by
  have AW := hide (fun W => awake_any W)
  by_cases hL : 300 < L.length
  · have hd : decide ((300 : Int) < (L.length : Int)) = true := decide_eq_true (by omega)
    go_enter Try.func3, Try.ntmps3
    go_wp2_with fail
    refine (AW.out w).mono ?_
    rintro e w1 ⟨rfl, hb1⟩
    go_wp2_with fail
    refine (AW.out w1).mono ?_
    rintro e w2 ⟨rfl, hb2⟩
    go_wp2_with fail
    go_ret
    exact ⟨rfl, btrans hb1 hb2⟩
  have hd : decide ((300 : Int) < (L.length : Int)) = false := decide_eq_false (by omega)
  have BG := hide (big_nw (dep := dep) h1 h2)
  go_enter Try.func3, Try.ntmps3
  go_wp2_with fail
  refine (AW.out w).mono ?_
  rintro e w1 ⟨rfl, hb1⟩
  go_wp2_with fail
  · have hlm : (L.take 40).length = 40 := by rw [List.length_take]; omega
    have FE := hide (few_any (.agg #[.int .i64 0, .int .i64 0, .slice A 40 c, .slice none 0 0, .slice none 0 0]) ⟨0, 0, L.take 40, [], []⟩ w1 ⟨A, c, none, 0, none, 0, by simp only [hlm]; rfl, by simp only [hlm]; omega, Nat.le_refl _, Nat.le_refl _, rdb_take (hr.below hb1) 40, fun h => absurd rfl h, fun h => absurd rfl h⟩ ⟨by simp only [hlm]; omega, by simp, by simp, fun b hb => h2 b (List.mem_of_mem_take hb), fun b hb => by simp at hb, fun b hb => by simp at hb⟩)
    unfold FewR at FE
    refine FE.out.mono ?_
    rintro e w2 ⟨b, rfl, hf, hb2⟩
    have K2 := hide (btrans hb1 hb2)
    clear hf hlm FE
    cases b
    · go_wp2_with fail
      refine (AW.out w2).mono ?_
      rintro e w3 ⟨rfl, hb3⟩
      go_wp2_with fail
      go_ret
      exact ⟨rfl, btrans K2.out hb3⟩
    · have N1 := hide (new_any dep A L c w2 (hr.below K2.out) hc h1)
      have R1 := hide (fun W (hb : Below w.heap.size w W) => rnew_any dep A L c W (hr.below hb) hc h1)
      unfold DvR2 at N1 R1
      generalize (if nwE dep L = 0 then nwD dep L else zeroD) = D at *
      generalize nwE dep L = er at *
      go_wp2_with fail
      refine N1.out.mono ?_
      rintro e w3 ⟨v1, rfl, ho1, hb3⟩
      obtain ⟨vb, vc, vq, rfl, ob, oc, oq⟩ := ho1
      obtain ⟨E1, g1, rfl, _⟩ := ob.form
      obtain ⟨E2, g2, rfl, _⟩ := oc.form
      obtain ⟨E3, g3, rfl, _⟩ := oq.form
      have M3 := bal (brefl w3) (.cells #[.int .i64 D.dep, .int .i64 D.nxt, .slice E1 D.bl.length g1, .slice E2 D.ca.length g2, .slice E3 D.qu.length g3] 28)
      have IN1 := hide ((DevOwn.is (B := w2.heap.size) (w := w3) (D := D) ⟨_, _, _, rfl, ob, oc, oq⟩).below M3)
      have B1 := hide (Box.new w3 28 #[.int .i64 D.dep, .int .i64 D.nxt, .slice E1 D.bl.length g1, .slice E2 D.ca.length g2, .slice E3 D.qu.length g3])
      have K3 := hide (bal (btrans K2.out hb3) (.cells #[.int .i64 D.dep, .int .i64 D.nxt, .slice E1 D.bl.length g1, .slice E2 D.ca.length g2, .slice E3 D.qu.length g3] 28))
      clear ob oc oq hb3 M3
      go_wp2_with fail
      obtain ⟨g, hg⟩ : ∃ g, g = w3.heap.size := ⟨_, rfl⟩
      rw [← hg] at B1 ⊢
      generalize w3.alloc (.cells #[.int .i64 D.dep, .int .i64 D.nxt, .slice E1 D.bl.length g1, .slice E2 D.ca.length g2, .slice E3 D.qu.length g3] 28) = w4 at *
      clear hg N1
      refine (R1.out w4 K3.out).mono ?_
      rintro e w5 ⟨v1, rfl, ho1, hb3⟩
      obtain ⟨vb, vc, vq, rfl, ob, oc, oq⟩ := ho1
      obtain ⟨F1, f1, rfl, _⟩ := ob.form
      obtain ⟨F2, f2, rfl, _⟩ := oc.form
      obtain ⟨F3, f3, rfl, _⟩ := oq.form
      have M3 := bal hb3 (.cells #[.int .i64 D.dep, .int .i64 D.nxt, .slice F1 D.bl.length f1, .slice F2 D.ca.length f2, .slice F3 D.qu.length f3] 28)
      have IN2 := hide ((DevOwn.is (B := w4.heap.size) (w := w5) (D := D) ⟨_, _, _, rfl, ob, oc, oq⟩).below (bal (brefl w5) (.cells #[.int .i64 D.dep, .int .i64 D.nxt, .slice F1 D.bl.length f1, .slice F2 D.ca.length f2, .slice F3 D.qu.length f3] 28)))
      replace IN1 := hide (IN1.out.below M3)
      have B2 := hide (Box.new w5 28 #[.int .i64 D.dep, .int .i64 D.nxt, .slice F1 D.bl.length f1, .slice F2 D.ca.length f2, .slice F3 D.qu.length f3])
      replace B1 := hide (B1.out.below M3)
      have K5 := hide (btrans K3.out M3)
      clear ob oc oq hb3 M3
      go_upto_region 5 with fail
      obtain ⟨h, hh⟩ : ∃ h, h = w5.heap.size := ⟨_, rfl⟩
      rw [← hh] at B2 ⊢
      generalize w5.alloc (.cells #[.int .i64 D.dep, .int .i64 D.nxt, .slice F1 D.bl.length f1, .slice F2 D.ca.length f2, .slice F3 D.qu.length f3] 28) = w6 at *
      clear hh R1
      obtain ⟨x0, x1, x2, x3, x4⟩ := box5_cells (W' := w) B1.out
      obtain ⟨y0, y1, y2, y3, y4⟩ := box5_cells (W' := w) B2.out
      have SD := hide (same_dev _ _ D w6 IN1.out IN2.out BG.out)
      go_wp2_with fail
      refine SD.out.mono ?_
      rintro e w7 ⟨rfl, hb7⟩
      go_wp2_with fail
      go_ret
      exact ⟨rfl, btrans K5.out hb7⟩
  · have hlm : (L.take L.length).length = L.length := by rw [List.length_take]; omega
    have FE := hide (few_any (.agg #[.int .i64 0, .int .i64 0, .slice A L.length c, .slice none 0 0, .slice none 0 0]) ⟨0, 0, L.take L.length, [], []⟩ w1 ⟨A, c, none, 0, none, 0, by simp only [hlm]; rfl, by simp only [hlm]; omega, Nat.le_refl _, Nat.le_refl _, rdb_take (hr.below hb1) L.length, fun h => absurd rfl h, fun h => absurd rfl h⟩ ⟨by simp only [hlm]; omega, by simp, by simp, fun b hb => h2 b (List.mem_of_mem_take hb), fun b hb => by simp at hb, fun b hb => by simp at hb⟩)
    unfold FewR at FE
    refine FE.out.mono ?_
    rintro e w2 ⟨b, rfl, hf, hb2⟩
    have K2 := hide (btrans hb1 hb2)
    clear hf hlm FE
    cases b
    · go_wp2_with fail
      refine (AW.out w2).mono ?_
      rintro e w3 ⟨rfl, hb3⟩
      go_wp2_with fail
      go_ret
      exact ⟨rfl, btrans K2.out hb3⟩
    · have N1 := hide (new_any dep A L c w2 (hr.below K2.out) hc h1)
      have R1 := hide (fun W (hb : Below w.heap.size w W) => rnew_any dep A L c W (hr.below hb) hc h1)
      unfold DvR2 at N1 R1
      generalize (if nwE dep L = 0 then nwD dep L else zeroD) = D at *
      generalize nwE dep L = er at *
      go_wp2_with fail
      refine N1.out.mono ?_
      rintro e w3 ⟨v1, rfl, ho1, hb3⟩
      obtain ⟨vb, vc, vq, rfl, ob, oc, oq⟩ := ho1
      obtain ⟨E1, g1, rfl, _⟩ := ob.form
      obtain ⟨E2, g2, rfl, _⟩ := oc.form
      obtain ⟨E3, g3, rfl, _⟩ := oq.form
      have M3 := bal (brefl w3) (.cells #[.int .i64 D.dep, .int .i64 D.nxt, .slice E1 D.bl.length g1, .slice E2 D.ca.length g2, .slice E3 D.qu.length g3] 28)
      have IN1 := hide ((DevOwn.is (B := w2.heap.size) (w := w3) (D := D) ⟨_, _, _, rfl, ob, oc, oq⟩).below M3)
      have B1 := hide (Box.new w3 28 #[.int .i64 D.dep, .int .i64 D.nxt, .slice E1 D.bl.length g1, .slice E2 D.ca.length g2, .slice E3 D.qu.length g3])
      have K3 := hide (bal (btrans K2.out hb3) (.cells #[.int .i64 D.dep, .int .i64 D.nxt, .slice E1 D.bl.length g1, .slice E2 D.ca.length g2, .slice E3 D.qu.length g3] 28))
      clear ob oc oq hb3 M3
      go_wp2_with fail
      obtain ⟨g, hg⟩ : ∃ g, g = w3.heap.size := ⟨_, rfl⟩
      rw [← hg] at B1 ⊢
      generalize w3.alloc (.cells #[.int .i64 D.dep, .int .i64 D.nxt, .slice E1 D.bl.length g1, .slice E2 D.ca.length g2, .slice E3 D.qu.length g3] 28) = w4 at *
      clear hg N1
      refine (R1.out w4 K3.out).mono ?_
      rintro e w5 ⟨v1, rfl, ho1, hb3⟩
      obtain ⟨vb, vc, vq, rfl, ob, oc, oq⟩ := ho1
      obtain ⟨F1, f1, rfl, _⟩ := ob.form
      obtain ⟨F2, f2, rfl, _⟩ := oc.form
      obtain ⟨F3, f3, rfl, _⟩ := oq.form
      have M3 := bal hb3 (.cells #[.int .i64 D.dep, .int .i64 D.nxt, .slice F1 D.bl.length f1, .slice F2 D.ca.length f2, .slice F3 D.qu.length f3] 28)
      have IN2 := hide ((DevOwn.is (B := w4.heap.size) (w := w5) (D := D) ⟨_, _, _, rfl, ob, oc, oq⟩).below (bal (brefl w5) (.cells #[.int .i64 D.dep, .int .i64 D.nxt, .slice F1 D.bl.length f1, .slice F2 D.ca.length f2, .slice F3 D.qu.length f3] 28)))
      replace IN1 := hide (IN1.out.below M3)
      have B2 := hide (Box.new w5 28 #[.int .i64 D.dep, .int .i64 D.nxt, .slice F1 D.bl.length f1, .slice F2 D.ca.length f2, .slice F3 D.qu.length f3])
      replace B1 := hide (B1.out.below M3)
      have K5 := hide (btrans K3.out M3)
      clear ob oc oq hb3 M3
      go_upto_region 5 with fail
      obtain ⟨h, hh⟩ : ∃ h, h = w5.heap.size := ⟨_, rfl⟩
      rw [← hh] at B2 ⊢
      generalize w5.alloc (.cells #[.int .i64 D.dep, .int .i64 D.nxt, .slice F1 D.bl.length f1, .slice F2 D.ca.length f2, .slice F3 D.qu.length f3] 28) = w6 at *
      clear hh R1
      obtain ⟨x0, x1, x2, x3, x4⟩ := box5_cells (W' := w) B1.out
      obtain ⟨y0, y1, y2, y3, y4⟩ := box5_cells (W' := w) B2.out
      have SD := hide (same_dev _ _ D w6 IN1.out IN2.out BG.out)
      go_wp2_with fail
      refine SD.out.mono ?_
      rintro e w7 ⟨rfl, hb7⟩
      go_wp2_with fail
      go_ret
      exact ⟨rfl, btrans K5.out hb7⟩
end Go.Proofs.Ytnegigcjeoenmaa.Dv
