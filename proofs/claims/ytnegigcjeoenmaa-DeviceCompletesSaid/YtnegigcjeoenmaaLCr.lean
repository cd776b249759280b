import Derived.Test.YtnegigcjeoenmaaLBg
import Derived.Test.YtnegigcjeoenmaaRc3
namespace Go.Proofs.Ytnegigcjeoenmaa.Dv
open Go Go.RowKit
set_option linter.unusedVariables false
theorem crK_all {ps : List Bool} {C : List Ca} {L : List By} {P : By → Prop} (hL : ∀ b ∈ L, P b) (hC : ∀ c ∈ C, P c.2) : ∀ k, k ≤ C.length → ∀ b ∈ crK ps C L k, P b
  | 0, _ => hL
  | k + 1, hk => by
    unfold crK
    intro b hb
    by_cases h : ps.getD k false = true
    · rw [if_pos h] at hb
      rcases List.mem_or_eq_of_mem_set hb with h | h
      · exact crK_all hL hC k (by omega) b h
      · rw [h]; exact hC _ (cAt_mem (by omega))
    · rw [if_neg h] at hb
      exact crK_all hL hC k (by omega) b hb
theorem los_all {D : Dev} {P : By → Prop} (h1 : ∀ c ∈ D.ca, P c.2) (h2 : ∀ q ∈ D.qu, P q.2.2.2) (m : Nat) : ∀ c ∈ losK D.ca D.qu m, P c.2 := by
  intro c hc
  unfold losK at hc
  rcases List.mem_append.1 hc with hc | hc
  · exact h1 c hc
  · obtain ⟨q, hq, rfl⟩ := List.mem_map.1 hc
    exact h2 q (List.mem_of_mem_take (List.mem_filter.1 hq).1)
theorem big_zero : Big zeroD := ⟨by simp [zeroD], by simp [zeroD], by simp [zeroD], fun b hb => by simp [zeroD] at hb, fun b hb => by simp [zeroD] at hb, fun b hb => by simp [zeroD] at hb⟩
theorem big_cr {D : Dev} {ps : List Bool} (hB : Big D) : Big (crD D ps) :=
  ⟨by show (crK ps _ D.bl _).length ≤ _; rw [crK_len]; exact hB.bl, by show (0 : Nat) ≤ _; omega, by show (0 : Nat) ≤ _; omega, crK_all (P := fun b => b.length ≤ 9223372036854775807) hB.bb (los_all (P := fun b => b.length ≤ 9223372036854775807) hB.cb hB.qb _) _ (Nat.le_refl _), fun c hc => (by cases hc), fun c hc => (by cases hc)⟩
theorem big_cr2 {D : Dev} {ps : List Bool} (hB : Big D) : Big (if chk D = 0 then crD D ps else zeroD) := by
  by_cases e : chk D = 0
  · rw [if_pos e]; exact big_cr hB
  · rw [if_neg e]; exact big_zero
set_option maxHeartbeats 2000000 in
set_option maxRecDepth 100000 in
theorem law_crashes (v : Value) (D : Dev) (A : Option Addr) (ps : List Bool) (c : Nat) (w : World) (h : DevIn w v D) (hB : Big D) (hp : RdT w A ps) (hpl : ps.length ≤ 9223372036854775807) :
    Calls Try.prog 6 #[v, .slice A ps.length c] w fun e w' => e = .returned (.bool true) ∧ Below w.heap.size w w' := by
  obtain ⟨Ab, cb, Ac, cc, Aq, cq, rfl, h1, h2, h3, rb, rc, rq⟩ := h
  obtain ⟨W0, hW0⟩ : ∃ W0, W0 = w.alloc (.cells #[.int .i64 D.dep, .int .i64 D.nxt, .slice Ab D.bl.length cb, .slice Ac D.ca.length cc, .slice Aq D.qu.length cq] 28) := ⟨_, rfl⟩
  have K0 := hide (show Below w.heap.size w W0 by rw [hW0]; exact bal (brefl w) _)
  have X := hide (show Box W0 w.heap.size 28 #[.int .i64 D.dep, .int .i64 D.nxt, .slice Ab D.bl.length cb, .slice Ac D.ca.length cc, .slice Aq D.qu.length cq] by rw [hW0]; exact Box.new w 28 _)
  have IN := hide (show DevIn w (.agg #[.int .i64 D.dep, .int .i64 D.nxt, .slice Ab D.bl.length cb, .slice Ac D.ca.length cc, .slice Aq D.qu.length cq]) D from ⟨Ab, cb, Ac, cc, Aq, cq, rfl, h1, h2, h3, rb, rc, rq⟩)
  have HW := hide hW0
  have HP := hide hp
  clear rb rc rq hW0 h1 h2 h3 hp
  have AW := hide (fun W => awake_any W)
  have IW := fun W (hb : Below W0.heap.size W0 W) => IN.out.below (btrans K0.out hb)
  have FE := hide (fun W (hb : Below W0.heap.size W0 W) => few_any _ D W (IW W hb) hB)
  have S1 := hide (fun W (hb : Below W0.heap.size W0 W) => crash_any _ D A ps c W (IW W hb) hB (HP.out.below (btrans K0.out hb)) hpl)
  have S2 := hide (fun W (hb : Below W0.heap.size W0 W) => rcrash_any _ D A ps c W (IW W hb) hB (HP.out.below (btrans K0.out hb)) hpl)
  have BG := hide (big_cr2 (ps := ps) hB)
  unfold FewR at FE
  unfold DvR2 at S1 S2
  have CE := hide (fun (W : World) (h : Below W0.heap.size W0 W) => box5_cells (W' := W) (X.out.below h))
  clear IW IN HP
  generalize (if chk D = 0 then crD D ps else zeroD) = F at *
  generalize chk D = er at *
  generalize D.dep = dep at *
  generalize D.nxt = nxt at *
  go_enter Try.func6, Try.ntmps6
  go_wp2_with fail
  rw [← HW.out]
  refine (AW.out W0).mono ?_
  rintro e w1 ⟨rfl, hb1⟩
  obtain ⟨x0, x1, x2, x3, x4⟩ := CE.out _ hb1
  go_wp2_with fail
  refine (FE.out _ hb1).mono ?_
  rintro e w2 ⟨q, rfl, hf, hb2⟩
  have K2 := hide (btrans hb1 hb2)
  clear hf hb1 hb2 FE x0 x1 x2 x3 x4
  cases q
  · go_wp2_with fail
    refine (AW.out w2).mono ?_
    rintro e w9 ⟨rfl, hb9⟩
    go_wp2_with fail
    go_ret
    exact ⟨rfl, btrans K0.out (btrans K2.out hb9)⟩
  obtain ⟨x0, x1, x2, x3, x4⟩ := CE.out _ K2.out
  go_wp2_with fail
  refine (S1.out w2 K2.out).mono ?_
  rintro e w3 ⟨v1, rfl, ho1, hb3⟩
  obtain ⟨vb, vc, vq, rfl, ob, oc, oq⟩ := ho1
  obtain ⟨E1, g1, rfl, _⟩ := ob.form
  obtain ⟨E2, g2, rfl, _⟩ := oc.form
  obtain ⟨E3, g3, rfl, _⟩ := oq.form
  have M3 := bal (brefl w3) (.cells #[.int .i64 F.dep, .int .i64 F.nxt, .slice E1 F.bl.length g1, .slice E2 F.ca.length g2, .slice E3 F.qu.length g3] 28)
  have IN1 := hide ((DevOwn.is (B := w2.heap.size) (w := w3) (D := F) ⟨_, _, _, rfl, ob, oc, oq⟩).below M3)
  have B1 := hide (Box.new w3 28 #[.int .i64 F.dep, .int .i64 F.nxt, .slice E1 F.bl.length g1, .slice E2 F.ca.length g2, .slice E3 F.qu.length g3])
  have K3 := hide (bal (btrans K2.out hb3) (.cells #[.int .i64 F.dep, .int .i64 F.nxt, .slice E1 F.bl.length g1, .slice E2 F.ca.length g2, .slice E3 F.qu.length g3] 28))
  clear ob oc oq hb3 M3 x0 x1 x2 x3 x4
  go_upto_region 4 with fail
  obtain ⟨g, hg⟩ : ∃ g, g = w3.heap.size := ⟨_, rfl⟩
  rw [← hg] at B1 ⊢
  generalize w3.alloc (.cells #[.int .i64 F.dep, .int .i64 F.nxt, .slice E1 F.bl.length g1, .slice E2 F.ca.length g2, .slice E3 F.qu.length g3] 28) = w4 at *
  clear hg S1
  obtain ⟨x0, x1, x2, x3, x4⟩ := CE.out _ K3.out
  go_wp2_with fail
  refine (S2.out w4 K3.out).mono ?_
  rintro e w5 ⟨v1, rfl, ho1, hb3⟩
  obtain ⟨vb, vc, vq, rfl, ob, oc, oq⟩ := ho1
  obtain ⟨F1, f1, rfl, _⟩ := ob.form
  obtain ⟨F2, f2, rfl, _⟩ := oc.form
  obtain ⟨F3, f3, rfl, _⟩ := oq.form
  have M3 := bal hb3 (.cells #[.int .i64 F.dep, .int .i64 F.nxt, .slice F1 F.bl.length f1, .slice F2 F.ca.length f2, .slice F3 F.qu.length f3] 28)
  have IN2 := hide ((DevOwn.is (B := w4.heap.size) (w := w5) (D := F) ⟨_, _, _, rfl, ob, oc, oq⟩).below (bal (brefl w5) (.cells #[.int .i64 F.dep, .int .i64 F.nxt, .slice F1 F.bl.length f1, .slice F2 F.ca.length f2, .slice F3 F.qu.length f3] 28)))
  replace IN1 := hide (IN1.out.below M3)
  have B2 := hide (Box.new w5 28 #[.int .i64 F.dep, .int .i64 F.nxt, .slice F1 F.bl.length f1, .slice F2 F.ca.length f2, .slice F3 F.qu.length f3])
  replace B1 := hide (B1.out.below M3)
  have K5 := hide (btrans K3.out M3)
  clear ob oc oq hb3 M3 x0 x1 x2 x3 x4
  go_upto_region 5 with fail
  obtain ⟨h, hh⟩ : ∃ h, h = w5.heap.size := ⟨_, rfl⟩
  rw [← hh] at B2 ⊢
  generalize w5.alloc (.cells #[.int .i64 F.dep, .int .i64 F.nxt, .slice F1 F.bl.length f1, .slice F2 F.ca.length f2, .slice F3 F.qu.length f3] 28) = w6 at *
  clear hh S2
  obtain ⟨x0, x1, x2, x3, x4⟩ := box5_cells (W' := w) B1.out
  obtain ⟨y0, y1, y2, y3, y4⟩ := box5_cells (W' := w) B2.out
  have SD := hide (same_dev _ _ F w6 IN1.out IN2.out BG.out)
  go_wp2_with fail
  refine SD.out.mono ?_
  rintro e w7 ⟨rfl, hb7⟩
  go_wp2_with fail
  go_ret
  exact ⟨rfl, btrans K0.out (btrans K5.out hb7)⟩
end Go.Proofs.Ytnegigcjeoenmaa.Dv
