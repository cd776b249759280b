import Derived.Test.YtnegigcjeoenmaaLBg
import Derived.Test.YtnegigcjeoenmaaRs2
namespace Go.Proofs.Ytnegigcjeoenmaa.Dv
open Go Go.RowKit
set_option linter.unusedVariables false
theorem rsubmit_any (v : Value) (D : Dev) (k b : Int) (u : Value) (l : By) (w : World) (h : DevIn w v D) (hB : Big D) (hu : IsBs w u l) (hl : l.length ≤ 1000) :
    Calls Try.prog 34 #[v, .int .i64 k, .int .i64 b, u] w (DvR3 (if sbE D k b l.length = 0 then sbD D k b l else zeroD) (if sbE D k b l.length = 0 then D.nxt else 0) (sbE D k b l.length) w) := by
  by_cases e : sbE D k b l.length = 0
  · rw [if_pos e, if_pos e, e]; exact rsubmit_ok v D k b u l w h hB hu hl e
  · rw [if_neg e, if_neg e]; exact rsubmit_err v D k b u l w h hB hu e
theorem big_sb {D : Dev} {k b : Int} {l : By} (hB : Big D) (hl : l.length ≤ 1000) : Big (if sbE D k b l.length = 0 then sbD D k b l else zeroD) := by
  by_cases e : sbE D k b l.length = 0
  · have e1 : chk D = 0 := by
      by_cases e1 : chk D = 0
      · exact e1
      · unfold sbE at e; rw [if_pos e1] at e; exact absurd e e1
    have S := sm_ok e1
    rw [if_pos e]
    refine ⟨hB.bl, hB.ca, ?_, hB.bb, hB.cb, fun q hq => ?_⟩
    · have := S.qu; simp [sbD]; omega
    · rcases List.mem_append.1 hq with h | h
      · exact hB.qb q h
      · rw [List.mem_singleton.1 h]; simp only; omega
  · rw [if_neg e]; exact ⟨by simp [zeroD], by simp [zeroD], by simp [zeroD], fun b hb => by simp [zeroD] at hb, fun b hb => by simp [zeroD] at hb, fun b hb => by simp [zeroD] at hb⟩
set_option maxHeartbeats 2000000 in
set_option maxRecDepth 100000 in
theorem law_submits (v : Value) (D : Dev) (i k b : Int) (x : Value) (l : By) (w : World) (h : DevIn w v D) (hB : Big D) (hx : IsBs w x l) (hl9 : l.length ≤ 9223372036854775807) :
    Calls Try.prog 10 #[v, .agg #[.int .i64 i, .int .i64 k, .int .i64 b, x]] w fun e w' => e = .returned (.bool true) ∧ Below w.heap.size w w' := by
  obtain ⟨A, c, rfl, hc, hul⟩ := hx
  obtain ⟨Ab, cb, Ac, cc, Aq, cq, rfl, h1, h2, h3, rb, rc, rq⟩ := h
  obtain ⟨W0, hW0⟩ : ∃ W0, W0 = (w.alloc (.cells #[.int .i64 D.dep, .int .i64 D.nxt, .slice Ab D.bl.length cb, .slice Ac D.ca.length cc, .slice Aq D.qu.length cq] 28)).alloc (.cells #[.int .i64 i, .int .i64 k, .int .i64 b, .slice A l.length c] 39) := ⟨_, rfl⟩
  have K0 := hide (show Below w.heap.size w W0 by rw [hW0]; exact bal (bal (brefl w) _) _)
  have X := hide (show Box W0 w.heap.size 28 #[.int .i64 D.dep, .int .i64 D.nxt, .slice Ab D.bl.length cb, .slice Ac D.ca.length cc, .slice Aq D.qu.length cq] by rw [hW0]; exact (Box.new w 28 _).more _)
  have Y := hide (show Box W0 (w.heap.size + 1) 39 #[.int .i64 i, .int .i64 k, .int .i64 b, .slice A l.length c] by rw [hW0]; exact Box.new2 _ _ _ _)
  have IN := hide (show DevIn w (.agg #[.int .i64 D.dep, .int .i64 D.nxt, .slice Ab D.bl.length cb, .slice Ac D.ca.length cc, .slice Aq D.qu.length cq]) D from ⟨Ab, cb, Ac, cc, Aq, cq, rfl, h1, h2, h3, rb, rc, rq⟩)
  have IU := hide (show IsBs w (.slice A l.length c) l from ⟨A, c, rfl, hc, hul⟩)
  have HW := hide hW0
  clear rb rc rq hW0 h1 h2 h3 hul hc
  have AW := hide (fun W => awake_any W)
  have IW := fun W (hb : Below W0.heap.size W0 W) => IN.out.below (btrans K0.out hb)
  have FE := hide (fun W (hb : Below W0.heap.size W0 W) => few_any _ D W (IW W hb) hB)
  have S1 := hide (fun W (hb : Below W0.heap.size W0 W) => submit_any _ D k b _ l W (IW W hb) hB (IU.out.below (btrans K0.out hb)))
  have S2 := hide (fun W (hb : Below W0.heap.size W0 W) (hl : l.length ≤ 1000) => rsubmit_any _ D k b _ l W (IW W hb) hB (IU.out.below (btrans K0.out hb)) hl)
  have BG := hide (fun (hl : l.length ≤ 1000) => big_sb (D := D) (k := k) (b := b) (l := l) hB hl)
  unfold FewR at FE
  unfold DvR3 at S1 S2
  have CE := hide (fun (W : World) (h : Below W0.heap.size W0 W) => box5_cells (W' := W) (X.out.below h))
  have CQ := hide (fun (W : World) (h : Below W0.heap.size W0 W) => box4_cells (Y.out.below h))
  clear IW IN IU
  generalize (if sbE D k b l.length = 0 then sbD D k b l else zeroD) = F at *
  generalize (if sbE D k b l.length = 0 then D.nxt else 0) = id at *
  generalize sbE D k b l.length = er at *
  generalize D.dep = dep at *
  generalize D.nxt = nxt at *
  go_enter Try.func10, Try.ntmps10
  go_wp2_with fail
  rw [← HW.out]
  refine (AW.out W0).mono ?_
  rintro e w1 ⟨rfl, hb1⟩
  obtain ⟨x0, x1, x2, x3, x4⟩ := CE.out _ hb1
  go_wp2_with fail
  refine (FE.out _ hb1).mono ?_
  rintro e w2 ⟨q, rfl, hf, hb2⟩
  have K2 := hide (btrans hb1 hb2)
  clear hf hb1 hb2 FE x0 x1 x2 x3 x4
  cases q
  · go_wp2_with fail
    refine (AW.out w2).mono ?_
    rintro e w9 ⟨rfl, hb9⟩
    go_wp2_with fail
    go_ret
    exact ⟨rfl, btrans K0.out (btrans K2.out hb9)⟩
  obtain ⟨y0, y1, y2, y3⟩ := CQ.out _ K2.out
  by_cases hL : 100 < l.length
  · have hd : decide ((100 : Int) < (l.length : Int)) = true := decide_eq_true (by omega)
    go_wp2_with fail
    refine (AW.out w2).mono ?_
    rintro e w9 ⟨rfl, hb9⟩
    go_wp2_with fail
    go_ret
    exact ⟨rfl, btrans K0.out (btrans K2.out hb9)⟩
  have hd : decide ((100 : Int) < (l.length : Int)) = false := decide_eq_false (by omega)
  have hl : l.length ≤ 1000 := by omega
  obtain ⟨x0, x1, x2, x3, x4⟩ := CE.out _ K2.out
  go_wp2_with fail
  refine (S1.out w2 K2.out).mono ?_
  rintro e w3 ⟨v1, rfl, ho1, hb3⟩
  obtain ⟨vb, vc, vq, rfl, ob, oc, oq⟩ := ho1
  obtain ⟨E1, g1, rfl, _⟩ := ob.form
  obtain ⟨E2, g2, rfl, _⟩ := oc.form
  obtain ⟨E3, g3, rfl, _⟩ := oq.form
  have M3 := bal (brefl w3) (.cells #[.int .i64 F.dep, .int .i64 F.nxt, .slice E1 F.bl.length g1, .slice E2 F.ca.length g2, .slice E3 F.qu.length g3] 28)
  have IN1 := hide ((DevOwn.is (B := w2.heap.size) (w := w3) (D := F) ⟨_, _, _, rfl, ob, oc, oq⟩).below M3)
  have B1 := hide (Box.new w3 28 #[.int .i64 F.dep, .int .i64 F.nxt, .slice E1 F.bl.length g1, .slice E2 F.ca.length g2, .slice E3 F.qu.length g3])
  have K3 := hide (bal (btrans K2.out hb3) (.cells #[.int .i64 F.dep, .int .i64 F.nxt, .slice E1 F.bl.length g1, .slice E2 F.ca.length g2, .slice E3 F.qu.length g3] 28))
  clear ob oc oq hb3 M3 x0 x1 x2 x3 x4 y0 y1 y2 y3
  go_upto_region 4 with fail
  obtain ⟨g, hg⟩ : ∃ g, g = w3.heap.size := ⟨_, rfl⟩
  rw [← hg] at B1 ⊢
  generalize w3.alloc (.cells #[.int .i64 F.dep, .int .i64 F.nxt, .slice E1 F.bl.length g1, .slice E2 F.ca.length g2, .slice E3 F.qu.length g3] 28) = w4 at *
  clear hg S1
  obtain ⟨x0, x1, x2, x3, x4⟩ := CE.out _ K3.out
  obtain ⟨y0, y1, y2, y3⟩ := CQ.out _ K3.out
  go_wp2_with fail
  refine (S2.out w4 K3.out hl).mono ?_
  rintro e w5 ⟨v1, rfl, ho1, hb3⟩
  obtain ⟨vb, vc, vq, rfl, ob, oc, oq⟩ := ho1
  obtain ⟨F1, f1, rfl, _⟩ := ob.form
  obtain ⟨F2, f2, rfl, _⟩ := oc.form
  obtain ⟨F3, f3, rfl, _⟩ := oq.form
  have M3 := bal hb3 (.cells #[.int .i64 F.dep, .int .i64 F.nxt, .slice F1 F.bl.length f1, .slice F2 F.ca.length f2, .slice F3 F.qu.length f3] 28)
  have IN2 := hide ((DevOwn.is (B := w4.heap.size) (w := w5) (D := F) ⟨_, _, _, rfl, ob, oc, oq⟩).below (bal (brefl w5) (.cells #[.int .i64 F.dep, .int .i64 F.nxt, .slice F1 F.bl.length f1, .slice F2 F.ca.length f2, .slice F3 F.qu.length f3] 28)))
  replace IN1 := hide (IN1.out.below M3)
  have B2 := hide (Box.new w5 28 #[.int .i64 F.dep, .int .i64 F.nxt, .slice F1 F.bl.length f1, .slice F2 F.ca.length f2, .slice F3 F.qu.length f3])
  replace B1 := hide (B1.out.below M3)
  have K5 := hide (btrans K3.out M3)
  clear ob oc oq hb3 M3 x0 x1 x2 x3 x4 y0 y1 y2 y3
  go_upto_region 5 with fail
  obtain ⟨h, hh⟩ : ∃ h, h = w5.heap.size := ⟨_, rfl⟩
  rw [← hh] at B2 ⊢
  generalize w5.alloc (.cells #[.int .i64 F.dep, .int .i64 F.nxt, .slice F1 F.bl.length f1, .slice F2 F.ca.length f2, .slice F3 F.qu.length f3] 28) = w6 at *
  clear hh S2
  obtain ⟨x0, x1, x2, x3, x4⟩ := box5_cells (W' := w) B1.out
  obtain ⟨y0, y1, y2, y3, y4⟩ := box5_cells (W' := w) B2.out
  have SD := hide (same_dev _ _ F w6 IN1.out IN2.out (BG.out hl))
  go_wp2_with fail
  refine SD.out.mono ?_
  rintro e w7 ⟨rfl, hb7⟩
  go_wp2_with fail
  go_ret
  exact ⟨rfl, btrans K0.out (btrans K5.out hb7)⟩
end Go.Proofs.Ytnegigcjeoenmaa.Dv
