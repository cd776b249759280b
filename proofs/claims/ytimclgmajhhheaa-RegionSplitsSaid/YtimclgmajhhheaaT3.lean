import Derived.Test.YtimclgmajhhheaaT2
namespace Go.Proofs.Ytimclgmajhhheaa.Rg
open Go Go.RowKit Ac
set_option linter.unusedVariables false
set_option linter.unusedSimpArgs false
theorem ret_r1 {fn : Func} {a : Act} {W : World} {g : Nat} {st pg pr fl fi ix : Int} {Q : Ending → World → Prop} (hr : fn.results = #[.cell 4 58]) (h4 : a.tmps.getD 4 undef = .pointer (some ⟨g, 0, none⟩)) (hd : a.defers = [])
    (hE : RB W g ⟨st, pg, pr, fl, fi, ix⟩) (hq : Q (.returned (.agg #[.int .i64 st, .int .i64 pg, .int .i64 pr, .int .i64 fl, .int .i64 fi, .int .i64 ix])) W) : bodyPost Try.prog fn Q .ret a W := by
  obtain ⟨x0, x1, x2, x3, x4, x5⟩ := hE.cells
  simp only [Array.getD_eq_getD_getElem?] at h4
  exact bodyPost_ret (v := .agg #[.int .i64 st, .int .i64 pg, .int .i64 pr, .int .i64 fl, .int .i64 fi, .int .i64 ix]) (by simp [results, hr, h4, go_sem, x0, x1, x2, x3, x4, x5]) hd hq
theorem bal2 (w : World) (o1 o2 : Obj) : Below w.heap.size w ((w.alloc o1).alloc o2) := bal (bal (brefl w) o1) o2
theorem RB.put6 {w : World} {g : Nat} {r : R6} {st pg pr fl fi ix : Int} (h : RB w g r) :
    RB ((((((w.setCell ⟨g, 0, none⟩ (.int .i64 st)).setCell ⟨g, 1, none⟩ (.int .i64 pg)).setCell ⟨g, 2, none⟩ (.int .i64 pr)).setCell ⟨g, 3, none⟩ (.int .i64 fl)).setCell ⟨g, 4, none⟩ (.int .i64 fi)).setCell ⟨g, 5, none⟩ (.int .i64 ix)) g ⟨st, pg, pr, fl, fi, ix⟩ := by
  unfold RB Box rC at h ⊢
  simp [World.setCell, Array.getElem?_modify, h]
theorem bset6 {a w : World} {g : Nat} {v0 v1 v2 v3 v4 v5 : Value} (h : Below a.heap.size a w) (hg : a.heap.size ≤ g) : Below a.heap.size a ((((((w.setCell ⟨g, 0, none⟩ v0).setCell ⟨g, 1, none⟩ v1).setCell ⟨g, 2, none⟩ v2).setCell ⟨g, 3, none⟩ v3).setCell ⟨g, 4, none⟩ v4).setCell ⟨g, 5, none⟩ v5) :=
  bset (bset (bset (bset (bset (bset h hg _) hg _) hg _) hg _) hg _) hg _
theorem low_any (st pg pr fl fi ix p : Int) (w : World) (h0 : 0 ≤ st) (h1 : st < p) (h2 : p < st + pg) (h3 : st + pg ≤ 512) : Calls Try.prog 96 #[.agg #[.int .i64 st, .int .i64 pg, .int .i64 pr, .int .i64 fl, .int .i64 fi, .int .i64 ix], .int .i64 p] w fun e w' => e = .returned (.agg #[.int .i64 st, .int .i64 (p - st), .int .i64 pr, .int .i64 fl, .int .i64 fi, .int .i64 ix]) ∧ Below w.heap.size w w' := by
  go_enter Try.func96, Try.ntmps96
  go_wp2
  exact ret_r1 rfl rfl rfl (Box.new2 w _ 58 _) ⟨rfl, bal2 _ _ _⟩
set_option maxHeartbeats 2000000 in
theorem upp_any (st pg pr fl fi ix p : Int) (w : World) (hk : Ok ⟨st, pg, pr, fl, fi, ix⟩) (h1 : st ≤ p) (h2 : p ≤ st + pg) : Calls Try.prog 94 #[.agg #[.int .i64 st, .int .i64 pg, .int .i64 pr, .int .i64 fl, .int .i64 fi, .int .i64 ix], .int .i64 p] w fun e w' => e = .returned (.agg #[.int .i64 p, .int .i64 (pg - (p - st)), .int .i64 pr, .int .i64 (nog fl), .int .i64 fi, .int .i64 (if fi = -1 then ix else ix + (p - st))]) ∧ Below w.heap.size w w' := by
  have o2 := hk.2.1
  have o3 := hk.2.2.1
  have o4 := hk.2.2.2.2
  have b2 := not2_of hk.1.2.1 hk.1.2.2.1
  dsimp only at o2 o3 o4 b2
  have hpg : pg - (p - st) ≤ 9223372036854775807 := by omega
  have AN := hide (fun w => anon_any p (pg - (p - st)) pr (nog fl) fi ix w hpg)
  unfold anB at AN
  dsimp only at AN
  have X := hide (Box.more (Box.new w 58 #[.int .i64 p, .int .i64 (pg - (p - st)), .int .i64 pr, .int .i64 (nog fl), .int .i64 fi, .int .i64 ix]) (.cells #[.int .i64 0, .int .i64 0, .int .i64 0, .int .i64 0, .int .i64 0, .int .i64 0] 58))
  have Y := hide (Box.new2 w (.cells #[.int .i64 p, .int .i64 (pg - (p - st)), .int .i64 pr, .int .i64 (nog fl), .int .i64 fi, .int .i64 ix] 58) 58 #[.int .i64 0, .int .i64 0, .int .i64 0, .int .i64 0, .int .i64 0, .int .i64 0])
  have K := hide (bal2 w (.cells #[.int .i64 p, .int .i64 (pg - (p - st)), .int .i64 pr, .int .i64 (nog fl), .int .i64 fi, .int .i64 ix] 58) (.cells #[.int .i64 0, .int .i64 0, .int .i64 0, .int .i64 0, .int .i64 0, .int .i64 0] 58))
  clear hk
  by_cases h4 : fi = -1
  · rw [if_pos h4]
    subst h4
    rw [decide_eq_true rfl] at AN
    replace AN := hide AN.out
    go_enter Try.func94, Try.ntmps94
    go_wp2_with fail
    refine (AN.out _).mono ?_
    rintro e w2 ⟨rfl, hb⟩
    replace K := hide (btrans K.out hb)
    replace X : Hid (RB w2 w.heap.size ⟨p, pg - (p - st), pr, nog fl, -1, ix⟩) := hide (Box.below X.out hb)
    replace Y : Hid (RB w2 (w.heap.size + 1) r0) := hide (Box.below Y.out hb)
    clear hb
    obtain ⟨x0, x1, x2, x3, x4, x5⟩ := X.out.cells
    obtain ⟨q0, q1, q2, q3, q4, q5⟩ := X.out.free
    obtain ⟨f0, f1, f2, f3, f4, f5⟩ := Y.out.free
    obtain ⟨y0, y1, y2, y3, y4, y5⟩ := RB.cells (st := 0) (pg := 0) (pr := 0) (fl := 0) (fi := 0) (ix := 0) Y.out
    go_wp2
    exact ret_r1 rfl rfl rfl (RB.put6 Y.out) ⟨rfl, bset6 K.out (Nat.le_succ _)⟩
  · rw [if_neg h4]
    rw [decide_eq_false h4] at AN
    have o5 := o4 h4
    clear o4
    clear h4
    go_enter Try.func94, Try.ntmps94
    go_wp2_with fail
    refine (AN.out _).mono ?_
    rintro e w2 ⟨rfl, hb⟩
    replace K := hide (btrans K.out hb)
    replace X : Hid (RB w2 w.heap.size ⟨p, pg - (p - st), pr, nog fl, fi, ix⟩) := hide (Box.below X.out hb)
    replace Y : Hid (RB w2 (w.heap.size + 1) r0) := hide (Box.below Y.out hb)
    clear hb
    obtain ⟨x0, x1, x2, x3, x4, x5⟩ := X.out.cells
    obtain ⟨q0, q1, q2, q3, q4, q5⟩ := X.out.free
    obtain ⟨f0, f1, f2, f3, f4, f5⟩ := Y.out.free
    obtain ⟨y0, y1, y2, y3, y4, y5⟩ := RB.cells (st := 0) (pg := 0) (pr := 0) (fl := 0) (fi := 0) (ix := 0) Y.out
    go_wp2
    exact ret_r1 rfl rfl rfl (RB.put6 (Box.far Y.out (Nat.succ_ne_self _) _)) ⟨rfl, bset6 (bset K.out (Nat.le_refl _) _) (Nat.le_succ _)⟩
end Go.Proofs.Ytimclgmajhhheaa.Rg
