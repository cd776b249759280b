import Derived.Test.YtimclgmajhhheaaM
import Derived.Test.YtimclgmajhhheaaMem
namespace Go.Proofs.Ytimclgmajhhheaa.Rg
open Go Go.RowKit Ac
set_option linter.unusedVariables false
set_option linter.unusedSimpArgs false
/-- a region as a value -/
def rV (r : R6) : Value := .agg #[.int .i64 r.st, .int .i64 r.pg, .int .i64 r.pr, .int .i64 r.fl, .int .i64 r.fi, .int .i64 r.ix]
def rC (r : R6) : Array Value := #[.int .i64 r.st, .int .i64 r.pg, .int .i64 r.pr, .int .i64 r.fl, .int .i64 r.fi, .int .i64 r.ix]
/-- a box with a region -/
def RB (w : World) (g : Nat) (r : R6) : Prop := Box w g 58 (rC r)
theorem RB.cells {w : World} {g : Nat} {st pg pr fl fi ix : Int} (h : RB w g ⟨st, pg, pr, fl, fi, ix⟩) : w.cell? ⟨g, 0, none⟩ = some (.int .i64 st) ∧ w.cell? ⟨g, 1, none⟩ = some (.int .i64 pg) ∧ w.cell? ⟨g, 2, none⟩ = some (.int .i64 pr) ∧ w.cell? ⟨g, 3, none⟩ = some (.int .i64 fl) ∧ w.cell? ⟨g, 4, none⟩ = some (.int .i64 fi) ∧ w.cell? ⟨g, 5, none⟩ = some (.int .i64 ix) :=
  ⟨Box.cell h 0, Box.cell h 1, Box.cell h 2, Box.cell h 3, Box.cell h 4, Box.cell h 5⟩
theorem RB.free {w : World} {g : Nat} {r : R6} (h : RB w g r) : w.frozen? ⟨g, 0, none⟩ = false ∧ w.frozen? ⟨g, 1, none⟩ = false ∧ w.frozen? ⟨g, 2, none⟩ = false ∧ w.frozen? ⟨g, 3, none⟩ = false ∧ w.frozen? ⟨g, 4, none⟩ = false ∧ w.frozen? ⟨g, 5, none⟩ = false :=
  ⟨Box.frozen h 0, Box.frozen h 1, Box.frozen h 2, Box.frozen h 3, Box.frozen h 4, Box.frozen h 5⟩
theorem RB.new (w : World) (st pg pr fl fi ix : Int) : RB (w.alloc (.cells #[.int .i64 st, .int .i64 pg, .int .i64 pr, .int .i64 fl, .int .i64 fi, .int .i64 ix] 58)) w.heap.size ⟨st, pg, pr, fl, fi, ix⟩ := Box.new w 58 _
theorem RB.below {w w' : World} {g : Nat} {r : R6} (h : RB w g r) (hb : Below w.heap.size w w') : RB w' g r := Box.below h hb
theorem RB.lt {w : World} {g : Nat} {r : R6} (h : RB w g r) : g < w.heap.size := Box.lt h
/-- a function of a region that answers a truth -/
def FB (f : Nat) (b : R6 → Bool) : Prop := ∀ (st pg pr fl fi ix : Int) (w : World), pg ≤ 9223372036854775807 → Calls Try.prog f #[.agg #[.int .i64 st, .int .i64 pg, .int .i64 pr, .int .i64 fl, .int .i64 fi, .int .i64 ix]] w fun e w' => e = .returned (.bool (b ⟨st, pg, pr, fl, fi, ix⟩)) ∧ Below w.heap.size w w'
def FI (f : Nat) (b : R6 → Int) : Prop := ∀ (st pg pr fl fi ix : Int) (w : World), pg ≤ 9223372036854775807 → Calls Try.prog f #[.agg #[.int .i64 st, .int .i64 pg, .int .i64 pr, .int .i64 fl, .int .i64 fi, .int .i64 ix]] w fun e w' => e = .returned (.int .i64 (b ⟨st, pg, pr, fl, fi, ix⟩)) ∧ Below w.heap.size w w'
def anB (r : R6) : Bool := decide (r.fi = -1)
theorem anon_any : FB 93 anB := by
  intro st pg pr fl fi ix w hp
  have K := hide (bal (brefl w) (.cells #[.int .i64 st, .int .i64 pg, .int .i64 pr, .int .i64 fl, .int .i64 fi, .int .i64 ix] 58))
  unfold anB
  dsimp only
  by_cases h : fi = -1
  · rw [decide_eq_true h]
    subst h
    go_enter Try.func93, Try.ntmps93
    go_wp2
    go_ret
    exact ⟨rfl, K.out⟩
  · rw [decide_eq_false h]
    have hb : (fi == -1) = false := beq_eq_false_iff_ne.2 h
    go_enter Try.func93, Try.ntmps93
    go_wp2
    go_ret
    exact ⟨rfl, K.out⟩
def mnB (r : R6) : Bool := decide (mean r)
set_option maxHeartbeats 2000000 in
theorem mean_any : FB 89 mnB := by
  intro st pg pr fl fi ix w hp
  have K := hide (bal (brefl w) (.cells #[.int .i64 st, .int .i64 pg, .int .i64 pr, .int .i64 fl, .int .i64 fi, .int .i64 ix] 58))
  unfold mnB
  by_cases h1 : pg < 1
  · rw [decide_eq_false (show ¬ mean ⟨st, pg, pr, fl, fi, ix⟩ from fun h => by unfold mean at h; dsimp only at h; omega)]
    go_enter Try.func89, Try.ntmps89
    go_wp2
    go_ret
    exact ⟨rfl, K.out⟩
  by_cases h2 : fl < 0
  · rw [decide_eq_false (show ¬ mean ⟨st, pg, pr, fl, fi, ix⟩ from fun h => by unfold mean at h; dsimp only at h; omega)]
    go_enter Try.func89, Try.ntmps89
    go_wp2
    go_ret
    exact ⟨rfl, K.out⟩
  by_cases h3 : 15 < fl
  · rw [decide_eq_false (show ¬ mean ⟨st, pg, pr, fl, fi, ix⟩ from fun h => by unfold mean at h; dsimp only at h; omega)]
    go_enter Try.func89, Try.ntmps89
    go_wp2
    go_ret
    exact ⟨rfl, K.out⟩
  by_cases h4 : fi < -1
  · rw [decide_eq_false (show ¬ mean ⟨st, pg, pr, fl, fi, ix⟩ from fun h => by unfold mean at h; dsimp only at h; omega)]
    go_enter Try.func89, Try.ntmps89
    go_wp2
    go_ret
    exact ⟨rfl, K.out⟩
  by_cases h5 : 4 ≤ fi
  · rw [decide_eq_false (show ¬ mean ⟨st, pg, pr, fl, fi, ix⟩ from fun h => by unfold mean at h; dsimp only at h; omega)]
    go_enter Try.func89, Try.ntmps89
    go_wp2
    go_ret
    exact ⟨rfl, K.out⟩
  by_cases h6 : pr = 1 ∨ pr = 3
  rotate_left 1
  · rw [decide_eq_false (show ¬ mean ⟨st, pg, pr, fl, fi, ix⟩ from fun h => by unfold mean at h; dsimp only at h; omega)]
    have h7 : (pr != 1) = true := bne_iff_ne.2 (by omega)
    have h8 : (pr != 3) = true := bne_iff_ne.2 (by omega)
    clear h6
    go_enter Try.func89, Try.ntmps89
    go_wp2
    go_ret
    exact ⟨rfl, K.out⟩
  have AN := anon_any st pg pr fl fi ix (w.alloc (.cells #[.int .i64 st, .int .i64 pg, .int .i64 pr, .int .i64 fl, .int .i64 fi, .int .i64 ix] 58)) hp
  unfold anB at AN
  dsimp only at AN
  have HA : Hid (fi = -1 → decide (mean ⟨st, pg, pr, fl, fi, ix⟩) = (fl % 2 == 0)) := hide (fun e => by rw [Bool.eq_iff_iff, decide_eq_true_iff, beq_iff_eq]; unfold mean; dsimp only; omega)
  have HN : Hid (fi ≠ -1 → decide (mean ⟨st, pg, pr, fl, fi, ix⟩) = (2 * (fl / 2 % 2) + 8 * (fl / 8 % 2) == 0)) := hide (fun e => by rw [Bool.eq_iff_iff, decide_eq_true_iff, beq_iff_eq]; unfold mean; dsimp only; omega)
  generalize decide (mean ⟨st, pg, pr, fl, fi, ix⟩) = D at *
  have b1 := and1_of (f := fl) (by omega) (by omega)
  have b10 := and10_of (f := fl) (by omega) (by omega)
  rcases h6 with rfl | rfl
  · by_cases h9 : fi = -1
    · have E := hide (HA.out h9)
      rw [decide_eq_true h9] at AN
      subst h9
      replace AN := hide AN
      clear HA HN
      go_enter Try.func89, Try.ntmps89
      go_wp2_with fail
      refine AN.out.mono ?_
      rintro e w' ⟨rfl, hb⟩
      have K2 := hide (btrans K.out hb)
      have X := hide ((RB.new w st pg 1 fl (-1) ix).below hb)
      obtain ⟨x0, x1, x2, x3, x4, x5⟩ := X.out.cells
      clear hb
      go_wp2
      go_ret
      exact ⟨ret_bool (by rw [E.out]), K2.out⟩
    · have E := hide (HN.out h9)
      rw [decide_eq_false h9] at AN
      replace AN := hide AN
      clear HA HN h9
      go_enter Try.func89, Try.ntmps89
      go_wp2_with fail
      refine AN.out.mono ?_
      rintro e w' ⟨rfl, hb⟩
      have K2 := hide (btrans K.out hb)
      have X := hide ((RB.new w st pg 1 fl fi ix).below hb)
      obtain ⟨x0, x1, x2, x3, x4, x5⟩ := X.out.cells
      clear hb
      go_wp2
      go_ret
      exact ⟨ret_bool (by rw [E.out]), K2.out⟩
  · by_cases h9 : fi = -1
    · have E := hide (HA.out h9)
      rw [decide_eq_true h9] at AN
      subst h9
      replace AN := hide AN
      clear HA HN
      go_enter Try.func89, Try.ntmps89
      go_wp2_with fail
      refine AN.out.mono ?_
      rintro e w' ⟨rfl, hb⟩
      have K2 := hide (btrans K.out hb)
      have X := hide ((RB.new w st pg 3 fl (-1) ix).below hb)
      obtain ⟨x0, x1, x2, x3, x4, x5⟩ := X.out.cells
      clear hb
      go_wp2
      go_ret
      exact ⟨ret_bool (by rw [E.out]), K2.out⟩
    · have E := hide (HN.out h9)
      rw [decide_eq_false h9] at AN
      replace AN := hide AN
      clear HA HN h9
      go_enter Try.func89, Try.ntmps89
      go_wp2_with fail
      refine AN.out.mono ?_
      rintro e w' ⟨rfl, hb⟩
      have K2 := hide (btrans K.out hb)
      have X := hide ((RB.new w st pg 3 fl fi ix).below hb)
      obtain ⟨x0, x1, x2, x3, x4, x5⟩ := X.out.cells
      clear hb
      go_wp2
      go_ret
      exact ⟨ret_bool (by rw [E.out]), K2.out⟩
end Go.Proofs.Ytimclgmajhhheaa.Rg
