import Derived.Test.YtdpdlbonlpdkjaaDoorRun
namespace Go.Proofs.YtdpdlbonlpdkjaaDoor.Bs
open Go Go.RowKit
set_option linter.unusedVariables false
theorem lt0 : ∀ x ∈ [0, 0], x < 2 ^ 64 := by decide
theorem lt2 : ∀ x ∈ [0, 2], x < 2 ^ 64 := by decide
theorem far2 (a b i : Nat) (h : 128 ≤ i) : bitAt [a, b] i = false := bitAt_far _ _ (by simpa using h)
theorem dec65 : ∀ i, i < 128 → bitAt [0, 2] i = decide (i = 65) ∧ bitAt [0, 0] i = false := by decide +kernel
theorem bit0 (i : Nat) : bitAt [0, 0] i = false := by
  by_cases h : i < 128
  · exact (dec65 i h).2
  · exact far2 _ _ _ (by omega)
theorem bit2 (i : Nat) : bitAt [0, 2] i = decide (i = 65) := by
  by_cases h : i < 128
  · exact (dec65 i h).1
  · rw [far2 _ _ _ (by omega), decide_eq_false (by omega)]
theorem fill65 : filled [0, 0] [0, 2] 65 66 true := ⟨rfl, lt2, fun i => by
  rw [bit2, bit0]
  by_cases h : i = 65
  · rw [if_pos (by omega), decide_eq_true h]
  · rw [if_neg (by omega), decide_eq_false h]⟩
theorem find65 : FindIs [0, 2] 70 0 true 65 := .inr ⟨65, rfl, by omega, by omega, by rw [bit2]; rfl, fun i _ h => by rw [bit2, decide_eq_false (by omega)]; simp⟩
theorem run0 : RunIs [0, 0] 70 5 3 false 0 := .inr ⟨0, rfl, by omega, by omega, fun i _ _ => bit0 i, fun p hp => by omega⟩
theorem chk0 : chk 70 [0, 0] = 0 := by decide +kernel
theorem chk2 : chk 70 [0, 2] = 0 := by decide +kernel
theorem aw_new (w : World) : Calls Tryd.prog 12 #[.int .i64 70] w fun e w' => ∃ A, e = .returned (.tuple #[.agg #[.int .i64 70, .slice A 2 2], .int .i64 0]) ∧ Wd w' A [0, 0] ∧ Below w.heap.size w w' :=
  new_good 70 2 w (by omega) (by omega) (by omega)
theorem aw_check (A : Option Addr) (c : Nat) (w : World) (hr : Wd w A [0, 0]) : Calls Tryd.prog 14 #[.agg #[.int .i64 70, .slice A 2 c]] w fun e w' => e = .returned (.int .i64 0) ∧ Below w.heap.size w w' := by
  have h := check_any 70 A [0, 0] c w hr lt0 (by decide)
  rw [chk0] at h
  exact h
theorem aw_set (A : Option Addr) (c : Nat) (w : World) (hr : Wd w A [0, 0]) : Calls Tryd.prog 17 #[.agg #[.int .i64 70, .slice A 2 c], .int .i64 65, .bool true] w fun e w' => ∃ g c', e = .returned (.tuple #[.agg #[.int .i64 70, .slice (some ⟨g, 0, none⟩) 2 c'], .int .i64 0]) ∧ Own w' g [0, 2] ∧ Below w.heap.size w w' :=
  (set_good 70 65 A [0, 0] c true w hr lt0 chk0 (by omega)).mono fun e w' ⟨A', c', zs, he, hf, hm, hb⟩ => by
    obtain rfl := filled_one hf fill65
    obtain ⟨g, rfl, _, ho⟩ := hm (by simp)
    exact ⟨g, c', he, ho, hb⟩
theorem aw_find (g c : Nat) (w : World) (ht : Tab w) (ho : Own w g [0, 2]) : Calls Tryd.prog 23 #[.agg #[.int .i64 70, .slice (some ⟨g, 0, none⟩) 2 c], .int .i64 0, .bool true] w fun e w' => e = .returned (.int .i64 65) ∧ Below w.heap.size w w' :=
  (find_in 70 0 _ [0, 2] c true w ht ho.wd lt2 chk2 (by omega)).mono fun e w' ⟨r, he, hf, hb⟩ => by
    obtain rfl := hf.one find65
    exact ⟨he, hb⟩
theorem aw_count (g c : Nat) (w : World) (ho : Own w g [0, 2]) : Calls Tryd.prog 26 #[.agg #[.int .i64 70, .slice (some ⟨g, 0, none⟩) 2 c], .int .i64 0, .int .i64 70] w fun e w' => e = .returned (.int .i64 1) ∧ Below w.heap.size w w' := by
  have h := count_good 70 0 70 _ [0, 2] c w ho.wd lt2 chk2 (by omega) (by omega)
  rw [show cnt [0, 2] 0 70 = 1 by decide +kernel] at h
  exact h
theorem aw_get (g c : Nat) (w : World) (ho : Own w g [0, 2]) : Calls Tryd.prog 19 #[.agg #[.int .i64 70, .slice (some ⟨g, 0, none⟩) 2 c], .int .i64 65] w fun e w' => e = .returned (.bool true) ∧ Below w.heap.size w w' := by
  have h := get_any 70 65 _ [0, 2] c w ho.wd lt2 (by decide)
  rw [show getB 70 [0, 2] 65 = true by decide +kernel] at h
  exact h
theorem aw_run (A : Option Addr) (c : Nat) (w : World) (hr : Wd w A [0, 0]) : Calls Tryd.prog 24 #[.agg #[.int .i64 70, .slice A 2 c], .int .i64 5, .int .i64 3, .bool false] w fun e w' => e = .returned (.int .i64 0) ∧ Below w.heap.size w w' :=
  (frun_good 70 5 3 A [0, 0] c false w hr lt0 chk0 (by omega) (by omega) (by omega) (by omega)).mono fun e w' ⟨r, he, hf, hb⟩ => by
    obtain rfl := hf.one run0
    exact ⟨he, hb⟩
theorem BoxIs.lt {w : World} {g : Nat} {s : Int} {v : Value} (h : BoxIs w g s v) : g < w.heap.size := by
  rcases Nat.lt_or_ge g w.heap.size with h1 | h1
  · exact h1
  · unfold BoxIs at h; rw [Array.getElem?_eq_none h1] at h; cases h
theorem BoxIs.below {w w' : World} {g : Nat} {s : Int} {v : Value} (h : BoxIs w g s v) (hb : Below w.heap.size w w') : BoxIs w' g s v := (hb.block g h.lt).trans h
theorem BoxIs.alloc {w : World} {g : Nat} {s : Int} {v : Value} (h : BoxIs w g s v) (o : Obj) : BoxIs (w.alloc o) g s v := h.below (bal (brefl _) _)
/-- What the example's walk knows of a world: the two boxes, the words, that nothing old has turned. -/
structure AwIn (w : World) (b c g : Nat) (A : Option Addr) (c3 : Nat) (wk : World) : Prop where
  old : Below w.heap.size w wk
  bb : BoxIs wk b 70 (.slice A 2 2)
  cc : BoxIs wk c 70 (.slice (some ⟨g, 0, none⟩) 2 c3)
  own : Own wk g [0, 2]
  wd : Wd wk A [0, 0]
theorem AwIn.next {w : World} {b c g : Nat} {A : Option Addr} {c3 : Nat} {wk wl : World} (h : AwIn w b c g A c3 wk) (hb : Below wk.heap.size wk wl) : AwIn w b c g A c3 wl :=
  ⟨btrans h.old hb, h.bb.below hb, h.cc.below hb, h.own.below hb h.own.lt, h.wd.below hb⟩
theorem awake (w : World) (ht : Tab w) : Calls Tryd.prog 11 #[] w fun e w' => e = .returned (.bool true) ∧ Below w.heap.size w w' := by
  have HT := hide ht
  clear ht
  go_enter Tryd.func11, Tryd.ntmps11
  go_wp2_with (first
    | (go_at_call 12; refine (aw_new _).mono ?_; rintro e w1 ⟨A, rfl, hr1, hb1⟩; have HR1 := hide hr1; have HB1 := hide hb1; clear hr1 hb1)
    | (go_at_call 14; refine (aw_check A 2 _ (HR1.out.below (bal (brefl _) _))).mono ?_; rintro e w2 ⟨rfl, hb2⟩; obtain ⟨hc2, hf2⟩ := bcell hb2; have HB2 := hide hb2; clear hb2)
    | (go_at_call 17; refine (aw_set A 2 _ (HR1.out.below (btrans (bal (brefl _) _) HB2.out))).mono ?_; rintro e w3 ⟨g, c3, rfl, ho3, hb3⟩; have hb3' := btrans HB2.out hb3; obtain ⟨hc3, hf3⟩ := bcell hb3'; have HB3 := hide hb3'; have HO3 := hide ho3; have e3 := (ho3.alloc (.cells #[.int .i64 70, .slice (some ⟨g, 0, none⟩) 2 c3] 24)).cell 1 2 rfl; clear hb3 hb3' ho3)
    | fail)
  have hin : AwIn w w1.heap.size w3.heap.size g A c3 (w3.alloc (.cells #[.int .i64 70, .slice (some ⟨g, 0, none⟩) 2 c3] 24)) :=
    ⟨bal (btrans (bal HB1.out (.cells #[.int .i64 70, .slice A 2 2] 24)) HB3.out) _, ((BoxIs.new w1 70 (.slice A 2 2)).below HB3.out).alloc _, BoxIs.new w3 70 _, HO3.out.alloc _, HR1.out.below (bal (btrans (bal (brefl _) (.cells #[.int .i64 70, .slice A 2 2] 24)) HB3.out) _)⟩
  have HI := hide hin
  clear hin HB1 HB2 HB3 HO3 HR1 hc2 hf2 hc3 hf3 e3
  refine (aw_find g c3 _ (HT.out.below HI.out.old) HI.out.own).mono ?_
  rintro e w4 ⟨rfl, hb4⟩
  have H4 := hide (HI.out.next hb4)
  have x0 := H4.out.cc.c0
  have x1 := H4.out.cc.c1
  clear hb4
  go_wp2_with fail
  refine (aw_count g c3 _ H4.out.own).mono ?_
  rintro e w5 ⟨rfl, hb5⟩
  have H5 := hide (H4.out.next hb5)
  have y0 := H5.out.cc.c0
  have y1 := H5.out.cc.c1
  clear hb5 x0 x1
  go_wp2_with fail
  refine (aw_get g c3 _ H5.out.own).mono ?_
  rintro e w6 ⟨rfl, hb6⟩
  have H6 := hide (H5.out.next hb6)
  have z0 := H6.out.bb.c0
  have z1 := H6.out.bb.c1
  clear hb6 y0 y1
  go_wp2_with fail
  refine (aw_run A 2 _ H6.out.wd).mono ?_
  rintro e w7 ⟨rfl, hb7⟩
  have H7 := hide (H6.out.next hb7)
  clear hb7 z0 z1
  go_wp2_with fail
  go_ret
  exact ⟨rfl, H7.out.old⟩
end Go.Proofs.YtdpdlbonlpdkjaaDoor.Bs
