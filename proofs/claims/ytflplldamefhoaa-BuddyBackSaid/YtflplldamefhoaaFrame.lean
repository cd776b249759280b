import Derived.Test.YtflplldamefhoaaCk4
import Derived.ProofKit
import Derived.OpenShut
import Derived.Deep.DeepHandedRow
import Derived.Deep.SlicePairs
import Derived.Lib.LaidTab
import Derived.Lib.SmallJoins
import Derived.Carry
namespace Go.Proofs.Ytflplldamefhoaa.Bd
open Go.ChangeShapes Go.WideShapes Go.ChangeAt Go.RowKit Go.Joins Go.Deep
set_option linter.unusedVariables false
theorem ownKnobNone : ownKnob Try.prog.godebug = none := by kernel_rfl
theorem laidOut : laidOutB Try.prog = true := by kernel_rfl
theorem cells3 : Try.prog.cellsOf 3 = 1 := by kernel_rfl
theorem cells22 : Try.prog.cellsOf 22 = 1 := by kernel_rfl
theorem cells23 : Try.prog.cellsOf 23 = 5 := by kernel_rfl
theorem cells25 : Try.prog.cellsOf 25 = 10 := by kernel_rfl
theorem add_at (b off k : Nat) : (⟨b, off, none⟩ : Addr).add k = ⟨b, off + k, none⟩ := by
  unfold Addr.add
  by_cases h : k = 0 <;> simp [h]
/-- where a cell can be read at an address, it is a plain one in an old block -/
theorem addr_plain {W : World} {a : Addr} {v : Value} (h : W.cell? (a.add 0) = some v) : ∃ b off, a = ⟨b, off, none⟩ ∧ b < W.heap.size := by
  obtain ⟨b, off, sp⟩ := a
  have hsp : sp = none := by
    cases sp with
    | none => rfl
    | some s =>
      exfalso
      simp only [World.cell?, Addr.add] at h
      split at h
      · simp at h
      · cases h
  subst hsp
  refine ⟨b, off, rfl, ?_⟩
  rcases Nat.lt_or_ge b W.heap.size with h1 | h1
  · exact h1
  · exfalso
    have h2 : W.heap[b]? = Option.none := Array.getElem?_eq_none h1
    rw [add_at] at h
    simp [World.cell?, h2] at h
theorem wf_i64 {x : Int} (h : (Lit.int .i64 x).wf = true) : i64r x := by
  unfold Lit.wf at h
  simp only [Bool.and_eq_true, decide_eq_true_eq, IntKind.min, IntKind.max, IntKind.signed, IntKind.bits] at h
  unfold i64r
  simp at h
  omega
section
variable {H : Type} {enc : TypeId × Value → H} {W : World} {base b0 : Nat} {v : Value} {d : DataW H} {p : List MemPlace}
theorem bi_in {n : Nat} {cs : List Value} {x : DataW H × List MemPlace} (h : DataW.trod enc Try.prog W b0 (fun _ => true) true n 22 cs = some x) :
    ∃ (u : Value) (l : Is), cs = [u] ∧ IsI W u l ∧ l.length ≤ 9223372036854775807 ∧ ∀ f ∈ l, i64r f := by
  rcases open_ints Try.underlying22 Try.underlying3 cells3 h with ⟨hcs, _⟩ | ⟨a, len, cap, zs, hcs, _, hl, hm, hz, _, hc, hw⟩
  · exact ⟨_, [], hcs, ⟨none, 0, rfl, Nat.le_refl _, fun h => absurd rfl h⟩, by simp, fun f hf => by cases hf⟩
  · simp only [if_true] at hz
    have hlen : (zs.take len).length = len := by rw [List.length_take]; omega
    refine ⟨_, zs.take len, hcs, ⟨some a, cap, by rw [hlen], by rw [hlen]; exact hl, fun hne => ?_⟩, by rw [hlen]; unfold maxLen at hm; omega, fun f hf => ?_⟩
    · have hp : 0 < len := by
        rcases Nat.eq_zero_or_pos len with e | e
        · exfalso; apply hne; rw [e]; rfl
        · exact e
      have g := hc 0 (by omega)
      obtain ⟨b, off, rfl, hb⟩ := addr_plain g
      refine ⟨b, off, rfl, hb, fun k hk => ?_⟩
      rw [hlen] at hk
      have := hc k (by omega)
      rw [add_at] at this
      rw [this, List.getD_eq_getElem?_getD, List.getD_eq_getElem?_getD, List.getElem?_take_of_lt hk]
    · have hf2 := List.mem_of_mem_take hf
      exact wf_i64 (hw f hf2)
theorem int_in {n : Nat} {c : Value} {x : DataW H × List MemPlace} (h : DataW.trod enc Try.prog W b0 (fun _ => true) true n 3 [c] = some x) : ∃ z, c = .int .i64 z ∧ i64r z := by
  obtain ⟨z, e, _, w⟩ := DataW.trod_int Try.underlying3 (show DataW.trod _ Try.prog W _ _ _ n 3 [c] = some x from h)
  simp only [List.cons.injEq, and_true] at e
  exact ⟨z, e, wf_i64 w⟩

set_option maxRecDepth 100000 in
theorem open_zone (hv : Value.okWide Try.prog W .any base 25 v) (h : DataW.Trod enc Try.prog W b0 (fun _ => true) true 25 v d p) :
    ∃ (q : Pm) (u : Nat → Value) (L : Fl), v = .agg (znC q u) ∧ Pr q ∧ RdZ W u L ∧ (∀ k, k < 5 → ∀ f ∈ L k, i64r f) ∧ ∀ k, k < 5 → (L k).length ≤ 9223372036854775807 := by
  obtain ⟨cs, rfl, hsz⟩ := okWide_struct Try.underlying25 hv
  obtain ⟨l⟩ := cs
  match l, hsz.trans cells25 with
  | [z0, z1, z2, z3, z4, s0, s1, s2, s3, s4], _ =>
    obtain ⟨fuel, hf⟩ := h
    obtain ⟨xs, m', _, _, _, hlen, hg⟩ := DataW.trod_struct Try.underlying25 hf
    have h6 : xs.length = 6 := hlen
    have g0 := hg 0 _ rfl
    have g1 := hg 1 _ rfl
    have g2 := hg 2 _ rfl
    have g3 := hg 3 _ rfl
    have g4 := hg 4 _ rfl
    have g5 := hg 5 _ rfl
    rw [List.getElem?_eq_getElem (show 0 < xs.length by omega)] at g0
    rw [List.getElem?_eq_getElem (show 1 < xs.length by omega)] at g1
    rw [List.getElem?_eq_getElem (show 2 < xs.length by omega)] at g2
    rw [List.getElem?_eq_getElem (show 3 < xs.length by omega)] at g3
    rw [List.getElem?_eq_getElem (show 4 < xs.length by omega)] at g4
    rw [List.getElem?_eq_getElem (show 5 < xs.length by omega)] at g5
    obtain ⟨a0, rfl, r0⟩ := int_in (show DataW.trod enc Try.prog W b0 (fun _ => true) true m' 3 [z0] = _ from g0)
    obtain ⟨a1, rfl, r1⟩ := int_in (show DataW.trod enc Try.prog W b0 (fun _ => true) true m' 3 [z1] = _ from g1)
    obtain ⟨a2, rfl, r2⟩ := int_in (show DataW.trod enc Try.prog W b0 (fun _ => true) true m' 3 [z2] = _ from g2)
    obtain ⟨a3, rfl, r3⟩ := int_in (show DataW.trod enc Try.prog W b0 (fun _ => true) true m' 3 [z3] = _ from g3)
    obtain ⟨a4, rfl, r4⟩ := int_in (show DataW.trod enc Try.prog W b0 (fun _ => true) true m' 3 [z4] = _ from g4)
    have g5' : DataW.trod enc Try.prog W b0 (fun _ => true) true m' 23 [s0, s1, s2, s3, s4] = _ := g5
    obtain ⟨ys, m2, _, hx, _, hlen2, hq⟩ := DataW.trod_array Try.underlying23 g5'
    match ys, hlen2 with
    | [y0, y1, y2, y3, y4], _ =>
      have q0 := hq 0 (by omega)
      have q1 := hq 1 (by omega)
      have q2 := hq 2 (by omega)
      have q3 := hq 3 (by omega)
      have q4 := hq 4 (by omega)
      simp only [cells22] at q0 q1 q2 q3 q4
      obtain ⟨u0, l0, e0, i0, n0, w0⟩ := bi_in (show DataW.trod enc Try.prog W b0 (fun _ => true) true m2 22 [s0] = some y0 by simpa using q0)
      obtain ⟨u1, l1, e1, i1, n1, w1⟩ := bi_in (show DataW.trod enc Try.prog W b0 (fun _ => true) true m2 22 [s1] = some y1 by simpa using q1)
      obtain ⟨u2, l2, e2, i2, n2, w2⟩ := bi_in (show DataW.trod enc Try.prog W b0 (fun _ => true) true m2 22 [s2] = some y2 by simpa using q2)
      obtain ⟨u3, l3, e3, i3, n3, w3⟩ := bi_in (show DataW.trod enc Try.prog W b0 (fun _ => true) true m2 22 [s3] = some y3 by simpa using q3)
      obtain ⟨u4, l4, e4, i4, n4, w4⟩ := bi_in (show DataW.trod enc Try.prog W b0 (fun _ => true) true m2 22 [s4] = some y4 by simpa using q4)
      simp only [List.cons.injEq, and_true] at e0 e1 e2 e3 e4
      subst e0 e1 e2 e3 e4
      refine ⟨⟨a0, a1, a2, a3, a4⟩, (fun | 0 => s0 | 1 => s1 | 2 => s2 | 3 => s3 | _ => s4), (fun | 0 => l0 | 1 => l1 | 2 => l2 | 3 => l3 | _ => l4), rfl, ⟨r0, r1, r2, r3, r4⟩, fun k hk => ?_, fun k hk => ?_, fun k hk => ?_⟩
      · rcases cases5 hk with rfl | rfl | rfl | rfl | rfl
        · exact i0
        · exact i1
        · exact i2
        · exact i3
        · exact i4
      · rcases cases5 hk with rfl | rfl | rfl | rfl | rfl
        · exact w0
        · exact w1
        · exact w2
        · exact w3
        · exact w4
      · rcases cases5 hk with rfl | rfl | rfl | rfl | rfl
        · exact n0
        · exact n1
        · exact n2
        · exact n3
        · exact n4
end
end Go.Proofs.Ytflplldamefhoaa.Bd
