import Derived.Test.YtiopfeleaifpbabW4
import Derived.ProofKit
import Derived.OpenShut
import Derived.Deep.DeepHandedRow
import Derived.Deep.SlicePairs
import Derived.Lib.LaidTab
import Derived.Lib.SmallJoins
import Derived.Carry
namespace Go.Proofs.Ytiopfeleaifpbab.Bd
open Go.ChangeShapes Go.WideShapes Go.ChangeAt Go.RowKit Go.Joins Go.Deep
set_option linter.unusedVariables false
theorem ownKnobNone : ownKnob Try.prog.godebug = none := by kernel_rfl
theorem laidOut : laidOutB Try.prog = true := by kernel_rfl
theorem cells3 : Try.prog.cellsOf 3 = 1 := by kernel_rfl
theorem cells5 : Try.prog.cellsOf 5 = 1 := by kernel_rfl
theorem cells33 : Try.prog.cellsOf 33 = 1 := by kernel_rfl
theorem cells23 : Try.prog.cellsOf 23 = 3 := by kernel_rfl
theorem cells29 : Try.prog.cellsOf 29 = 2 := by kernel_rfl
theorem cells38 : Try.prog.cellsOf 38 = 3 := by kernel_rfl
theorem add_at (b off k : Nat) : (⟨b, off, none⟩ : Addr).add k = ⟨b, off + k, none⟩ := by
  unfold Addr.add
  by_cases h : k = 0 <;> simp [h]
/-- where a cell can be read at an address, it is a plain one in an old block -/
theorem addr_plain {W : World} {a : Addr} {v : Value} (h : W.cell? (a.add 0) = some v) : ∃ b off, a = ⟨b, off, none⟩ ∧ b < W.heap.size := by
  obtain ⟨b, off, sp⟩ := a
  have hsp : sp = none := by
    cases sp with
    | none => rfl
    | some s =>
      exfalso
      simp only [World.cell?, Addr.add] at h
      split at h
      · simp at h
      · cases h
  subst hsp
  refine ⟨b, off, rfl, ?_⟩
  rcases Nat.lt_or_ge b W.heap.size with h1 | h1
  · exact h1
  · exfalso
    have h2 : W.heap[b]? = Option.none := Array.getElem?_eq_none h1
    rw [add_at] at h
    simp [World.cell?, h2] at h
theorem wf_i64 {x : Int} (h : (Lit.int .i64 x).wf = true) : i64r x := by
  unfold Lit.wf at h
  simp only [Bool.and_eq_true, decide_eq_true_eq, IntKind.min, IntKind.max, IntKind.signed, IntKind.bits] at h
  unfold i64r
  simp at h
  omega
section
variable {H : Type} {enc : TypeId × Value → H} {W : World} {base b0 : Nat} {v : Value} {d : DataW H} {p : List MemPlace}
theorem bi_in {n : Nat} {cs : List Value} {x : DataW H × List MemPlace} (h : DataW.trod enc Try.prog W b0 (fun _ => true) true n 33 cs = some x) :
    ∃ (u : Value) (l : Is), cs = [u] ∧ IsI W u l ∧ l.length ≤ 9223372036854775807 ∧ ∀ f ∈ l, i64r f := by
  rcases open_ints Try.underlying33 Try.underlying3 cells3 h with ⟨hcs, _⟩ | ⟨a, len, cap, zs, hcs, _, hl, hm, hz, _, hc, hw⟩
  · exact ⟨_, [], hcs, ⟨none, 0, rfl, Nat.le_refl _, fun h => absurd rfl h⟩, by simp, fun f hf => by cases hf⟩
  · simp only [if_true] at hz
    have hlen : (zs.take len).length = len := by rw [List.length_take]; omega
    refine ⟨_, zs.take len, hcs, ⟨some a, cap, by rw [hlen], by rw [hlen]; exact hl, fun hne => ?_⟩, by rw [hlen]; unfold maxLen at hm; omega, fun f hf => ?_⟩
    · have hp : 0 < len := by
        rcases Nat.eq_zero_or_pos len with e | e
        · exfalso; apply hne; rw [e]; rfl
        · exact e
      have g := hc 0 (by omega)
      obtain ⟨b, off, rfl, hb⟩ := addr_plain g
      refine ⟨b, off, rfl, hb, fun k hk => ?_⟩
      rw [hlen] at hk
      have := hc k (by omega)
      rw [add_at] at this
      rw [this, List.getD_eq_getElem?_getD, List.getD_eq_getElem?_getD, List.getElem?_take_of_lt hk]
    · have hf2 := List.mem_of_mem_take hf
      exact wf_i64 (hw f hf2)
theorem int_in {n : Nat} {c : Value} {x : DataW H × List MemPlace} (h : DataW.trod enc Try.prog W b0 (fun _ => true) true n 3 [c] = some x) : ∃ z, c = .int .i64 z ∧ i64r z := by
  obtain ⟨z, e, _, w⟩ := DataW.trod_int Try.underlying3 (show DataW.trod _ Try.prog W _ _ _ n 3 [c] = some x from h)
  simp only [List.cons.injEq, and_true] at e
  exact ⟨z, e, wf_i64 w⟩

theorem u8_of {n : Int} (h : (Lit.int .u8 n).wf = true) : 0 ≤ n ∧ n < 256 := by
  unfold Lit.wf at h
  simp only [Bool.and_eq_true, decide_eq_true_eq] at h
  have h1 : IntKind.u8.min = 0 := by decide
  have h2 : IntKind.u8.max = 255 := by decide
  omega
theorem u8_in {n : Nat} {c : Value} {x : DataW H × List MemPlace} (h : DataW.trod enc Try.prog W b0 (fun _ => true) true n 5 [c] = some x) : ∃ z, c = .int .u8 z ∧ 0 ≤ z ∧ z < 256 := by
  obtain ⟨q, e, _, w⟩ := DataW.trod_int Try.underlying5 h
  simp only [List.cons.injEq, and_true] at e
  exact ⟨q, e, u8_of w⟩
theorem open_fs (hv : Value.okWide Try.prog W .any base 33 v) (h : DataW.Trod enc Try.prog W b0 (fun _ => true) true 33 v d p) :
    ∃ (A : Option Addr) (c : Nat) (l : Is), v = .slice A l.length c ∧ l.length ≤ c ∧ Bi W A l ∧ l.length ≤ 9223372036854775807 ∧ ∀ f ∈ l, i64r f := by
  obtain ⟨a0, len0, cap0, rfl⟩ := okWide_slice Try.underlying33 hv
  obtain ⟨fuel, hf⟩ := h
  obtain ⟨u, l, e, ⟨A, c, hu, hc, hr⟩, hb, hw⟩ := bi_in hf
  simp [Value.cells] at e
  subst e
  exact ⟨A, c, l, hu, hc, hr, hb, hw⟩
theorem marks_in {n : Nat} {cs : List Value} {x : DataW H × List MemPlace} (hcl : cs.length = 3) (ht : DataW.trod enc Try.prog W b0 (fun _ => true) true n 23 cs = some x) :
    ∃ m : Mk, cs = [.int .i64 m.lo, .int .i64 m.md, .int .i64 m.hi] := by
  obtain ⟨xs, m', _, _, _, hlen, hg⟩ := DataW.trod_struct Try.underlying23 ht
  have g0 : DataW.trod enc Try.prog W b0 (fun _ => true) true m' 3 ((cs.drop 0).take (Try.prog.cellsOf 3)) = xs[0]? := hg 0 _ rfl
  have g1 : DataW.trod enc Try.prog W b0 (fun _ => true) true m' 3 ((cs.drop 1).take (Try.prog.cellsOf 3)) = xs[1]? := hg 1 _ rfl
  have g2 : DataW.trod enc Try.prog W b0 (fun _ => true) true m' 3 ((cs.drop 2).take (Try.prog.cellsOf 3)) = xs[2]? := hg 2 _ rfl
  rw [cells3] at g0 g1 g2
  match cs, hcl with
  | [z0, z1, z2], _ =>
    simp only [List.drop, List.take] at g0 g1 g2
    have h3 : xs.length = 3 := hlen
    rw [List.getElem?_eq_getElem (show 0 < xs.length by omega)] at g0
    rw [List.getElem?_eq_getElem (show 1 < xs.length by omega)] at g1
    rw [List.getElem?_eq_getElem (show 2 < xs.length by omega)] at g2
    obtain ⟨a, rfl, _⟩ := int_in g0
    obtain ⟨b, rfl, _⟩ := int_in g1
    obtain ⟨c, rfl, _⟩ := int_in g2
    exact ⟨⟨a, b, c⟩, rfl⟩
theorem open_marks (hv : Value.okWide Try.prog W .any base 23 v) (h : DataW.Trod enc Try.prog W b0 (fun _ => true) true 23 v d p) : ∃ m : Mk, v = .agg #[.int .i64 m.lo, .int .i64 m.md, .int .i64 m.hi] := by
  obtain ⟨cs, rfl, hsz⟩ := okWide_struct Try.underlying23 hv
  obtain ⟨l⟩ := cs
  obtain ⟨fuel, hf⟩ := h
  obtain ⟨m, e⟩ := marks_in (by simpa [Value.cells] using hsz.trans cells23) hf
  simp [Value.cells] at e
  subst e
  exact ⟨m, rfl⟩
theorem open_two (hv : Value.okWide Try.prog W .any base 29 v) (h : DataW.Trod enc Try.prog W b0 (fun _ => true) true 29 v d p) : ∃ (x y : Int), v = .agg #[.int .i64 x, .int .i64 y] ∧ i64r x ∧ i64r y := by
  simp only [Value.okWide, Try.underlying29] at hv
  obtain ⟨cs, rfl, hsz, _⟩ := hv
  obtain ⟨l⟩ := cs
  rw [cells29] at hsz
  match l, hsz with
  | [c0, c1], _ =>
    obtain ⟨fuel, hf⟩ := h
    obtain ⟨xs, m, _, hx, _, hlen, hg⟩ := DataW.trod_array Try.underlying29 hf
    match xs, hlen with
    | [y0, y1], _ =>
      have g0 := hg 0 (by omega)
      have g1 := hg 1 (by omega)
      simp only [cells3, Value.cells] at g0 g1
      obtain ⟨a, e0, w0⟩ := int_in (show DataW.trod enc Try.prog W b0 (fun _ => true) true m 3 [c0] = some y0 by simpa using g0)
      obtain ⟨b, e1, w1⟩ := int_in (show DataW.trod enc Try.prog W b0 (fun _ => true) true m 3 [c1] = some y1 by simpa using g1)
      subst e0 e1
      exact ⟨a, b, rfl, w0, w1⟩
theorem open_three8 (hv : Value.okWide Try.prog W .any base 38 v) (h : DataW.Trod enc Try.prog W b0 (fun _ => true) true 38 v d p) : ∃ (x y z : Int), v = .agg #[.int .u8 x, .int .u8 y, .int .u8 z] ∧ (0 ≤ x ∧ x < 256) ∧ (0 ≤ y ∧ y < 256) ∧ 0 ≤ z ∧ z < 256 := by
  simp only [Value.okWide, Try.underlying38] at hv
  obtain ⟨cs, rfl, hsz, _⟩ := hv
  obtain ⟨l⟩ := cs
  rw [cells38] at hsz
  match l, hsz with
  | [c0, c1, c2], _ =>
    obtain ⟨fuel, hf⟩ := h
    obtain ⟨xs, m, _, hx, _, hlen, hg⟩ := DataW.trod_array Try.underlying38 hf
    match xs, hlen with
    | [y0, y1, y2], _ =>
      have g0 := hg 0 (by omega)
      have g1 := hg 1 (by omega)
      have g2 := hg 2 (by omega)
      simp only [cells5, Value.cells] at g0 g1 g2
      obtain ⟨a, e0, w0⟩ := u8_in (show DataW.trod enc Try.prog W b0 (fun _ => true) true m 5 [c0] = some y0 by simpa using g0)
      obtain ⟨b, e1, w1⟩ := u8_in (show DataW.trod enc Try.prog W b0 (fun _ => true) true m 5 [c1] = some y1 by simpa using g1)
      obtain ⟨c, e2, w2⟩ := u8_in (show DataW.trod enc Try.prog W b0 (fun _ => true) true m 5 [c2] = some y2 by simpa using g2)
      subst e0 e1 e2
      exact ⟨a, b, c, rfl, w0, w1, w2⟩
end
end Go.Proofs.Ytiopfeleaifpbab.Bd
