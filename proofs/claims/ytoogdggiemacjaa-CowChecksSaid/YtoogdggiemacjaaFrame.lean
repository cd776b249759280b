import Derived.Test.YtoogdggiemacjaaRd
import Derived.ProofKit
import Derived.OpenShut
import Derived.Deep.DeepHandedRow
import Derived.Deep.SlicePairs
import Derived.Lib.LaidTab
import Derived.Lib.SmallJoins
import Derived.Carry
namespace Go.Proofs.Ytoogdggiemacjaa.Cw
open Go.ChangeShapes Go.WideShapes Go.ChangeAt Go.RowKit Go.Joins Go.Deep
set_option linter.unusedVariables false
theorem ownKnobNone : ownKnob Try.prog.godebug = none := by kernel_rfl
theorem laidOut : laidOutB Try.prog = true := by kernel_rfl
theorem cells3 : Try.prog.cellsOf 3 = 1 := by kernel_rfl
theorem cells4 : Try.prog.cellsOf 4 = 1 := by kernel_rfl
theorem cells33 : Try.prog.cellsOf 33 = 4 := by kernel_rfl
theorem cells47 : Try.prog.cellsOf 47 = 1 := by kernel_rfl
theorem cells5 : Try.prog.cellsOf 5 = 1 := by kernel_rfl
/-- where a cell can be read at an address, it is a plain one in an old block -/
theorem addr_plain {W : World} {a : Addr} {v : Value} (h : W.cell? (a.add 0) = some v) : ∃ b off, a = ⟨b, off, none⟩ ∧ b < W.heap.size := by
  obtain ⟨b, off, sp⟩ := a
  have hsp : sp = none := by
    cases sp with
    | none => rfl
    | some s =>
      exfalso
      simp only [World.cell?, Addr.add] at h
      split at h
      · simp at h
      · cases h
  subst hsp
  refine ⟨b, off, rfl, ?_⟩
  rcases Nat.lt_or_ge b W.heap.size with h1 | h1
  · exact h1
  · exfalso
    have h2 : W.heap[b]? = Option.none := Array.getElem?_eq_none h1
    rw [add_at] at h
    simp [World.cell?, h2] at h
theorem range_at {α : Type} [Inhabited α] (f : Nat → α) (d : α) {n k : Nat} (hk : k < n) : ((List.range n).map f).getD k d = f k := by
  rw [List.getD_eq_getElem?_getD, List.getElem?_map, List.getElem?_range hk]; rfl
theorem u8_of {n : Int} (h : (Lit.int .u8 n).wf = true) : 0 ≤ n ∧ n < 256 := by
  unfold Lit.wf at h
  simp only [Bool.and_eq_true, decide_eq_true_eq] at h
  have h1 : IntKind.u8.min = 0 := by decide
  have h2 : IntKind.u8.max = 255 := by decide
  omega
theorem u16_of {n : Int} (h : (Lit.int .u16 n).wf = true) : 0 ≤ n ∧ n < 65536 := by
  unfold Lit.wf at h
  simp only [Bool.and_eq_true, decide_eq_true_eq] at h
  have h1 : IntKind.u16.min = 0 := by decide
  have h2 : IntKind.u16.max = 65535 := by decide
  omega
theorem wf_i64 {x : Int} (h : (Lit.int .i64 x).wf = true) : i64r x := by
  unfold Lit.wf at h
  simp only [Bool.and_eq_true, decide_eq_true_eq, IntKind.min, IntKind.max, IntKind.signed, IntKind.bits] at h
  unfold i64r
  simp at h
  omega
section
variable {H : Type} {enc : TypeId × Value → H} {W : World} {base b0 : Nat} {v : Value} {d : DataW H} {p : List MemPlace}
theorem int_in {n : Nat} {c : Value} {x : DataW H × List MemPlace} (h : DataW.trod enc Try.prog W b0 (fun _ => true) true n 3 [c] = some x) : ∃ z, c = .int .i64 z ∧ i64r z := by
  obtain ⟨z, e, _, w⟩ := DataW.trod_int Try.underlying3 (show DataW.trod _ Try.prog W _ _ _ n 3 [c] = some x from h)
  simp only [List.cons.injEq, and_true] at e
  exact ⟨z, e, wf_i64 w⟩
theorem bool_in {n : Nat} {c : Value} {x : DataW H × List MemPlace} (h : DataW.trod enc Try.prog W b0 (fun _ => true) true n 4 [c] = some x) : ∃ z, c = .bool z := by
  obtain ⟨z, e, _⟩ := DataW.trod_bool Try.underlying4 h
  simp only [List.cons.injEq, and_true] at e
  exact ⟨z, e⟩
theorem u8_in {n : Nat} {c : Value} {x : DataW H × List MemPlace} (h : DataW.trod enc Try.prog W b0 (fun _ => true) true n 5 [c] = some x) : ∃ z : Int, c = .int .u8 z ∧ 0 ≤ z ∧ z < 256 := by
  obtain ⟨z, e, _, w⟩ := DataW.trod_int Try.underlying5 h
  simp only [List.cons.injEq, and_true] at e
  exact ⟨z, e, u8_of w⟩
set_option maxRecDepth 100000 in
theorem Op_in {n : Nat} {cs : List Value} {x : DataW H × List MemPlace} (hcl : cs.length = 4) (ht : DataW.trod enc Try.prog W b0 (fun _ => true) true n 33 cs = some x) :
    ∃ o : Int × Int × Int × Int, cs = encOp o ∧ okOp o := by
  obtain ⟨xs, m', _, _, _, hlen, hg⟩ := DataW.trod_struct Try.underlying33 ht
  have g0 : DataW.trod enc Try.prog W b0 (fun _ => true) true m' 3 ((cs.drop 0).take (Try.prog.cellsOf 3)) = xs[0]? := hg 0 _ rfl
  have g1 : DataW.trod enc Try.prog W b0 (fun _ => true) true m' 3 ((cs.drop 1).take (Try.prog.cellsOf 3)) = xs[1]? := hg 1 _ rfl
  have g2 : DataW.trod enc Try.prog W b0 (fun _ => true) true m' 3 ((cs.drop 2).take (Try.prog.cellsOf 3)) = xs[2]? := hg 2 _ rfl
  have g3 : DataW.trod enc Try.prog W b0 (fun _ => true) true m' 3 ((cs.drop 3).take (Try.prog.cellsOf 3)) = xs[3]? := hg 3 _ rfl
  rw [cells3] at g0
  rw [cells3] at g1
  rw [cells3] at g2
  rw [cells3] at g3
  match cs, hcl with
  | [z0, z1, z2, z3], _ =>
    simp only [List.drop, List.take] at g0 g1 g2 g3
    have h3 : xs.length = 4 := hlen
    rw [List.getElem?_eq_getElem (show 0 < xs.length by omega)] at g0
    rw [List.getElem?_eq_getElem (show 1 < xs.length by omega)] at g1
    rw [List.getElem?_eq_getElem (show 2 < xs.length by omega)] at g2
    rw [List.getElem?_eq_getElem (show 3 < xs.length by omega)] at g3
    obtain ⟨q0, e0, w0⟩ := int_in g0
    obtain ⟨q1, e1, w1⟩ := int_in g1
    obtain ⟨q2, e2, w2⟩ := int_in g2
    obtain ⟨q3, e3, w3⟩ := int_in g3
    subst e0 e1 e2 e3
    exact ⟨(q0, q1, q2, q3), rfl, w0, w1, w2, w3⟩
set_option maxRecDepth 100000 in
theorem open_Op (hv : Value.okWide Try.prog W .any base 23 v) (h : DataW.Trod enc Try.prog W b0 (fun _ => true) true 23 v d p) :
    ∃ (A : Option Addr) (c : Nat) (L : List (Int × Int × Int × Int)), v = .slice A L.length c ∧ RdOp W A L ∧ L.length ≤ 9223372036854775807 ∧ L.length ≤ c ∧ ∀ k, k < L.length → okOp (L.getD k (0, 0, 0, 0)) := by
  obtain ⟨a0, len0, cap0, rfl⟩ := okWide_slice Try.underlying23 hv
  obtain ⟨fuel, hf⟩ := h
  rcases open_slice Try.underlying23 hf with ⟨hcs, _⟩ | ⟨a, len, cap, m, n', D, Pl, hcs, _, hl, hm, hmm, _, hi⟩
  · simp [Value.cells] at hcs
    obtain ⟨rfl, rfl, rfl⟩ := hcs
    exact ⟨none, 0, [], rfl, fun h => absurd rfl h, by simp, by simp, fun k hk => absurd hk (Nat.not_lt_zero _)⟩
  · simp only [if_true] at hmm
    subst hmm
    simp [Value.cells] at hcs
    obtain ⟨rfl, rfl, rfl⟩ := hcs
    have each : ∀ i, i < len0 → ∃ q : Int × Int × Int × Int, (∀ j, j < 4 → W.cell? (a.add (i * 4 + j)) = (encOp q)[j]?) ∧ okOp q := by
      intro i hil
      obtain ⟨cs', hc, ht⟩ := hi i (by omega)
      rw [cells33] at hc
      obtain ⟨_, hcl, hcell⟩ := World.cells?_some hc
      obtain ⟨q, rfl, hq⟩ := Op_in hcl ht
      refine ⟨q, fun j hj => ?_, hq⟩
      have c0 := hcell j (by omega)
      rwa [Go.Deep.add_add] at c0
    obtain ⟨q, hq⟩ := choose_lt each
    have hlen : ((List.range len0).map q).length = len0 := by simp
    have hat : ∀ k, k < len0 → ((List.range len0).map q).getD k (0, 0, 0, 0) = q k := fun k hk => by rw [List.getD_eq_getElem?_getD, List.getElem?_map, List.getElem?_range hk]; rfl
    refine ⟨some a, _, (List.range len0).map q, by rw [hlen], fun hne => ?_, by rw [hlen]; unfold maxLen at hm; omega, by rw [hlen]; exact hl, fun k hk => by rw [hlen] at hk; rw [hat k hk]; exact (hq k hk).2⟩
    have hp : 0 < len0 := by
      rcases Nat.eq_zero_or_pos len0 with e | e
      · exfalso; apply hne; rw [e]; rfl
      · exact e
    have g := (hq 0 hp).1 0 (by omega)
    rw [Nat.zero_mul] at g
    obtain ⟨b, off, rfl, hb⟩ := addr_plain g
    refine ⟨b, off, rfl, hb, fun k hk j hj => ?_⟩
    rw [hlen] at hk
    have g0 := (hq k hk).1 j hj
    rw [add_at] at g0
    rw [hat k hk, g0]
end
end Go.Proofs.Ytoogdggiemacjaa.Cw
