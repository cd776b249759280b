import Derived.Test.YtioffnpnoohbiaaL2
import Derived.ProofKit
import Derived.OpenShut
import Derived.Deep.DeepHandedRow
import Derived.Deep.SlicePairs
import Derived.Lib.LaidTab
import Derived.Lib.SmallJoins
import Derived.Carry
namespace Go.Proofs.Ytioffnpnoohbiaa.Rm
open Go.ChangeShapes Go.WideShapes Go.ChangeAt Go.RowKit Go.Joins Go.Deep
set_option linter.unusedVariables false
set_option maxRecDepth 100000
theorem ownKnobNone : ownKnob Try.prog.godebug = none := by kernel_rfl
theorem laidOut : laidOutB Try.prog = true := by kernel_rfl
theorem cells3 : Try.prog.cellsOf 3 = 1 := by kernel_rfl
theorem cells4 : Try.prog.cellsOf 4 = 1 := by kernel_rfl
theorem cells26 : Try.prog.cellsOf 26 = 2 := by kernel_rfl
theorem cells28 : Try.prog.cellsOf 28 = 3 := by kernel_rfl
theorem add_at (b off k : Nat) : (⟨b, off, none⟩ : Addr).add k = ⟨b, off + k, none⟩ := by
  unfold Addr.add
  by_cases h : k = 0 <;> simp [h]
/-- where a cell can be read at an address, it is a plain one in an old block -/
theorem addr_plain {W : World} {a : Addr} {v : Value} (h : W.cell? (a.add 0) = some v) : ∃ b off, a = ⟨b, off, none⟩ ∧ b < W.heap.size := by
  obtain ⟨b, off, sp⟩ := a
  have hsp : sp = none := by
    cases sp with
    | none => rfl
    | some s =>
      exfalso
      simp only [World.cell?, Addr.add] at h
      split at h
      · simp at h
      · cases h
  subst hsp
  refine ⟨b, off, rfl, ?_⟩
  rcases Nat.lt_or_ge b W.heap.size with h1 | h1
  · exact h1
  · exfalso
    have h2 : W.heap[b]? = Option.none := Array.getElem?_eq_none h1
    rw [add_at] at h
    simp [World.cell?, h2] at h
section
variable {H : Type} {enc : TypeId × Value → H} {W : World} {base b0 : Nat} {v : Value} {d : DataW H} {p : List MemPlace}
theorem int_in {n : Nat} {c : Value} {x : DataW H × List MemPlace} (h : DataW.trod enc Try.prog W b0 (fun _ => true) true n 3 [c] = some x) : ∃ z, c = .int .i64 z := by
  obtain ⟨z, e, _, w⟩ := DataW.trod_int Try.underlying3 (show DataW.trod _ Try.prog W _ _ _ n 3 [c] = some x from h)
  simp only [List.cons.injEq, and_true] at e
  exact ⟨z, e⟩
theorem bool_in {n : Nat} {c : Value} {x : DataW H × List MemPlace} (h : DataW.trod enc Try.prog W b0 (fun _ => true) true n 4 [c] = some x) : ∃ z, c = .bool z := by
  obtain ⟨z, e, _⟩ := DataW.trod_bool Try.underlying4 h
  simp only [List.cons.injEq, and_true] at e
  exact ⟨z, e⟩
theorem map_in {n : Nat} {cs : List Value} {x : DataW H × List MemPlace} (hcl : cs.length = 2) (ht : DataW.trod enc Try.prog W b0 (fun _ => true) true n 26 cs = some x) :
    ∃ a : Mp, cs = mC a := by
  obtain ⟨xs, m', _, _, _, hlen, hg⟩ := DataW.trod_struct Try.underlying26 ht
  have g0 : DataW.trod enc Try.prog W b0 (fun _ => true) true m' 3 ((cs.drop 0).take (Try.prog.cellsOf 3)) = xs[0]? := hg 0 _ rfl
  have g1 : DataW.trod enc Try.prog W b0 (fun _ => true) true m' 3 ((cs.drop 1).take (Try.prog.cellsOf 3)) = xs[1]? := hg 1 _ rfl
  rw [cells3] at g0 g1
  match cs, hcl with
  | [z0, z1], _ =>
    simp only [List.drop, List.take] at g0 g1
    have h3 : xs.length = 2 := hlen
    rw [List.getElem?_eq_getElem (show 0 < xs.length by omega)] at g0
    rw [List.getElem?_eq_getElem (show 1 < xs.length by omega)] at g1
    obtain ⟨q0, rfl⟩ := int_in g0
    obtain ⟨q1, rfl⟩ := int_in g1
    exact ⟨⟨q0, q1⟩, rfl⟩
theorem op_in {n : Nat} {cs : List Value} {x : DataW H × List MemPlace} (hcl : cs.length = 3) (ht : DataW.trod enc Try.prog W b0 (fun _ => true) true n 28 cs = some x) :
    ∃ o : Bool × Mp, cs = oC o := by
  obtain ⟨xs, m', _, _, _, hlen, hg⟩ := DataW.trod_struct Try.underlying28 ht
  have g0 : DataW.trod enc Try.prog W b0 (fun _ => true) true m' 4 ((cs.drop 0).take (Try.prog.cellsOf 4)) = xs[0]? := hg 0 _ rfl
  have g1 : DataW.trod enc Try.prog W b0 (fun _ => true) true m' 26 ((cs.drop 1).take (Try.prog.cellsOf 26)) = xs[1]? := hg 1 _ rfl
  rw [cells4] at g0
  rw [cells26] at g1
  match cs, hcl with
  | [z0, z1, z2], _ =>
    simp only [List.drop, List.take] at g0 g1
    have h3 : xs.length = 2 := hlen
    rw [List.getElem?_eq_getElem (show 0 < xs.length by omega)] at g0
    rw [List.getElem?_eq_getElem (show 1 < xs.length by omega)] at g1
    obtain ⟨q0, rfl⟩ := bool_in g0
    obtain ⟨a, e⟩ := map_in (cs := [z1, z2]) rfl g1
    exact ⟨(q0, a), by show _ = Value.bool q0 :: mC a; rw [← e]⟩
theorem open_maps (hv : Value.okWide Try.prog W .any base 22 v) (h : DataW.Trod enc Try.prog W b0 (fun _ => true) true 22 v d p) :
    ∃ (A : Option Addr) (c : Nat) (L : List Mp), v = .slice A L.length c ∧ Ms W A L ∧ L.length ≤ 9223372036854775807 := by
  obtain ⟨a0, len0, cap0, rfl⟩ := okWide_slice Try.underlying22 hv
  obtain ⟨fuel, hf⟩ := h
  rcases open_slice Try.underlying22 hf with ⟨hcs, _⟩ | ⟨a, len, cap, m, n', D, Pl, hcs, _, hl, hm, hmm, _, hi⟩
  · simp [Value.cells] at hcs
    obtain ⟨rfl, rfl, rfl⟩ := hcs
    exact ⟨none, 0, [], rfl, fun h => absurd rfl h, by simp⟩
  · simp only [if_true] at hmm
    subst hmm
    simp [Value.cells] at hcs
    obtain ⟨rfl, rfl, rfl⟩ := hcs
    have each : ∀ i, i < len0 → ∃ q : Mp, (∀ j, j < 2 → W.cell? (a.add (i * 2 + j)) = (mC q)[j]?) := by
      intro i hil
      obtain ⟨cs', hc, ht⟩ := hi i (by omega)
      rw [cells26] at hc
      obtain ⟨_, hcl, hcell⟩ := World.cells?_some hc
      obtain ⟨q, rfl⟩ := map_in hcl ht
      refine ⟨q, fun j hj => ?_⟩
      have c0 := hcell j (by omega)
      rwa [Go.Deep.add_add] at c0
    obtain ⟨q, hq⟩ := choose_lt each
    have hlen : ((List.range len0).map q).length = len0 := by simp
    have hat : ∀ k, k < len0 → at' ((List.range len0).map q) k = q k := fun k hk => by unfold at'; rw [List.getD_eq_getElem?_getD, List.getElem?_map, List.getElem?_range hk]; rfl
    refine ⟨some a, _, (List.range len0).map q, by rw [hlen], fun hne => ?_, by rw [hlen]; unfold maxLen at hm; omega⟩
    have hp : 0 < len0 := by
      rcases Nat.eq_zero_or_pos len0 with e | e
      · exfalso; apply hne; rw [e]; rfl
      · exact e
    have g := (hq 0 hp) 0 (by omega)
    rw [Nat.zero_mul] at g
    obtain ⟨b, off, rfl, hb⟩ := addr_plain (v := (mC (q 0)).getD 0 undef) (by rw [g]; rfl)
    refine ⟨b, off, rfl, hb, fun k hk j hj => ?_⟩
    rw [hlen] at hk
    have g0 := (hq k hk) j hj
    rw [add_at] at g0
    rw [hat k hk, Nat.add_assoc]
    exact g0
theorem open_ops (hv : Value.okWide Try.prog W .any base 23 v) (h : DataW.Trod enc Try.prog W b0 (fun _ => true) true 23 v d p) :
    ∃ (A : Option Addr) (c : Nat) (L : List (Bool × Mp)), v = .slice A L.length c ∧ OpR W A L ∧ L.length ≤ 9223372036854775807 := by
  obtain ⟨a0, len0, cap0, rfl⟩ := okWide_slice Try.underlying23 hv
  obtain ⟨fuel, hf⟩ := h
  rcases open_slice Try.underlying23 hf with ⟨hcs, _⟩ | ⟨a, len, cap, m, n', D, Pl, hcs, _, hl, hm, hmm, _, hi⟩
  · simp [Value.cells] at hcs
    obtain ⟨rfl, rfl, rfl⟩ := hcs
    exact ⟨none, 0, [], rfl, fun h => absurd rfl h, by simp⟩
  · simp only [if_true] at hmm
    subst hmm
    simp [Value.cells] at hcs
    obtain ⟨rfl, rfl, rfl⟩ := hcs
    have each : ∀ i, i < len0 → ∃ q : Bool × Mp, (∀ j, j < 3 → W.cell? (a.add (i * 3 + j)) = (oC q)[j]?) := by
      intro i hil
      obtain ⟨cs', hc, ht⟩ := hi i (by omega)
      rw [cells28] at hc
      obtain ⟨_, hcl, hcell⟩ := World.cells?_some hc
      obtain ⟨q, rfl⟩ := op_in hcl ht
      refine ⟨q, fun j hj => ?_⟩
      have c0 := hcell j (by omega)
      rwa [Go.Deep.add_add] at c0
    obtain ⟨q, hq⟩ := choose_lt each
    have hlen : ((List.range len0).map q).length = len0 := by simp
    have hat : ∀ k, k < len0 → oAt ((List.range len0).map q) k = q k := fun k hk => by unfold oAt; rw [List.getD_eq_getElem?_getD, List.getElem?_map, List.getElem?_range hk]; rfl
    refine ⟨some a, _, (List.range len0).map q, by rw [hlen], fun hne => ?_, by rw [hlen]; unfold maxLen at hm; omega⟩
    have hp : 0 < len0 := by
      rcases Nat.eq_zero_or_pos len0 with e | e
      · exfalso; apply hne; rw [e]; rfl
      · exact e
    have g := (hq 0 hp) 0 (by omega)
    rw [Nat.zero_mul] at g
    obtain ⟨b, off, rfl, hb⟩ := addr_plain (v := (oC (q 0)).getD 0 undef) (by rw [g]; rfl)
    refine ⟨b, off, rfl, hb, fun k hk j hj => ?_⟩
    rw [hlen] at hk
    have g0 := (hq k hk) j hj
    rw [add_at] at g0
    rw [hat k hk, Nat.add_assoc]
    exact g0
theorem open_map (hv : Value.okWide Try.prog W .any base 26 v) (h : DataW.Trod enc Try.prog W b0 (fun _ => true) true 26 v d p) : ∃ (q0 q1 : Int), v = .agg #[.int .i64 q0, .int .i64 q1] := by
  obtain ⟨cs, rfl, hsz⟩ := okWide_struct Try.underlying26 hv
  obtain ⟨l⟩ := cs
  obtain ⟨fuel, hf⟩ := h
  obtain ⟨⟨q0, q1⟩, e⟩ := map_in (by simpa [Value.cells] using hsz.trans cells26) hf
  simp [Value.cells, mC] at e
  subst e
  exact ⟨q0, q1, rfl⟩
end
end Go.Proofs.Ytioffnpnoohbiaa.Rm
