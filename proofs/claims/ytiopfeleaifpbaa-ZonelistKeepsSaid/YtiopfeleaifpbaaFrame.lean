import Derived.Test.YtiopfeleaifpbaaL1
import Derived.ProofKit
import Derived.OpenShut
import Derived.Deep.DeepHandedRow
import Derived.Deep.SlicePairs
import Derived.Lib.LaidTab
import Derived.Lib.SmallJoins
import Derived.Carry
namespace Go.Proofs.Ytiopfeleaifpbaa.Bd
open Go.ChangeShapes Go.WideShapes Go.ChangeAt Go.RowKit Go.Joins Go.Deep
set_option linter.unusedVariables false
theorem ownKnobNone : ownKnob Try.prog.godebug = none := by kernel_rfl
theorem laidOut : laidOutB Try.prog = true := by kernel_rfl
theorem cells3 : Try.prog.cellsOf 3 = 1 := by kernel_rfl
theorem cells27 : Try.prog.cellsOf 27 = 1 := by kernel_rfl
theorem cells4 : Try.prog.cellsOf 4 = 1 := by kernel_rfl
theorem cells34 : Try.prog.cellsOf 34 = 3 := by kernel_rfl
theorem cells36 : Try.prog.cellsOf 36 = 2 := by kernel_rfl
theorem cells39 : Try.prog.cellsOf 39 = 5 := by kernel_rfl
theorem cells41 : Try.prog.cellsOf 41 = 10 := by kernel_rfl
theorem add_at (b off k : Nat) : (⟨b, off, none⟩ : Addr).add k = ⟨b, off + k, none⟩ := by
  unfold Addr.add
  by_cases h : k = 0 <;> simp [h]
/-- where a cell can be read at an address, it is a plain one in an old block -/
theorem addr_plain {W : World} {a : Addr} {v : Value} (h : W.cell? (a.add 0) = some v) : ∃ b off, a = ⟨b, off, none⟩ ∧ b < W.heap.size := by
  obtain ⟨b, off, sp⟩ := a
  have hsp : sp = none := by
    cases sp with
    | none => rfl
    | some s =>
      exfalso
      simp only [World.cell?, Addr.add] at h
      split at h
      · simp at h
      · cases h
  subst hsp
  refine ⟨b, off, rfl, ?_⟩
  rcases Nat.lt_or_ge b W.heap.size with h1 | h1
  · exact h1
  · exfalso
    have h2 : W.heap[b]? = Option.none := Array.getElem?_eq_none h1
    rw [add_at] at h
    simp [World.cell?, h2] at h
theorem wf_i64 {x : Int} (h : (Lit.int .i64 x).wf = true) : i64r x := by
  unfold Lit.wf at h
  simp only [Bool.and_eq_true, decide_eq_true_eq, IntKind.min, IntKind.max, IntKind.signed, IntKind.bits] at h
  unfold i64r
  simp at h
  omega
section
variable {H : Type} {enc : TypeId × Value → H} {W : World} {base b0 : Nat} {v : Value} {d : DataW H} {p : List MemPlace}
theorem bi_in {n : Nat} {cs : List Value} {x : DataW H × List MemPlace} (h : DataW.trod enc Try.prog W b0 (fun _ => true) true n 27 cs = some x) :
    ∃ (u : Value) (l : Is), cs = [u] ∧ IsI W u l ∧ l.length ≤ 9223372036854775807 ∧ ∀ f ∈ l, i64r f := by
  rcases open_ints Try.underlying27 Try.underlying3 cells3 h with ⟨hcs, _⟩ | ⟨a, len, cap, zs, hcs, _, hl, hm, hz, _, hc, hw⟩
  · exact ⟨_, [], hcs, ⟨none, 0, rfl, Nat.le_refl _, fun h => absurd rfl h⟩, by simp, fun f hf => by cases hf⟩
  · simp only [if_true] at hz
    have hlen : (zs.take len).length = len := by rw [List.length_take]; omega
    refine ⟨_, zs.take len, hcs, ⟨some a, cap, by rw [hlen], by rw [hlen]; exact hl, fun hne => ?_⟩, by rw [hlen]; unfold maxLen at hm; omega, fun f hf => ?_⟩
    · have hp : 0 < len := by
        rcases Nat.eq_zero_or_pos len with e | e
        · exfalso; apply hne; rw [e]; rfl
        · exact e
      have g := hc 0 (by omega)
      obtain ⟨b, off, rfl, hb⟩ := addr_plain g
      refine ⟨b, off, rfl, hb, fun k hk => ?_⟩
      rw [hlen] at hk
      have := hc k (by omega)
      rw [add_at] at this
      rw [this, List.getD_eq_getElem?_getD, List.getD_eq_getElem?_getD, List.getElem?_take_of_lt hk]
    · have hf2 := List.mem_of_mem_take hf
      exact wf_i64 (hw f hf2)
theorem int_in {n : Nat} {c : Value} {x : DataW H × List MemPlace} (h : DataW.trod enc Try.prog W b0 (fun _ => true) true n 3 [c] = some x) : ∃ z, c = .int .i64 z ∧ i64r z := by
  obtain ⟨z, e, _, w⟩ := DataW.trod_int Try.underlying3 (show DataW.trod _ Try.prog W _ _ _ n 3 [c] = some x from h)
  simp only [List.cons.injEq, and_true] at e
  exact ⟨z, e, wf_i64 w⟩

theorem pol_in {n : Nat} {cs : List Value} {x : DataW H × List MemPlace} (hcl : cs.length = 3) (ht : DataW.trod enc Try.prog W b0 (fun _ => true) true n 34 cs = some x) :
    ∃ m : Po, cs = [.int .i64 m.k, .int .i64 m.m, .int .i64 m.t] := by
  obtain ⟨xs, m', _, _, _, hlen, hg⟩ := DataW.trod_struct Try.underlying34 ht
  have g0 : DataW.trod enc Try.prog W b0 (fun _ => true) true m' 3 ((cs.drop 0).take (Try.prog.cellsOf 3)) = xs[0]? := hg 0 _ rfl
  have g1 : DataW.trod enc Try.prog W b0 (fun _ => true) true m' 3 ((cs.drop 1).take (Try.prog.cellsOf 3)) = xs[1]? := hg 1 _ rfl
  have g2 : DataW.trod enc Try.prog W b0 (fun _ => true) true m' 3 ((cs.drop 2).take (Try.prog.cellsOf 3)) = xs[2]? := hg 2 _ rfl
  rw [cells3] at g0 g1 g2
  match cs, hcl with
  | [z0, z1, z2], _ =>
    simp only [List.drop, List.take] at g0 g1 g2
    have h3 : xs.length = 3 := hlen
    rw [List.getElem?_eq_getElem (show 0 < xs.length by omega)] at g0
    rw [List.getElem?_eq_getElem (show 1 < xs.length by omega)] at g1
    rw [List.getElem?_eq_getElem (show 2 < xs.length by omega)] at g2
    obtain ⟨a, rfl, _⟩ := int_in g0
    obtain ⟨b, rfl, _⟩ := int_in g1
    obtain ⟨c, rfl, _⟩ := int_in g2
    exact ⟨⟨a, b, c⟩, rfl⟩
theorem open_pol (hv : Value.okWide Try.prog W .any base 34 v) (h : DataW.Trod enc Try.prog W b0 (fun _ => true) true 34 v d p) : ∃ m : Po, v = .agg #[.int .i64 m.k, .int .i64 m.m, .int .i64 m.t] := by
  obtain ⟨cs, rfl, hsz⟩ := okWide_struct Try.underlying34 hv
  obtain ⟨l⟩ := cs
  obtain ⟨fuel, hf⟩ := h
  obtain ⟨m, e⟩ := pol_in (by simpa [Value.cells] using hsz.trans cells34) hf
  simp [Value.cells] at e
  subst e
  exact ⟨m, rfl⟩
theorem bool_in {n : Nat} {c : Value} {x : DataW H × List MemPlace} (h : DataW.trod enc Try.prog W b0 (fun _ => true) true n 4 [c] = some x) : ∃ z, c = .bool z := by
  obtain ⟨z, e, _⟩ := DataW.trod_bool Try.underlying4 h
  simp only [List.cons.injEq, and_true] at e
  exact ⟨z, e⟩
theorem at_in {n : Nat} {cs : List Value} {x : DataW H × List MemPlace} (hcl : cs.length = 2) (ht : DataW.trod enc Try.prog W b0 (fun _ => true) true n 36 cs = some x) :
    ∃ (m : Int) (b : Bool), cs = [.int .i64 m, .bool b] := by
  obtain ⟨xs, m', _, _, _, hlen, hg⟩ := DataW.trod_struct Try.underlying36 ht
  have g0 : DataW.trod enc Try.prog W b0 (fun _ => true) true m' 3 ((cs.drop 0).take (Try.prog.cellsOf 3)) = xs[0]? := hg 0 _ rfl
  have g1 : DataW.trod enc Try.prog W b0 (fun _ => true) true m' 4 ((cs.drop 1).take (Try.prog.cellsOf 4)) = xs[1]? := hg 1 _ rfl
  rw [cells3] at g0
  rw [cells4] at g1
  match cs, hcl with
  | [z0, z1], _ =>
    simp only [List.drop, List.take] at g0 g1
    have h3 : xs.length = 2 := hlen
    rw [List.getElem?_eq_getElem (show 0 < xs.length by omega)] at g0
    rw [List.getElem?_eq_getElem (show 1 < xs.length by omega)] at g1
    obtain ⟨a, rfl, _⟩ := int_in g0
    obtain ⟨b, rfl⟩ := bool_in g1
    exact ⟨a, b, rfl⟩
theorem open_at (hv : Value.okWide Try.prog W .any base 36 v) (h : DataW.Trod enc Try.prog W b0 (fun _ => true) true 36 v d p) : ∃ (m : Int) (b : Bool), v = .agg #[.int .i64 m, .bool b] := by
  obtain ⟨cs, rfl, hsz⟩ := okWide_struct Try.underlying36 hv
  obtain ⟨l⟩ := cs
  obtain ⟨fuel, hf⟩ := h
  obtain ⟨m, b, e⟩ := at_in (by simpa [Value.cells] using hsz.trans cells36) hf
  simp [Value.cells] at e
  subst e
  exact ⟨m, b, rfl⟩
end
theorem range_at {α : Type} [Inhabited α] (f : Nat → α) (d : α) {n k : Nat} (hk : k < n) : ((List.range n).map f).getD k d = f k := by
  rw [List.getD_eq_getElem?_getD, List.getElem?_map, List.getElem?_range hk]; rfl
instance : Inhabited Zo := ⟨z0⟩
section
variable {H : Type} {enc : TypeId × Value → H} {W : World} {base b0 : Nat} {v : Value} {d : DataW H} {p : List MemPlace}
set_option maxRecDepth 100000 in
theorem zone_in {n : Nat} {cs : List Value} {x : DataW H × List MemPlace} (hcl : cs.length = 10) (ht : DataW.trod enc Try.prog W b0 (fun _ => true) true n 41 cs = some x) :
    ∃ (q : Pm) (u : Nat → Value) (L : Fl), cs = (znC q u).toList ∧ Pr q ∧ RdZ W u L ∧ (∀ k, k < 5 → ∀ f ∈ L k, i64r f) ∧ ∀ k, k < 5 → (L k).length ≤ 9223372036854775807 := by
  match cs, hcl with
  | [z0, z1, z2, z3, z4, s0, s1, s2, s3, s4], _ =>
    obtain ⟨xs, m', _, _, _, hlen, hg⟩ := DataW.trod_struct Try.underlying41 ht
    have h6 : xs.length = 6 := hlen
    have g0 := hg 0 _ rfl
    have g1 := hg 1 _ rfl
    have g2 := hg 2 _ rfl
    have g3 := hg 3 _ rfl
    have g4 := hg 4 _ rfl
    have g5 := hg 5 _ rfl
    rw [List.getElem?_eq_getElem (show 0 < xs.length by omega)] at g0
    rw [List.getElem?_eq_getElem (show 1 < xs.length by omega)] at g1
    rw [List.getElem?_eq_getElem (show 2 < xs.length by omega)] at g2
    rw [List.getElem?_eq_getElem (show 3 < xs.length by omega)] at g3
    rw [List.getElem?_eq_getElem (show 4 < xs.length by omega)] at g4
    rw [List.getElem?_eq_getElem (show 5 < xs.length by omega)] at g5
    obtain ⟨a0, rfl, r0⟩ := int_in (show DataW.trod enc Try.prog W b0 (fun _ => true) true m' 3 [z0] = _ from g0)
    obtain ⟨a1, rfl, r1⟩ := int_in (show DataW.trod enc Try.prog W b0 (fun _ => true) true m' 3 [z1] = _ from g1)
    obtain ⟨a2, rfl, r2⟩ := int_in (show DataW.trod enc Try.prog W b0 (fun _ => true) true m' 3 [z2] = _ from g2)
    obtain ⟨a3, rfl, r3⟩ := int_in (show DataW.trod enc Try.prog W b0 (fun _ => true) true m' 3 [z3] = _ from g3)
    obtain ⟨a4, rfl, r4⟩ := int_in (show DataW.trod enc Try.prog W b0 (fun _ => true) true m' 3 [z4] = _ from g4)
    have g5' : DataW.trod enc Try.prog W b0 (fun _ => true) true m' 39 [s0, s1, s2, s3, s4] = _ := g5
    obtain ⟨ys, m2, _, hx, _, hlen2, hq⟩ := DataW.trod_array Try.underlying39 g5'
    match ys, hlen2 with
    | [y0, y1, y2, y3, y4], _ =>
      have q0 := hq 0 (by omega)
      have q1 := hq 1 (by omega)
      have q2 := hq 2 (by omega)
      have q3 := hq 3 (by omega)
      have q4 := hq 4 (by omega)
      simp only [cells27] at q0 q1 q2 q3 q4
      obtain ⟨u0, l0, e0, i0, n0, w0⟩ := bi_in (show DataW.trod enc Try.prog W b0 (fun _ => true) true m2 27 [s0] = some y0 by simpa using q0)
      obtain ⟨u1, l1, e1, i1, n1, w1⟩ := bi_in (show DataW.trod enc Try.prog W b0 (fun _ => true) true m2 27 [s1] = some y1 by simpa using q1)
      obtain ⟨u2, l2, e2, i2, n2, w2⟩ := bi_in (show DataW.trod enc Try.prog W b0 (fun _ => true) true m2 27 [s2] = some y2 by simpa using q2)
      obtain ⟨u3, l3, e3, i3, n3, w3⟩ := bi_in (show DataW.trod enc Try.prog W b0 (fun _ => true) true m2 27 [s3] = some y3 by simpa using q3)
      obtain ⟨u4, l4, e4, i4, n4, w4⟩ := bi_in (show DataW.trod enc Try.prog W b0 (fun _ => true) true m2 27 [s4] = some y4 by simpa using q4)
      simp only [List.cons.injEq, and_true] at e0 e1 e2 e3 e4
      subst e0 e1 e2 e3 e4
      refine ⟨⟨a0, a1, a2, a3, a4⟩, (fun | 0 => s0 | 1 => s1 | 2 => s2 | 3 => s3 | _ => s4), (fun | 0 => l0 | 1 => l1 | 2 => l2 | 3 => l3 | _ => l4), rfl, ⟨r0, r1, r2, r3, r4⟩, fun k hk => ?_, fun k hk => ?_, fun k hk => ?_⟩
      · rcases cases5 hk with rfl | rfl | rfl | rfl | rfl
        · exact i0
        · exact i1
        · exact i2
        · exact i3
        · exact i4
      · rcases cases5 hk with rfl | rfl | rfl | rfl | rfl
        · exact w0
        · exact w1
        · exact w2
        · exact w3
        · exact w4
      · rcases cases5 hk with rfl | rfl | rfl | rfl | rfl
        · exact n0
        · exact n1
        · exact n2
        · exact n3
        · exact n4
theorem open_zones (hv : Value.okWide Try.prog W .any base 22 v) (h : DataW.Trod enc Try.prog W b0 (fun _ => true) true 22 v d p) :
    ∃ (A : Option Addr) (c : Nat) (Z : List Zo), v = .slice A Z.length c ∧ Zs W A Z ∧ ZIs W Z ∧ Z.length ≤ 9223372036854775807 := by
  obtain ⟨a0, len0, cap0, rfl⟩ := okWide_slice Try.underlying22 hv
  obtain ⟨fuel, hf⟩ := h
  rcases open_slice Try.underlying22 hf with ⟨hcs, _⟩ | ⟨a, len, cap, m, n', D, Pl, hcs, _, hl, hm, hmm, _, hi⟩
  · simp [Value.cells] at hcs
    obtain ⟨rfl, rfl, rfl⟩ := hcs
    exact ⟨none, 0, [], rfl, fun h => absurd rfl h, fun k hk => by simp at hk, by simp⟩
  · simp only [if_true] at hmm
    subst hmm
    simp [Value.cells] at hcs
    obtain ⟨rfl, rfl, rfl⟩ := hcs
    have each : ∀ i, i < len0 → ∃ q : Zo, (∀ j, j < 10 → W.cell? (a.add (i * 10 + j)) = (znC q.p q.v)[j]?) ∧ ZIn W q.p q.v q.L := by
      intro i hil
      obtain ⟨cs', hc, ht⟩ := hi i (by omega)
      rw [cells41] at hc
      obtain ⟨_, hcl, hcell⟩ := World.cells?_some hc
      obtain ⟨q, u, L, rfl, hp, hr, hw, hn⟩ := zone_in hcl ht
      refine ⟨⟨q, u, L⟩, fun j hj => ?_, ⟨hp, hr, hw, hn⟩⟩
      have cj := hcell j (by omega)
      rw [Go.Deep.add_add] at cj
      rw [cj]
      show _ = (znC q u)[j]?
      rw [← Array.getElem?_toList]
    obtain ⟨q, hq⟩ := choose_lt each
    have hlen : ((List.range len0).map q).length = len0 := by simp
    refine ⟨some a, _, (List.range len0).map q, by rw [hlen], fun hne => ?_, fun k hk => ?_, by rw [hlen]; unfold maxLen at hm; omega⟩
    · have hp : 0 < len0 := by
        rcases Nat.eq_zero_or_pos len0 with e | e
        · exfalso; apply hne; rw [e]; rfl
        · exact e
      have g := (hq 0 hp).1 0 (by omega)
      rw [Nat.zero_mul, Nat.zero_add] at g
      obtain ⟨b, off, rfl, hb⟩ := addr_plain (g.trans (show (znC (q 0).p (q 0).v)[0]? = some (.int .i64 (q 0).p.nd) from rfl))
      refine ⟨b, off, rfl, hb, fun k hk j hj => ?_⟩
      rw [hlen] at hk
      have g := (hq k hk).1 j hj
      rw [add_at] at g
      have e : zAt ((List.range len0).map q) k = q k := by unfold zAt; rw [range_at q _ hk]
      rw [e, Nat.add_assoc]
      exact g
    · rw [hlen] at hk
      have e : zAt ((List.range len0).map q) k = q k := by unfold zAt; rw [range_at q _ hk]
      rw [e]
      exact (hq k hk).2
end
end Go.Proofs.Ytiopfeleaifpbaa.Bd
