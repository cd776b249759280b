import Derived.Test.YtclkflnonckajaaOs
import Derived.ProofKit
import Derived.OpenShut
import Derived.Deep.DeepHandedRow
import Derived.Deep.SlicePairs
import Derived.Lib.LaidTab
import Derived.Lib.SmallJoins
import Derived.Carry
namespace Go.Proofs.Ytclkflnonckajaa.Ac
open Go.ChangeShapes Go.WideShapes Go.ChangeAt Go.RowKit Go.Joins Go.Deep
set_option linter.unusedVariables false
theorem ownKnobNone : ownKnob Try.prog.godebug = none := by kernel_rfl
theorem laidOut : laidOutB Try.prog = true := by kernel_rfl
theorem cells3 : Try.prog.cellsOf 3 = 1 := by kernel_rfl
theorem cells26 : Try.prog.cellsOf 26 = 1 := by kernel_rfl
theorem cells4 : Try.prog.cellsOf 4 = 1 := by kernel_rfl
theorem cells42 : Try.prog.cellsOf 42 = 5 := by kernel_rfl
theorem cells34 : Try.prog.cellsOf 34 = 3 := by kernel_rfl
theorem cells49 : Try.prog.cellsOf 49 = 3 := by kernel_rfl
theorem cells57 : Try.prog.cellsOf 57 = 3 := by kernel_rfl
theorem add_at (b off k : Nat) : (⟨b, off, none⟩ : Addr).add k = ⟨b, off + k, none⟩ := by
  unfold Addr.add
  by_cases h : k = 0 <;> simp [h]
/-- where a cell can be read at an address, it is a plain one in an old block -/
theorem addr_plain {W : World} {a : Addr} {v : Value} (h : W.cell? (a.add 0) = some v) : ∃ b off, a = ⟨b, off, none⟩ ∧ b < W.heap.size := by
  obtain ⟨b, off, sp⟩ := a
  have hsp : sp = none := by
    cases sp with
    | none => rfl
    | some s =>
      exfalso
      simp only [World.cell?, Addr.add] at h
      split at h
      · simp at h
      · cases h
  subst hsp
  refine ⟨b, off, rfl, ?_⟩
  rcases Nat.lt_or_ge b W.heap.size with h1 | h1
  · exact h1
  · exfalso
    have h2 : W.heap[b]? = Option.none := Array.getElem?_eq_none h1
    rw [add_at] at h
    simp [World.cell?, h2] at h
theorem wf_i64 {x : Int} (h : (Lit.int .i64 x).wf = true) : i64r x := by
  unfold Lit.wf at h
  simp only [Bool.and_eq_true, decide_eq_true_eq, IntKind.min, IntKind.max, IntKind.signed, IntKind.bits] at h
  unfold i64r
  simp at h
  omega
instance : Inhabited A5 := ⟨a0⟩
instance : Inhabited O3 := ⟨o0⟩
section
variable {H : Type} {enc : TypeId × Value → H} {W : World} {base b0 : Nat} {v : Value} {d : DataW H} {p : List MemPlace}
theorem bi_in {n : Nat} {cs : List Value} {x : DataW H × List MemPlace} (h : DataW.trod enc Try.prog W b0 (fun _ => true) true n 26 cs = some x) :
    ∃ (u : Value) (l : Is), cs = [u] ∧ IsI W u l ∧ l.length ≤ 9223372036854775807 ∧ ∀ f ∈ l, i64r f := by
  rcases open_ints Try.underlying26 Try.underlying3 cells3 h with ⟨hcs, _⟩ | ⟨a, len, cap, zs, hcs, _, hl, hm, hz, _, hc, hw⟩
  · exact ⟨_, [], hcs, ⟨none, 0, rfl, Nat.le_refl _, fun h => absurd rfl h⟩, by simp, fun f hf => by cases hf⟩
  · simp only [if_true] at hz
    have hlen : (zs.take len).length = len := by rw [List.length_take]; omega
    refine ⟨_, zs.take len, hcs, ⟨some a, cap, by rw [hlen], by rw [hlen]; exact hl, fun hne => ?_⟩, by rw [hlen]; unfold maxLen at hm; omega, fun f hf => ?_⟩
    · have hp : 0 < len := by
        rcases Nat.eq_zero_or_pos len with e | e
        · exfalso; apply hne; rw [e]; rfl
        · exact e
      have g := hc 0 (by omega)
      obtain ⟨b, off, rfl, hb⟩ := addr_plain g
      refine ⟨b, off, rfl, hb, fun k hk => ?_⟩
      rw [hlen] at hk
      have := hc k (by omega)
      rw [add_at] at this
      rw [this, List.getD_eq_getElem?_getD, List.getD_eq_getElem?_getD, List.getElem?_take_of_lt hk]
    · have hf2 := List.mem_of_mem_take hf
      exact wf_i64 (hw f hf2)
theorem int_in {n : Nat} {c : Value} {x : DataW H × List MemPlace} (h : DataW.trod enc Try.prog W b0 (fun _ => true) true n 3 [c] = some x) : ∃ z, c = .int .i64 z ∧ i64r z := by
  obtain ⟨z, e, _, w⟩ := DataW.trod_int Try.underlying3 (show DataW.trod _ Try.prog W _ _ _ n 3 [c] = some x from h)
  simp only [List.cons.injEq, and_true] at e
  exact ⟨z, e, wf_i64 w⟩

theorem bool_in {n : Nat} {c : Value} {x : DataW H × List MemPlace} (h : DataW.trod enc Try.prog W b0 (fun _ => true) true n 4 [c] = some x) : ∃ z, c = .bool z := by
  obtain ⟨z, e, _⟩ := DataW.trod_bool Try.underlying4 h
  simp only [List.cons.injEq, and_true] at e
  exact ⟨z, e⟩
theorem acc_in {n : Nat} {cs : List Value} {x : DataW H × List MemPlace} (hcl : cs.length = 5) (ht : DataW.trod enc Try.prog W b0 (fun _ => true) true n 42 cs = some x) :
    ∃ a : A5, cs = acC a ∧ i64r a.pa ∧ i64r a.us ∧ i64r a.mn ∧ i64r a.lo ∧ i64r a.mx := by
  obtain ⟨xs, m', _, _, _, hlen, hg⟩ := DataW.trod_struct Try.underlying42 ht
  have g0 : DataW.trod enc Try.prog W b0 (fun _ => true) true m' 3 ((cs.drop 0).take (Try.prog.cellsOf 3)) = xs[0]? := hg 0 _ rfl
  have g1 : DataW.trod enc Try.prog W b0 (fun _ => true) true m' 3 ((cs.drop 1).take (Try.prog.cellsOf 3)) = xs[1]? := hg 1 _ rfl
  have g2 : DataW.trod enc Try.prog W b0 (fun _ => true) true m' 3 ((cs.drop 2).take (Try.prog.cellsOf 3)) = xs[2]? := hg 2 _ rfl
  have g3 : DataW.trod enc Try.prog W b0 (fun _ => true) true m' 3 ((cs.drop 3).take (Try.prog.cellsOf 3)) = xs[3]? := hg 3 _ rfl
  have g4 : DataW.trod enc Try.prog W b0 (fun _ => true) true m' 3 ((cs.drop 4).take (Try.prog.cellsOf 3)) = xs[4]? := hg 4 _ rfl
  rw [cells3] at g0 g1 g2 g3 g4
  match cs, hcl with
  | [z0, z1, z2, z3, z4], _ =>
    simp only [List.drop, List.take] at g0 g1 g2 g3 g4
    have h3 : xs.length = 5 := hlen
    rw [List.getElem?_eq_getElem (show 0 < xs.length by omega)] at g0
    rw [List.getElem?_eq_getElem (show 1 < xs.length by omega)] at g1
    rw [List.getElem?_eq_getElem (show 2 < xs.length by omega)] at g2
    rw [List.getElem?_eq_getElem (show 3 < xs.length by omega)] at g3
    rw [List.getElem?_eq_getElem (show 4 < xs.length by omega)] at g4
    obtain ⟨q0, rfl, w0⟩ := int_in g0
    obtain ⟨q1, rfl, w1⟩ := int_in g1
    obtain ⟨q2, rfl, w2⟩ := int_in g2
    obtain ⟨q3, rfl, w3⟩ := int_in g3
    obtain ⟨q4, rfl, w4⟩ := int_in g4
    exact ⟨⟨q0, q1, q2, q3, q4⟩, rfl, w0, w1, w2, w3, w4⟩
theorem op_in {n : Nat} {cs : List Value} {x : DataW H × List MemPlace} (hcl : cs.length = 3) (ht : DataW.trod enc Try.prog W b0 (fun _ => true) true n 34 cs = some x) :
    ∃ o : O3, cs = opC o ∧ i64r o.ac ∧ i64r o.n := by
  obtain ⟨xs, m', _, _, _, hlen, hg⟩ := DataW.trod_struct Try.underlying34 ht
  have g0 : DataW.trod enc Try.prog W b0 (fun _ => true) true m' 4 ((cs.drop 0).take (Try.prog.cellsOf 4)) = xs[0]? := hg 0 _ rfl
  have g1 : DataW.trod enc Try.prog W b0 (fun _ => true) true m' 3 ((cs.drop 1).take (Try.prog.cellsOf 3)) = xs[1]? := hg 1 _ rfl
  have g2 : DataW.trod enc Try.prog W b0 (fun _ => true) true m' 3 ((cs.drop 2).take (Try.prog.cellsOf 3)) = xs[2]? := hg 2 _ rfl
  rw [cells3] at g1 g2
  rw [cells4] at g0
  match cs, hcl with
  | [z0, z1, z2], _ =>
    simp only [List.drop, List.take] at g0 g1 g2
    have h3 : xs.length = 3 := hlen
    rw [List.getElem?_eq_getElem (show 0 < xs.length by omega)] at g0
    rw [List.getElem?_eq_getElem (show 1 < xs.length by omega)] at g1
    rw [List.getElem?_eq_getElem (show 2 < xs.length by omega)] at g2
    obtain ⟨q0, rfl⟩ := bool_in g0
    obtain ⟨q1, rfl, w1⟩ := int_in g1
    obtain ⟨q2, rfl, w2⟩ := int_in g2
    exact ⟨⟨q0, q1, q2⟩, rfl, w1, w2⟩
theorem ask_in {n : Nat} {cs : List Value} {x : DataW H × List MemPlace} (hcl : cs.length = 3) (ht : DataW.trod enc Try.prog W b0 (fun _ => true) true n 49 cs = some x) :
    ∃ (a s : Int) (b : Bool), cs = [.int .i64 a, .int .i64 s, .bool b] := by
  obtain ⟨xs, m', _, _, _, hlen, hg⟩ := DataW.trod_struct Try.underlying49 ht
  have g0 : DataW.trod enc Try.prog W b0 (fun _ => true) true m' 3 ((cs.drop 0).take (Try.prog.cellsOf 3)) = xs[0]? := hg 0 _ rfl
  have g1 : DataW.trod enc Try.prog W b0 (fun _ => true) true m' 3 ((cs.drop 1).take (Try.prog.cellsOf 3)) = xs[1]? := hg 1 _ rfl
  have g2 : DataW.trod enc Try.prog W b0 (fun _ => true) true m' 4 ((cs.drop 2).take (Try.prog.cellsOf 4)) = xs[2]? := hg 2 _ rfl
  rw [cells3] at g0 g1
  rw [cells4] at g2
  match cs, hcl with
  | [z0, z1, z2], _ =>
    simp only [List.drop, List.take] at g0 g1 g2
    have h3 : xs.length = 3 := hlen
    rw [List.getElem?_eq_getElem (show 0 < xs.length by omega)] at g0
    rw [List.getElem?_eq_getElem (show 1 < xs.length by omega)] at g1
    rw [List.getElem?_eq_getElem (show 2 < xs.length by omega)] at g2
    obtain ⟨q0, rfl, w0⟩ := int_in g0
    obtain ⟨q1, rfl, w1⟩ := int_in g1
    obtain ⟨q2, rfl⟩ := bool_in g2
    exact ⟨q0, q1, q2, rfl⟩
theorem open_acs (hv : Value.okWide Try.prog W .any base 22 v) (h : DataW.Trod enc Try.prog W b0 (fun _ => true) true 22 v d p) :
    ∃ (A : Option Addr) (c : Nat) (L : List A5), v = .slice A L.length c ∧ AIn W A L c := by
  obtain ⟨a0, len0, cap0, rfl⟩ := okWide_slice Try.underlying22 hv
  obtain ⟨fuel, hf⟩ := h
  rcases open_slice Try.underlying22 hf with ⟨hcs, _⟩ | ⟨a, len, cap, m, n', D, Pl, hcs, _, hl, hm, hmm, _, hi⟩
  · simp [Value.cells] at hcs
    obtain ⟨rfl, rfl, rfl⟩ := hcs
    exact ⟨none, 0, [], rfl, ⟨fun h => absurd rfl h, fun k hk => absurd hk (by simp), by simp, Nat.le_refl _⟩⟩
  · simp only [if_true] at hmm
    subst hmm
    simp [Value.cells] at hcs
    obtain ⟨rfl, rfl, rfl⟩ := hcs
    have each : ∀ i, i < len0 → ∃ q : A5, (∀ j, j < 5 → W.cell? (a.add (i * 5 + j)) = (acC q)[j]?) ∧ i64r q.pa ∧ i64r q.us ∧ i64r q.mn ∧ i64r q.lo ∧ i64r q.mx := by
      intro i hil
      obtain ⟨cs', hc, ht⟩ := hi i (by omega)
      rw [cells42] at hc
      obtain ⟨_, hcl, hcell⟩ := World.cells?_some hc
      obtain ⟨q, rfl, hw⟩ := acc_in hcl ht
      refine ⟨q, fun j hj => ?_, hw⟩
      have c0 := hcell j (by omega)
      rwa [Go.Deep.add_add] at c0
    obtain ⟨q, hq⟩ := choose_lt each
    have hlen : ((List.range len0).map q).length = len0 := by simp
    have hat : ∀ k, k < len0 → aAt ((List.range len0).map q) k = q k := fun k hk => by unfold aAt; rw [List.getD_eq_getElem?_getD, List.getElem?_map, List.getElem?_range hk]; rfl
    refine ⟨some a, _, (List.range len0).map q, by rw [hlen], ⟨fun hne => ?_, fun k hk => ?_, by rw [hlen]; unfold maxLen at hm; omega, by rw [hlen]; exact hl⟩⟩
    rotate_left 1
    · rw [hlen] at hk
      unfold pa us mn lo mx
      rw [hat k hk]
      exact (hq k hk).2
    have hp : 0 < len0 := by
      rcases Nat.eq_zero_or_pos len0 with e | e
      · exfalso; apply hne; rw [e]; rfl
      · exact e
    have g := (hq 0 hp).1 0 (by omega)
    rw [Nat.zero_mul] at g
    obtain ⟨b, off, rfl, hb⟩ := addr_plain (v := (acC (q 0)).getD 0 undef) (by rw [g]; rfl)
    refine ⟨b, off, rfl, hb, fun k hk j hj => ?_⟩
    rw [hlen] at hk
    have g0 := (hq k hk).1 j hj
    rw [add_at] at g0
    rw [hat k hk, Nat.add_assoc]
    exact g0
theorem open_ops (hv : Value.okWide Try.prog W .any base 32 v) (h : DataW.Trod enc Try.prog W b0 (fun _ => true) true 32 v d p) :
    ∃ (A : Option Addr) (c : Nat) (L : List O3), v = .slice A L.length c ∧ OpsR W A L ∧ L.length ≤ 9223372036854775807 := by
  obtain ⟨a0, len0, cap0, rfl⟩ := okWide_slice Try.underlying32 hv
  obtain ⟨fuel, hf⟩ := h
  rcases open_slice Try.underlying32 hf with ⟨hcs, _⟩ | ⟨a, len, cap, m, n', D, Pl, hcs, _, hl, hm, hmm, _, hi⟩
  · simp [Value.cells] at hcs
    obtain ⟨rfl, rfl, rfl⟩ := hcs
    exact ⟨none, 0, [], rfl, fun h => absurd rfl h, by simp⟩
  · simp only [if_true] at hmm
    subst hmm
    simp [Value.cells] at hcs
    obtain ⟨rfl, rfl, rfl⟩ := hcs
    have each : ∀ i, i < len0 → ∃ q : O3, (∀ j, j < 3 → W.cell? (a.add (i * 3 + j)) = (opC q)[j]?) ∧ i64r q.ac ∧ i64r q.n := by
      intro i hil
      obtain ⟨cs', hc, ht⟩ := hi i (by omega)
      rw [cells34] at hc
      obtain ⟨_, hcl, hcell⟩ := World.cells?_some hc
      obtain ⟨q, rfl, hw⟩ := op_in hcl ht
      refine ⟨q, fun j hj => ?_, hw⟩
      have c0 := hcell j (by omega)
      rwa [Go.Deep.add_add] at c0
    obtain ⟨q, hq⟩ := choose_lt each
    have hlen : ((List.range len0).map q).length = len0 := by simp
    have hat : ∀ k, k < len0 → oAt ((List.range len0).map q) k = q k := fun k hk => by unfold oAt; rw [List.getD_eq_getElem?_getD, List.getElem?_map, List.getElem?_range hk]; rfl
    refine ⟨some a, _, (List.range len0).map q, by rw [hlen], fun hne => ?_, by rw [hlen]; unfold maxLen at hm; omega⟩
    have hp : 0 < len0 := by
      rcases Nat.eq_zero_or_pos len0 with e | e
      · exfalso; apply hne; rw [e]; rfl
      · exact e
    have g := (hq 0 hp).1 0 (by omega)
    rw [Nat.zero_mul] at g
    obtain ⟨b, off, rfl, hb⟩ := addr_plain (v := (opC (q 0)).getD 0 undef) (by rw [g]; rfl)
    refine ⟨b, off, rfl, hb, fun k hk j hj => ?_⟩
    rw [hlen] at hk
    have g0 := (hq k hk).1 j hj
    rw [add_at] at g0
    rw [hat k hk, Nat.add_assoc]
    exact g0
theorem open_op (hv : Value.okWide Try.prog W .any base 34 v) (h : DataW.Trod enc Try.prog W b0 (fun _ => true) true 34 v d p) : ∃ o : O3, v = .agg #[.bool o.tk, .int .i64 o.ac, .int .i64 o.n] ∧ i64r o.ac ∧ i64r o.n := by
  obtain ⟨cs, rfl, hsz⟩ := okWide_struct Try.underlying34 hv
  obtain ⟨l⟩ := cs
  obtain ⟨fuel, hf⟩ := h
  obtain ⟨o, e, w1, w2⟩ := op_in (by simpa [Value.cells] using hsz.trans cells34) hf
  simp [Value.cells] at e
  subst e
  exact ⟨o, rfl, w1, w2⟩
theorem open_ask (hv : Value.okWide Try.prog W .any base 49 v) (h : DataW.Trod enc Try.prog W b0 (fun _ => true) true 49 v d p) : ∃ (a s : Int) (b : Bool), v = .agg #[.int .i64 a, .int .i64 s, .bool b] := by
  obtain ⟨cs, rfl, hsz⟩ := okWide_struct Try.underlying49 hv
  obtain ⟨l⟩ := cs
  obtain ⟨fuel, hf⟩ := h
  obtain ⟨a, s, b, e⟩ := ask_in (by simpa [Value.cells] using hsz.trans cells49) hf
  simp [Value.cells] at e
  subst e
  exact ⟨a, s, b, rfl⟩
theorem open_three (hv : Value.okWide Try.prog W .any base 57 v) (h : DataW.Trod enc Try.prog W b0 (fun _ => true) true 57 v d p) : ∃ (x y z : Int), v = .agg #[.int .i64 x, .int .i64 y, .int .i64 z] ∧ i64r x ∧ i64r y ∧ i64r z := by
  simp only [Value.okWide, Try.underlying57] at hv
  obtain ⟨cs, rfl, hsz, _⟩ := hv
  obtain ⟨l⟩ := cs
  rw [cells57] at hsz
  match l, hsz with
  | [c0, c1, c2], _ =>
    obtain ⟨fuel, hf⟩ := h
    obtain ⟨xs, m, _, hx, _, hlen, hg⟩ := DataW.trod_array Try.underlying57 hf
    match xs, hlen with
    | [y0, y1, y2], _ =>
      have g0 := hg 0 (by omega)
      have g1 := hg 1 (by omega)
      have g2 := hg 2 (by omega)
      simp only [cells3, Value.cells] at g0 g1 g2
      obtain ⟨a, e0, w0⟩ := int_in (show DataW.trod enc Try.prog W b0 (fun _ => true) true m 3 [c0] = some y0 by simpa using g0)
      obtain ⟨b, e1, w1⟩ := int_in (show DataW.trod enc Try.prog W b0 (fun _ => true) true m 3 [c1] = some y1 by simpa using g1)
      obtain ⟨c, e2, w2⟩ := int_in (show DataW.trod enc Try.prog W b0 (fun _ => true) true m 3 [c2] = some y2 by simpa using g2)
      subst e0 e1 e2
      exact ⟨a, b, c, rfl, w0, w1, w2⟩
theorem open_is (hv : Value.okWide Try.prog W .any base 26 v) (h : DataW.Trod enc Try.prog W b0 (fun _ => true) true 26 v d p) :
    ∃ (A : Option Addr) (c : Nat) (l : Is), v = .slice A l.length c ∧ Bi W A l ∧ l.length ≤ 9223372036854775807 ∧ ∀ f ∈ l, i64r f := by
  obtain ⟨a0, len0, cap0, rfl⟩ := okWide_slice Try.underlying26 hv
  obtain ⟨fuel, hf⟩ := h
  obtain ⟨u, l, e, ⟨A, c, hu, hc, hr⟩, hb, hw⟩ := bi_in hf
  simp [Value.cells] at e
  subst e
  exact ⟨A, c, l, hu, hr, hb, hw⟩
end
end Go.Proofs.Ytclkflnonckajaa.Ac
