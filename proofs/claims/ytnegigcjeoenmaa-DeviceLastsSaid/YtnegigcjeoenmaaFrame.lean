import Derived.Test.YtnegigcjeoenmaaRow
import Derived.ProofKit
import Derived.OpenShut
import Derived.Deep.DeepHandedRow
import Derived.Deep.SlicePairs
import Derived.Lib.LaidTab
import Derived.Lib.SmallJoins
import Derived.Carry
namespace Go.Proofs.Ytnegigcjeoenmaa.Dv
open Go.ChangeShapes Go.WideShapes Go.ChangeAt Go.RowKit Go.Joins Go.Deep
set_option linter.unusedVariables false
theorem ownKnobNone : ownKnob Try.prog.godebug = none := by kernel_rfl
theorem laidOut : laidOutB Try.prog = true := by kernel_rfl
theorem cells3 : Try.prog.cellsOf 3 = 1 := by kernel_rfl
theorem cells5 : Try.prog.cellsOf 5 = 1 := by kernel_rfl
theorem cells35 : Try.prog.cellsOf 35 = 1 := by kernel_rfl
theorem cells22 : Try.prog.cellsOf 22 = 1 := by kernel_rfl
theorem cells25 : Try.prog.cellsOf 25 = 1 := by kernel_rfl
theorem cells26 : Try.prog.cellsOf 26 = 1 := by kernel_rfl
theorem cells64 : Try.prog.cellsOf 64 = 2 := by kernel_rfl
theorem cells39 : Try.prog.cellsOf 39 = 4 := by kernel_rfl
theorem cells28 : Try.prog.cellsOf 28 = 5 := by kernel_rfl
theorem add_at (b off k : Nat) : (⟨b, off, none⟩ : Addr).add k = ⟨b, off + k, none⟩ := by
  unfold Addr.add
  by_cases h : k = 0 <;> simp [h]
/-- where a cell can be read at an address, it is a plain one in an old block -/
theorem addr_plain {W : World} {a : Addr} {v : Value} (h : W.cell? (a.add 0) = some v) : ∃ b off, a = ⟨b, off, none⟩ ∧ b < W.heap.size := by
  obtain ⟨b, off, sp⟩ := a
  have hsp : sp = none := by
    cases sp with
    | none => rfl
    | some s =>
      exfalso
      simp only [World.cell?, Addr.add] at h
      split at h
      · simp at h
      · cases h
  subst hsp
  refine ⟨b, off, rfl, ?_⟩
  rcases Nat.lt_or_ge b W.heap.size with h1 | h1
  · exact h1
  · exfalso
    have h2 : W.heap[b]? = Option.none := Array.getElem?_eq_none h1
    rw [add_at] at h
    simp [World.cell?, h2] at h
theorem range_at {α : Type} [Inhabited α] (f : Nat → α) (d : α) {n k : Nat} (hk : k < n) : ((List.range n).map f).getD k d = f k := by
  rw [List.getD_eq_getElem?_getD, List.getElem?_map, List.getElem?_range hk]; rfl
/-- no list is longer than a machine counts -/
structure Big (D : Dev) : Prop where
  bl : D.bl.length ≤ 9223372036854775807
  ca : D.ca.length ≤ 9223372036854775807
  qu : D.qu.length ≤ 9223372036854775807
  bb : ∀ b ∈ D.bl, b.length ≤ 9223372036854775807
  cb : ∀ c ∈ D.ca, c.2.length ≤ 9223372036854775807
  qb : ∀ q ∈ D.qu, q.2.2.2.length ≤ 9223372036854775807
section
variable {H : Type} {enc : TypeId × Value → H} {W : World} {base b0 : Nat} {v : Value} {d : DataW H} {p : List MemPlace}
theorem one_of {cs : List Value} {k j : Nat} (hl : cs.length = k) (hj : j < k) : (cs.drop j).take 1 = [cs[j]'(by omega)] := by
  rw [List.drop_eq_getElem_cons (by omega)]
  rfl
theorem bs_in {n : Nat} {cs : List Value} {x : DataW H × List MemPlace} (h : DataW.trod enc Try.prog W b0 (fun _ => true) true n 35 cs = some x) :
    ∃ (u : Value) (l : By), cs = [u] ∧ IsBs W u l ∧ l.length ≤ 9223372036854775807 := by
  rcases open_ints Try.underlying35 Try.underlying5 cells5 h with ⟨hcs, _⟩ | ⟨a, len, cap, zs, hcs, _, hl, hm, hz, _, hc, hw⟩
  · exact ⟨_, [], hcs, ⟨none, 0, rfl, Nat.le_refl _, fun h => absurd rfl h⟩, by simp⟩
  · simp only [if_true] at hz
    have hlen : (zs.take len).length = len := by rw [List.length_take]; omega
    refine ⟨_, zs.take len, hcs, ⟨some a, cap, by rw [hlen], by rw [hlen]; exact hl, fun hne => ?_⟩, by rw [hlen]; unfold maxLen at hm; omega⟩
    have hp : 0 < len := by
      rcases Nat.eq_zero_or_pos len with e | e
      · exfalso; apply hne; rw [e]; rfl
      · exact e
    have g := hc 0 (by omega)
    obtain ⟨b, off, rfl, hb⟩ := addr_plain g
    refine ⟨b, off, rfl, hb, fun k hk => ?_⟩
    rw [hlen] at hk
    have := hc k (by omega)
    rw [add_at] at this
    rw [this, List.getD_eq_getElem?_getD, List.getD_eq_getElem?_getD, List.getElem?_take_of_lt hk]
theorem bl_in {n : Nat} {cs : List Value} {x : DataW H × List MemPlace} (h : DataW.trod enc Try.prog W b0 (fun _ => true) true n 22 cs = some x) :
    ∃ (A : Option Addr) (c : Nat) (L : List By), cs = [.slice A L.length c] ∧ L.length ≤ c ∧ RdB W A L ∧ L.length ≤ 9223372036854775807 ∧ ∀ b ∈ L, b.length ≤ 9223372036854775807 := by
  rcases open_slice1 Try.underlying22 cells35 h with ⟨hcs, _⟩ | ⟨a, len, cap, m, n', V, D, Pl, hcs, _, hl, hm, hmm, _, hi⟩
  · exact ⟨none, 0, [], hcs, Nat.le_refl _, fun h => absurd rfl h, by simp, fun b hb => by cases hb⟩
  · simp only [if_true] at hmm
    subst hmm
    have each : ∀ i, i < len → ∃ q : By, W.cell? (a.add i) = some (V i) ∧ IsBs W (V i) q ∧ q.length ≤ 9223372036854775807 := by
      intro i hil
      obtain ⟨hc, ht⟩ := hi i (by omega)
      obtain ⟨u, q, e, hq, hb⟩ := bs_in ht
      injection e with e
      subst e
      exact ⟨q, hc, hq, hb⟩
    obtain ⟨q, hq⟩ := choose_lt each
    have hlen : ((List.range len).map q).length = len := by simp
    refine ⟨some a, _, (List.range len).map q, by rw [hlen]; exact hcs, by rw [hlen]; exact hl, fun hne => ?_, by rw [hlen]; unfold maxLen at hm; omega, fun b hb => ?_⟩
    · have hp : 0 < len := by
        rcases Nat.eq_zero_or_pos len with e | e
        · exfalso; apply hne; rw [e]; rfl
        · exact e
      have g := (hq 0 hp).1
      obtain ⟨b, off, rfl, hb⟩ := addr_plain g
      refine ⟨b, off, rfl, hb, fun k hk => ?_⟩
      rw [hlen] at hk
      obtain ⟨g0, g1, _⟩ := hq k hk
      rw [add_at] at g0
      exact ⟨V k, g0, by unfold bAt; rw [range_at q _ hk]; exact g1⟩
    · obtain ⟨i, hi2, rfl⟩ := List.mem_map.1 hb
      exact (hq i (List.mem_range.1 hi2)).2.2
theorem ca_in {n : Nat} {cs : List Value} {x : DataW H × List MemPlace} (h : DataW.trod enc Try.prog W b0 (fun _ => true) true n 25 cs = some x) :
    ∃ (A : Option Addr) (c : Nat) (L : List Ca), cs = [.slice A L.length c] ∧ L.length ≤ c ∧ RdC W A L ∧ L.length ≤ 9223372036854775807 ∧ ∀ b ∈ L, b.2.length ≤ 9223372036854775807 := by
  rcases open_slice Try.underlying25 h with ⟨hcs, _⟩ | ⟨a, len, cap, m, n', D, Pl, hcs, _, hl, hm, hmm, _, hi⟩
  · exact ⟨none, 0, [], hcs, Nat.le_refl _, fun h => absurd rfl h, by simp, fun b hb => by cases hb⟩
  · simp only [if_true] at hmm
    subst hmm
    have each : ∀ i, i < len → ∃ q : Ca × Value, W.cell? (a.add (i * 2)) = some (.int .i64 q.1.1) ∧ W.cell? (a.add (i * 2 + 1)) = some q.2 ∧ IsBs W q.2 q.1.2 ∧ q.1.2.length ≤ 9223372036854775807 := by
      intro i hil
      obtain ⟨cs', hc, ht⟩ := hi i (by omega)
      rw [cells64] at hc
      obtain ⟨_, hcl, hcell⟩ := World.cells?_some hc
      obtain ⟨xs, m', _, _, _, hlen, hg⟩ := DataW.trod_struct Try.underlying64 ht
      have g0 : DataW.trod enc Try.prog W b0 (fun _ => true) true m' 3 ((cs'.drop 0).take (Try.prog.cellsOf 3)) = xs[0]? := hg 0 _ rfl
      have g1 : DataW.trod enc Try.prog W b0 (fun _ => true) true m' 35 ((cs'.drop 1).take (Try.prog.cellsOf 35)) = xs[1]? := hg 1 _ rfl
      rw [cells3] at g0
      rw [cells35] at g1
      rw [one_of hcl (by omega)] at g0 g1
      have h3 : xs.length = 2 := hlen
      rw [List.getElem?_eq_getElem (show 0 < xs.length by omega)] at g0
      rw [List.getElem?_eq_getElem (show 1 < xs.length by omega)] at g1
      obtain ⟨q0, e0, _, w0⟩ := DataW.trod_int Try.underlying3 g0
      obtain ⟨u, q1, e1, hq, hb⟩ := bs_in g1
      simp only [List.cons.injEq, and_true] at e0 e1
      have c0 := hcell 0 (by omega)
      have c1 := hcell 1 (by omega)
      rw [Go.Deep.add_add] at c0 c1
      refine ⟨((q0, q1), u), ?_, ?_, hq, hb⟩
      · rw [Nat.add_zero] at c0; rw [c0, List.getElem?_eq_getElem (by omega), e0]
      · rw [c1, List.getElem?_eq_getElem (by omega), e1]
    obtain ⟨q, hq⟩ := choose_lt each
    have hlen : ((List.range len).map fun i => (q i).1).length = len := by simp
    refine ⟨some a, _, (List.range len).map fun i => (q i).1, by rw [hlen]; exact hcs, by rw [hlen]; exact hl, fun hne => ?_, by rw [hlen]; unfold maxLen at hm; omega, fun b hb => ?_⟩
    · have hp : 0 < len := by
        rcases Nat.eq_zero_or_pos len with e | e
        · exfalso; apply hne; rw [e]; rfl
        · exact e
      have g := (hq 0 hp).1
      rw [Nat.zero_mul] at g
      obtain ⟨b, off, rfl, hb⟩ := addr_plain g
      refine ⟨b, off, rfl, hb, fun k hk => ?_⟩
      rw [hlen] at hk
      obtain ⟨g0, g1, g2, _⟩ := hq k hk
      rw [add_at] at g0 g1
      have e : cAt ((List.range len).map fun i => (q i).1) k = (q k).1 := by unfold cAt; rw [range_at (fun i => (q i).1) _ hk]
      rw [e]
      exact ⟨(q k).2, g0, by rw [Nat.add_assoc]; exact g1, g2⟩
    · obtain ⟨i, hi2, rfl⟩ := List.mem_map.1 hb
      exact (hq i (List.mem_range.1 hi2)).2.2.2
/-- FOUR CELLS THAT ARE A REQUEST -/
theorem rq_in {n : Nat} {cs : List Value} {x : DataW H × List MemPlace} (hcl : cs.length = 4) (ht : DataW.trod enc Try.prog W b0 (fun _ => true) true n 39 cs = some x) :
    ∃ q : Rq × Value, cs = [.int .i64 q.1.1, .int .i64 q.1.2.1, .int .i64 q.1.2.2.1, q.2] ∧ IsBs W q.2 q.1.2.2.2 ∧ q.1.2.2.2.length ≤ 9223372036854775807 := by
  obtain ⟨xs, m', _, _, _, hlen, hg⟩ := DataW.trod_struct Try.underlying39 ht
  have g0 : DataW.trod enc Try.prog W b0 (fun _ => true) true m' 3 ((cs.drop 0).take (Try.prog.cellsOf 3)) = xs[0]? := hg 0 _ rfl
  have g1 : DataW.trod enc Try.prog W b0 (fun _ => true) true m' 3 ((cs.drop 1).take (Try.prog.cellsOf 3)) = xs[1]? := hg 1 _ rfl
  have g2 : DataW.trod enc Try.prog W b0 (fun _ => true) true m' 3 ((cs.drop 2).take (Try.prog.cellsOf 3)) = xs[2]? := hg 2 _ rfl
  have g3 : DataW.trod enc Try.prog W b0 (fun _ => true) true m' 35 ((cs.drop 3).take (Try.prog.cellsOf 35)) = xs[3]? := hg 3 _ rfl
  rw [cells3] at g0 g1 g2
  rw [cells35] at g3
  match cs, hcl with
  | [z0, z1, z2, z3], _ =>
    simp only [List.drop, List.take] at g0 g1 g2 g3
    have h3 : xs.length = 4 := hlen
    rw [List.getElem?_eq_getElem (show 0 < xs.length by omega)] at g0
    rw [List.getElem?_eq_getElem (show 1 < xs.length by omega)] at g1
    rw [List.getElem?_eq_getElem (show 2 < xs.length by omega)] at g2
    rw [List.getElem?_eq_getElem (show 3 < xs.length by omega)] at g3
    obtain ⟨q0, e0, _, w0⟩ := DataW.trod_int Try.underlying3 g0
    obtain ⟨q1, e1, _, w1⟩ := DataW.trod_int Try.underlying3 g1
    obtain ⟨q2, e2, _, w2⟩ := DataW.trod_int Try.underlying3 g2
    obtain ⟨u, q3, e3, hq, hb⟩ := bs_in g3
    simp only [List.cons.injEq, and_true] at e0 e1 e2 e3
    exact ⟨((q0, q1, q2, q3), u), by rw [e0, e1, e2, e3], hq, hb⟩
theorem qu_in {n : Nat} {cs : List Value} {x : DataW H × List MemPlace} (h : DataW.trod enc Try.prog W b0 (fun _ => true) true n 26 cs = some x) :
    ∃ (A : Option Addr) (c : Nat) (L : List Rq), cs = [.slice A L.length c] ∧ L.length ≤ c ∧ RdQ W A L ∧ L.length ≤ 9223372036854775807 ∧ ∀ b ∈ L, b.2.2.2.length ≤ 9223372036854775807 := by
  rcases open_slice Try.underlying26 h with ⟨hcs, _⟩ | ⟨a, len, cap, m, n', D, Pl, hcs, _, hl, hm, hmm, _, hi⟩
  · exact ⟨none, 0, [], hcs, Nat.le_refl _, fun h => absurd rfl h, by simp, fun b hb => by cases hb⟩
  · simp only [if_true] at hmm
    subst hmm
    have each : ∀ i, i < len → ∃ q : Rq × Value, W.cell? (a.add (i * 4)) = some (.int .i64 q.1.1) ∧ W.cell? (a.add (i * 4 + 1)) = some (.int .i64 q.1.2.1) ∧ W.cell? (a.add (i * 4 + 2)) = some (.int .i64 q.1.2.2.1) ∧ W.cell? (a.add (i * 4 + 3)) = some q.2 ∧ IsBs W q.2 q.1.2.2.2 ∧ q.1.2.2.2.length ≤ 9223372036854775807 := by
      intro i hil
      obtain ⟨cs', hc, ht⟩ := hi i (by omega)
      rw [cells39] at hc
      obtain ⟨_, hcl, hcell⟩ := World.cells?_some hc
      obtain ⟨q, rfl, hq, hb⟩ := rq_in hcl ht
      have c0 := hcell 0 (by omega)
      have c1 := hcell 1 (by omega)
      have c2 := hcell 2 (by omega)
      have c3 := hcell 3 (by omega)
      rw [Go.Deep.add_add] at c0 c1 c2 c3
      rw [Nat.add_zero] at c0
      exact ⟨q, c0, c1, c2, c3, hq, hb⟩
    obtain ⟨q, hq⟩ := choose_lt each
    have hlen : ((List.range len).map fun i => (q i).1).length = len := by simp
    refine ⟨some a, _, (List.range len).map fun i => (q i).1, by rw [hlen]; exact hcs, by rw [hlen]; exact hl, fun hne => ?_, by rw [hlen]; unfold maxLen at hm; omega, fun b hb => ?_⟩
    · have hp : 0 < len := by
        rcases Nat.eq_zero_or_pos len with e | e
        · exfalso; apply hne; rw [e]; rfl
        · exact e
      have g := (hq 0 hp).1
      rw [Nat.zero_mul] at g
      obtain ⟨b, off, rfl, hb⟩ := addr_plain g
      refine ⟨b, off, rfl, hb, fun k hk => ?_⟩
      rw [hlen] at hk
      obtain ⟨g0, g1, g2, g3, g4, _⟩ := hq k hk
      rw [add_at] at g0 g1 g2 g3
      have e : qAt ((List.range len).map fun i => (q i).1) k = (q k).1 := by unfold qAt; rw [range_at (fun i => (q i).1) _ hk]
      rw [e]
      exact ⟨(q k).2, g0, by rw [Nat.add_assoc]; exact g1, by rw [Nat.add_assoc]; exact g2, by rw [Nat.add_assoc]; exact g3, g4⟩
    · obtain ⟨i, hi2, rfl⟩ := List.mem_map.1 hb
      exact (hq i (List.mem_range.1 hi2)).2.2.2.2.2
/-- A DEVICE THAT CAME IN, opened. -/
theorem open_dev (hv : Value.okWide Try.prog W .any base 28 v) (h : DataW.Trod enc Try.prog W b0 (fun _ => true) true 28 v d p) :
    ∃ D : Dev, DevIn W v D ∧ Big D := by
  obtain ⟨cs, rfl, hsz⟩ := okWide_struct Try.underlying28 hv
  obtain ⟨l⟩ := cs
  match l, hsz.trans cells28 with
  | [z0, z1, z2, z3, z4], _ =>
    obtain ⟨fuel, hf⟩ := h
    obtain ⟨xs, m', _, _, _, hlen, hg⟩ := DataW.trod_struct Try.underlying28 hf
    have g0 : DataW.trod enc Try.prog W b0 (fun _ => true) true m' 3 (([z0, z1, z2, z3, z4].drop 0).take (Try.prog.cellsOf 3)) = xs[0]? := hg 0 _ rfl
    have g1 : DataW.trod enc Try.prog W b0 (fun _ => true) true m' 3 (([z0, z1, z2, z3, z4].drop 1).take (Try.prog.cellsOf 3)) = xs[1]? := hg 1 _ rfl
    have g2 : DataW.trod enc Try.prog W b0 (fun _ => true) true m' 22 (([z0, z1, z2, z3, z4].drop 2).take (Try.prog.cellsOf 22)) = xs[2]? := hg 2 _ rfl
    have g3 : DataW.trod enc Try.prog W b0 (fun _ => true) true m' 25 (([z0, z1, z2, z3, z4].drop 3).take (Try.prog.cellsOf 25)) = xs[3]? := hg 3 _ rfl
    have g4 : DataW.trod enc Try.prog W b0 (fun _ => true) true m' 26 (([z0, z1, z2, z3, z4].drop 4).take (Try.prog.cellsOf 26)) = xs[4]? := hg 4 _ rfl
    rw [cells3] at g0 g1
    rw [cells22] at g2
    rw [cells25] at g3
    rw [cells26] at g4
    simp only [List.drop, List.take] at g0 g1 g2 g3 g4
    have h3 : xs.length = 5 := hlen
    rw [List.getElem?_eq_getElem (show 0 < xs.length by omega)] at g0
    rw [List.getElem?_eq_getElem (show 1 < xs.length by omega)] at g1
    rw [List.getElem?_eq_getElem (show 2 < xs.length by omega)] at g2
    rw [List.getElem?_eq_getElem (show 3 < xs.length by omega)] at g3
    rw [List.getElem?_eq_getElem (show 4 < xs.length by omega)] at g4
    obtain ⟨q0, e0, _, w0⟩ := DataW.trod_int Try.underlying3 g0
    obtain ⟨q1, e1, _, w1⟩ := DataW.trod_int Try.underlying3 g1
    obtain ⟨A2, c2, L2, e2, k2, r2, b2, bb2⟩ := bl_in g2
    obtain ⟨A3, c3, L3, e3, k3, r3, b3, bb3⟩ := ca_in g3
    obtain ⟨A4, c4, L4, e4, k4, r4, b4, bb4⟩ := qu_in g4
    simp only [List.cons.injEq, and_true] at e0 e1 e2 e3 e4
    subst e0 e1 e2 e3 e4
    exact ⟨⟨q0, q1, L2, L3, L4⟩, ⟨A2, c2, A3, c3, A4, c4, rfl, k2, k3, k4, r2, r3, r4⟩, ⟨b2, b3, b4, bb2, bb3, bb4⟩⟩
/-- A REQUEST THAT CAME IN, opened. -/
theorem open_req (hv : Value.okWide Try.prog W .any base 39 v) (h : DataW.Trod enc Try.prog W b0 (fun _ => true) true 39 v d p) :
    ∃ (i k b : Int) (u : Value) (l : By), v = .agg #[.int .i64 i, .int .i64 k, .int .i64 b, u] ∧ IsBs W u l ∧ l.length ≤ 9223372036854775807 := by
  obtain ⟨cs, rfl, hsz⟩ := okWide_struct Try.underlying39 hv
  obtain ⟨l⟩ := cs
  obtain ⟨fuel, hf⟩ := h
  obtain ⟨q, e, hq, hb⟩ := rq_in (by simpa [Value.cells] using hsz.trans cells39) hf
  simp [Value.cells] at e
  subst e
  exact ⟨_, _, _, _, _, rfl, hq, hb⟩
/-- BLOCKS THAT CAME IN, opened. -/
theorem open_blocks (hv : Value.okWide Try.prog W .any base 22 v) (h : DataW.Trod enc Try.prog W b0 (fun _ => true) true 22 v d p) :
    ∃ (A : Option Addr) (c : Nat) (L : List By), v = .slice A L.length c ∧ L.length ≤ c ∧ RdB W A L ∧ L.length ≤ 9223372036854775807 ∧ ∀ b ∈ L, b.length ≤ 9223372036854775807 := by
  obtain ⟨a0, len0, cap0, rfl⟩ := okWide_slice Try.underlying22 hv
  obtain ⟨fuel, hf⟩ := h
  obtain ⟨A, c, L, e, r⟩ := bl_in hf
  simp [Value.cells] at e
  obtain ⟨rfl, rfl, rfl⟩ := e
  exact ⟨_, _, L, rfl, r⟩
end
end Go.Proofs.Ytnegigcjeoenmaa.Dv
