import Derived.Test.YtncjicggolmofaaL3
import Derived.Deep.Grids
import Derived.ProofKit
import Derived.OpenShut
import Derived.Deep.DeepHandedRow
import Derived.Deep.SlicePairs
import Derived.Lib.LaidTab
import Derived.Lib.SmallJoins
import Derived.Carry
namespace Go.Proofs.Ytncjicggolmofaa.Sb
open Go.ChangeShapes Go.WideShapes Go.ChangeAt Go.RowKit Go.Joins Go.Deep
set_option linter.unusedVariables false
theorem ownKnobNone : ownKnob Try.prog.godebug = none := by kernel_rfl
theorem laidOut : laidOutB Try.prog = true := by kernel_rfl
theorem cells22 : Try.prog.cellsOf 22 = 1 := by kernel_rfl
theorem cells4 : Try.prog.cellsOf 4 = 1 := by kernel_rfl
theorem cells50 : Try.prog.cellsOf 50 = 1 := by kernel_rfl
theorem cells52 : Try.prog.cellsOf 52 = 2 := by kernel_rfl
theorem cells24 : Try.prog.cellsOf 24 = 2 := by kernel_rfl
theorem cells3 : Try.prog.cellsOf 3 = 1 := by kernel_rfl
theorem add_at (b off k : Nat) : (⟨b, off, none⟩ : Addr).add k = ⟨b, off + k, none⟩ := by
  unfold Addr.add
  by_cases h : k = 0 <;> simp [h]
/-- where a cell can be read at an address, it is a plain one in an old block -/
theorem addr_plain {W : World} {a : Addr} {v : Value} (h : W.cell? (a.add 0) = some v) : ∃ b off, a = ⟨b, off, none⟩ ∧ b < W.heap.size := by
  obtain ⟨b, off, sp⟩ := a
  have hsp : sp = none := by
    cases sp with
    | none => rfl
    | some s =>
      exfalso
      simp only [World.cell?, Addr.add] at h
      split at h
      · simp at h
      · cases h
  subst hsp
  refine ⟨b, off, rfl, ?_⟩
  rcases Nat.lt_or_ge b W.heap.size with h1 | h1
  · exact h1
  · exfalso
    have h2 : W.heap[b]? = Option.none := Array.getElem?_eq_none h1
    rw [add_at] at h
    simp [World.cell?, h2] at h
theorem range_at {α : Type} [Inhabited α] (f : Nat → α) (d : α) {n k : Nat} (hk : k < n) : ((List.range n).map f).getD k d = f k := by
  rw [List.getD_eq_getElem?_getD, List.getElem?_map, List.getElem?_range hk]; rfl
section
variable {H : Type} {enc : TypeId × Value → H} {W : World} {base b0 : Nat} {v : Value} {d : DataW H} {p : List MemPlace}
theorem one_of {cs : List Value} {k j : Nat} (hl : cs.length = k) (hj : j < k) : (cs.drop j).take 1 = [cs[j]'(by omega)] := by
  rw [List.drop_eq_getElem_cons (by omega)]
  rfl
theorem wf_i64 {x : Int} (h : (Lit.int .i64 x).wf = true) : x ≤ 9223372036854775807 ∧ -9223372036854775808 ≤ x := by
  unfold Lit.wf at h
  simp only [Bool.and_eq_true, decide_eq_true_eq, IntKind.min, IntKind.max, IntKind.signed, IntKind.bits] at h
  simp at h
  omega
theorem bs_in {n : Nat} {cs : List Value} {x : DataW H × List MemPlace} (h : DataW.trod enc Try.prog W b0 (fun _ => true) true n 50 cs = some x) :
    ∃ (u : Value) (l : By), cs = [u] ∧ IsBs W u l ∧ l.length ≤ 9223372036854775807 := by
  rcases open_bools Try.underlying50 Try.underlying4 cells4 h with ⟨hcs, _⟩ | ⟨a, len, cap, B, hcs, _, hl, hm, _, hc⟩
  · exact ⟨_, [], hcs, ⟨none, 0, rfl, Nat.le_refl _, fun h => absurd rfl h⟩, by simp⟩
  · have hlen : ((List.range len).map B).length = len := by simp
    refine ⟨_, (List.range len).map B, hcs, ⟨some a, cap, by rw [hlen], by rw [hlen]; exact hl, fun hne => ?_⟩, by rw [hlen]; unfold maxLen at hm; omega⟩
    have hp : 0 < len := by
      rcases Nat.eq_zero_or_pos len with e | e
      · exfalso; apply hne; rw [e]; rfl
      · exact e
    have g := hc 0 (by omega)
    obtain ⟨b, off, rfl, hb⟩ := addr_plain g
    refine ⟨b, off, rfl, hb, fun k hk => ?_⟩
    rw [hlen] at hk
    have := hc k (by omega)
    rw [add_at] at this
    rw [this, range_at B _ hk]
theorem ca_in {n : Nat} {cs : List Value} {x : DataW H × List MemPlace} (h : DataW.trod enc Try.prog W b0 (fun _ => true) true n 22 cs = some x) :
    ∃ (A : Option Addr) (c : Nat) (L : List Ca), cs = [.slice A L.length c] ∧ L.length ≤ c ∧ RdC W A L ∧ L.length ≤ 9223372036854775807 ∧ ∀ b ∈ L, b.2.length ≤ 9223372036854775807 := by
  rcases open_slice Try.underlying22 h with ⟨hcs, _⟩ | ⟨a, len, cap, m, n', D, Pl, hcs, _, hl, hm, hmm, _, hi⟩
  · exact ⟨none, 0, [], hcs, Nat.le_refl _, fun h => absurd rfl h, by simp, fun b hb => by cases hb⟩
  · simp only [if_true] at hmm
    subst hmm
    have each : ∀ i, i < len → ∃ q : Ca × Value, W.cell? (a.add (i * 2)) = some (.int .i64 q.1.1) ∧ W.cell? (a.add (i * 2 + 1)) = some q.2 ∧ IsBs W q.2 q.1.2 ∧ q.1.2.length ≤ 9223372036854775807 := by
      intro i hil
      obtain ⟨cs', hc, ht⟩ := hi i (by omega)
      rw [cells52] at hc
      obtain ⟨_, hcl, hcell⟩ := World.cells?_some hc
      obtain ⟨xs, m', _, _, _, hlen, hg⟩ := DataW.trod_struct Try.underlying52 ht
      have g0 : DataW.trod enc Try.prog W b0 (fun _ => true) true m' 3 ((cs'.drop 0).take (Try.prog.cellsOf 3)) = xs[0]? := hg 0 _ rfl
      have g1 : DataW.trod enc Try.prog W b0 (fun _ => true) true m' 50 ((cs'.drop 1).take (Try.prog.cellsOf 50)) = xs[1]? := hg 1 _ rfl
      rw [cells3] at g0
      rw [cells50] at g1
      rw [one_of hcl (by omega)] at g0 g1
      have h3 : xs.length = 2 := hlen
      rw [List.getElem?_eq_getElem (show 0 < xs.length by omega)] at g0
      rw [List.getElem?_eq_getElem (show 1 < xs.length by omega)] at g1
      obtain ⟨q0, e0, _, w0⟩ := DataW.trod_int Try.underlying3 g0
      obtain ⟨u, q1, e1, hq, hb⟩ := bs_in g1
      simp only [List.cons.injEq, and_true] at e0 e1
      have c0 := hcell 0 (by omega)
      have c1 := hcell 1 (by omega)
      rw [Go.Deep.add_add] at c0 c1
      refine ⟨((q0, q1), u), ?_, ?_, hq, hb⟩
      · rw [Nat.add_zero] at c0; rw [c0, List.getElem?_eq_getElem (by omega), e0]
      · rw [c1, List.getElem?_eq_getElem (by omega), e1]
    obtain ⟨q, hq⟩ := choose_lt each
    have hlen : ((List.range len).map fun i => (q i).1).length = len := by simp
    refine ⟨some a, _, (List.range len).map fun i => (q i).1, by rw [hlen]; exact hcs, by rw [hlen]; exact hl, fun hne => ?_, by rw [hlen]; unfold maxLen at hm; omega, fun b hb => ?_⟩
    · have hp : 0 < len := by
        rcases Nat.eq_zero_or_pos len with e | e
        · exfalso; apply hne; rw [e]; rfl
        · exact e
      have g := (hq 0 hp).1
      rw [Nat.zero_mul] at g
      obtain ⟨b, off, rfl, hb⟩ := addr_plain g
      refine ⟨b, off, rfl, hb, fun k hk => ?_⟩
      rw [hlen] at hk
      obtain ⟨g0, g1, g2, _⟩ := hq k hk
      rw [add_at] at g0 g1
      have e : cAt ((List.range len).map fun i => (q i).1) k = (q k).1 := by unfold cAt; rw [range_at (fun i => (q i).1) _ hk]
      rw [e]
      exact ⟨(q k).2, g0, by rw [Nat.add_assoc]; exact g1, g2⟩
    · obtain ⟨i, hi2, rfl⟩ := List.mem_map.1 hb
      exact (hq i (List.mem_range.1 hi2)).2.2.2
set_option maxRecDepth 100000 in
/-- A CACHE THAT CAME IN, opened. -/
theorem open_cache (hv : Value.okWide Try.prog W .any base 24 v) (h : DataW.Trod enc Try.prog W b0 (fun _ => true) true 24 v d p) :
    ∃ (S : Sc) (A : Option Addr) (c : Nat), v = .agg #[.int .i64 S.ob, .slice A S.sl.length c] ∧ RdC W A S.sl ∧ S.sl.length ≤ 9223372036854775807 ∧ ∀ k, k < S.sl.length → (us S k).length ≤ 9223372036854775807 := by
  obtain ⟨cs, rfl, hsz⟩ := okWide_struct Try.underlying24 hv
  obtain ⟨l⟩ := cs
  match l, hsz.trans cells24 with
  | [z0, z1], _ =>
    obtain ⟨fuel, hf⟩ := h
    obtain ⟨xs, m', _, _, _, hlen, hg⟩ := DataW.trod_struct Try.underlying24 hf
    have g0 : DataW.trod enc Try.prog W b0 (fun _ => true) true m' 3 (([z0, z1].drop 0).take (Try.prog.cellsOf 3)) = xs[0]? := hg 0 _ rfl
    have g1 : DataW.trod enc Try.prog W b0 (fun _ => true) true m' 22 (([z0, z1].drop 1).take (Try.prog.cellsOf 22)) = xs[1]? := hg 1 _ rfl
    rw [cells3] at g0
    rw [cells22] at g1
    simp only [List.drop, List.take] at g0 g1
    have h3 : xs.length = 2 := hlen
    rw [List.getElem?_eq_getElem (show 0 < xs.length by omega)] at g0
    rw [List.getElem?_eq_getElem (show 1 < xs.length by omega)] at g1
    obtain ⟨q0, e0, _, w0⟩ := DataW.trod_int Try.underlying3 g0
    obtain ⟨A, c, L, e1, _, r1, b1, bb⟩ := ca_in g1
    simp only [List.cons.injEq, and_true] at e0 e1
    subst e0 e1
    exact ⟨⟨q0, L⟩, A, c, rfl, r1, b1, fun k hk => bb _ (cAt_mem hk)⟩
end
end Go.Proofs.Ytncjicggolmofaa.Sb
