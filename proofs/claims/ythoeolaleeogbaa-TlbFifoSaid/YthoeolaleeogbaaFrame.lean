import Derived.Test.YthoeolaleeogbaaLOnce
import Derived.ProofKit
import Derived.OpenShut
import Derived.Deep.DeepHandedRow
import Derived.Deep.SlicePairs
import Derived.Lib.LaidTab
import Derived.Lib.SmallJoins
import Derived.Carry
namespace Go.Proofs.Ythoeolaleeogbaa.Tb
open Go.ChangeShapes Go.WideShapes Go.ChangeAt Go.RowKit Go.Joins Go.Deep
set_option linter.unusedVariables false
theorem ownKnobNone : ownKnob Try.prog.godebug = none := by kernel_rfl
theorem laidOut : laidOutB Try.prog = true := by kernel_rfl
theorem cells47 : Try.prog.cellsOf 47 = 3 := by kernel_rfl
theorem cells43 : Try.prog.cellsOf 43 = 4 := by kernel_rfl
theorem cells24 : Try.prog.cellsOf 24 = 2 := by kernel_rfl
theorem cells35 : Try.prog.cellsOf 35 = 2 := by kernel_rfl
theorem cells3 : Try.prog.cellsOf 3 = 1 := by kernel_rfl
theorem cells31 : Try.prog.cellsOf 31 = 1 := by kernel_rfl
theorem add_at (b off k : Nat) : (⟨b, off, none⟩ : Addr).add k = ⟨b, off + k, none⟩ := by
  unfold Addr.add
  by_cases h : k = 0 <;> simp [h]
/-- where a cell can be read at an address, it is a plain one in an old block -/
theorem addr_plain {W : World} {a : Addr} {v : Value} (h : W.cell? (a.add 0) = some v) : ∃ b off, a = ⟨b, off, none⟩ ∧ b < W.heap.size := by
  obtain ⟨b, off, sp⟩ := a
  have hsp : sp = none := by
    cases sp with
    | none => rfl
    | some s =>
      exfalso
      simp only [World.cell?, Addr.add] at h
      split at h
      · simp at h
      · cases h
  subst hsp
  refine ⟨b, off, rfl, ?_⟩
  rcases Nat.lt_or_ge b W.heap.size with h1 | h1
  · exact h1
  · exfalso
    have h2 : W.heap[b]? = Option.none := Array.getElem?_eq_none h1
    rw [add_at] at h
    simp [World.cell?, h2] at h
section
variable {H : Type} {enc : TypeId × Value → H} {W : World} {base b0 : Nat} {v : Value} {d : DataW H} {p : List MemPlace}
theorem one_of {cs : List Value} {k j : Nat} (hl : cs.length = k) (hj : j < k) : (cs.drop j).take 1 = [cs[j]'(by omega)] := by
  rw [List.drop_eq_getElem_cons (by omega)]
  rfl
/-- AN ENTRY THAT LIES IN A SLICE. -/
theorem entry_at {a : Addr} {n : Nat} {cs : List Value} {x : DataW H × List MemPlace} (hc : W.cells? b0 a 3 = some cs) (h : DataW.trod enc Try.prog W b0 (fun _ => true) true n 47 cs = some x) :
    ∃ q : Te, W.cell? (a.add 0) = some (.int .i64 q.1) ∧ W.cell? (a.add 1) = some (.int .i64 q.2.1) ∧ W.cell? (a.add 2) = some (.int .u64 q.2.2) ∧ inW q.2.2 := by
  obtain ⟨_, hl, hcell⟩ := World.cells?_some hc
  obtain ⟨xs, m, _, _, _, hlen, hg⟩ := DataW.trod_struct Try.underlying47 h
  have g0 : DataW.trod enc Try.prog W b0 (fun _ => true) true m 3 ((cs.drop 0).take (Try.prog.cellsOf 3)) = xs[0]? := hg 0 _ rfl
  have g1 : DataW.trod enc Try.prog W b0 (fun _ => true) true m 3 ((cs.drop 1).take (Try.prog.cellsOf 3)) = xs[1]? := hg 1 _ rfl
  have g2 : DataW.trod enc Try.prog W b0 (fun _ => true) true m 31 ((cs.drop 2).take (Try.prog.cellsOf 31)) = xs[2]? := hg 2 _ rfl
  rw [cells3] at g0 g1
  rw [cells31] at g2
  rw [one_of hl (by omega)] at g0 g1 g2
  have h3 : xs.length = 3 := hlen
  rw [List.getElem?_eq_getElem (show 0 < xs.length by omega)] at g0
  rw [List.getElem?_eq_getElem (show 1 < xs.length by omega)] at g1
  rw [List.getElem?_eq_getElem (show 2 < xs.length by omega)] at g2
  obtain ⟨q0, e0, _, w0⟩ := DataW.trod_int Try.underlying3 g0
  obtain ⟨q1, e1, _, w1⟩ := DataW.trod_int Try.underlying3 g1
  obtain ⟨q2, e2, _, w2⟩ := DataW.trod_int Try.underlying31 g2
  simp only [List.cons.injEq, and_true] at e0 e1 e2
  have b2 := bounds_u64 w2
  refine ⟨(q0, q1, q2), ?_, ?_, ?_, show inW q2 by unfold inW; omega⟩
  · rw [hcell 0 (by omega), List.getElem?_eq_getElem (by omega), e0]
  · rw [hcell 1 (by omega), List.getElem?_eq_getElem (by omega), e1]
  · rw [hcell 2 (by omega), List.getElem?_eq_getElem (by omega), e2]
theorem entries_in {n : Nat} {cs : List Value} {x : DataW H × List MemPlace} (h : DataW.trod enc Try.prog W b0 (fun _ => true) true n 22 cs = some x) :
    ∃ (A : Option Addr) (c : Nat) (L : List Te), cs = [.slice A L.length c] ∧ TlbIn W A L c := by
  rcases open_slice Try.underlying22 h with ⟨hcs, _⟩ | ⟨a, len, cap, m, n', D, Pl, hcs, _, hl, hm, hmm, _, hi⟩
  · exact ⟨none, 0, [], hcs, fun h => absurd rfl h, by simp, by simp, fun o ho => by cases ho⟩
  · simp only [if_true] at hmm
    subst hmm
    have each : ∀ i, i < len → ∃ q : Te, W.cell? (a.add (i * 3)) = some (.int .i64 q.1) ∧ W.cell? (a.add (i * 3 + 1)) = some (.int .i64 q.2.1) ∧ W.cell? (a.add (i * 3 + 2)) = some (.int .u64 q.2.2) ∧ inW q.2.2 := by
      intro i hil
      obtain ⟨cs', hc, ht⟩ := hi i (by omega)
      rw [cells47] at hc
      obtain ⟨q, h0, h1, h2, hw⟩ := entry_at hc ht
      rw [Go.Deep.add_add] at h0 h1 h2
      exact ⟨q, h0, h1, h2, hw⟩
    obtain ⟨q, hq⟩ := choose_lt each
    have hlen : ((List.range len).map q).length = len := by simp
    have hat : ∀ k, k < len → teAt ((List.range len).map q) k = q k := fun k hk => by
      unfold teAt
      rw [List.getD_eq_getElem?_getD, List.getElem?_map, List.getElem?_range hk]
      rfl
    refine ⟨some a, _, (List.range len).map q, by rw [hlen]; exact hcs, ⟨fun hne => ?_, by rw [hlen]; exact hl, by rw [hlen]; unfold maxLen at hm; omega, fun o ho => ?_⟩⟩
    · have hp : 0 < len := by
        rcases Nat.eq_zero_or_pos len with e | e
        · exfalso; apply hne; rw [e]; rfl
        · exact e
      have g := (hq 0 hp).1
      rw [Nat.zero_mul] at g
      obtain ⟨b, off, rfl, hb⟩ := addr_plain g
      refine ⟨b, off, rfl, hb, fun k hk => ?_⟩
      rw [hlen] at hk
      rw [hat k hk]
      obtain ⟨g0, g1, g2, _⟩ := hq k hk
      rw [add_at] at g0 g1 g2
      exact ⟨g0, by rw [Nat.add_assoc]; exact g1, by rw [Nat.add_assoc]; exact g2⟩
    · obtain ⟨i, hi2, rfl⟩ := List.mem_map.1 ho
      exact (hq i (List.mem_range.1 hi2)).2.2.2
/-- A CACHE THAT CAME IN, opened. -/
theorem open_tlb (hv : Value.okWide Try.prog W .any base 24 v) (h : DataW.Trod enc Try.prog W b0 (fun _ => true) true 24 v d p) :
    ∃ (s : Int) (A : Option Addr) (c : Nat) (L : List Te), v = .agg #[.int .i64 s, .slice A L.length c] ∧ TlbIn W A L c := by
  obtain ⟨v0, v1, y0, y1, n, rfl, rfl, rfl, h0, h1⟩ := open_agg2 Try.underlying24 (by kernel_rfl) cells24 hv h
  obtain ⟨s, e0, _, _⟩ := DataW.trod_int Try.underlying3 h0
  obtain ⟨A, c, L, e1, ht⟩ := entries_in h1
  simp only [List.cons.injEq, and_true] at e0 e1
  subst e0 e1
  exact ⟨s, A, c, L, rfl, ht⟩
/-- A PAIR OF INTS THAT CAME IN (an array of two), opened. -/
theorem open_two (hv : Value.okWide Try.prog W .any base 35 v) (h : DataW.Trod enc Try.prog W b0 (fun _ => true) true 35 v d p) : ∃ (x y : Int), v = .agg #[.int .i64 x, .int .i64 y] ∧ inP x ∧ inP y := by
  simp only [Value.okWide, Try.underlying35] at hv
  obtain ⟨cs, rfl, hsz, _⟩ := hv
  obtain ⟨l⟩ := cs
  rw [cells35] at hsz
  match l, hsz with
  | [c0, c1], _ =>
    obtain ⟨fuel, hf⟩ := h
    obtain ⟨xs, m, _, hx, _, hlen, hg⟩ := DataW.trod_array Try.underlying35 hf
    match xs, hlen with
    | [y0, y1], _ =>
      have g0 := hg 0 (by omega)
      have g1 := hg 1 (by omega)
      simp only [cells3, Value.cells] at g0 g1
      obtain ⟨a, e0, _, w0⟩ := DataW.trod_int Try.underlying3 (show DataW.trod _ Try.prog W _ _ _ m 3 [c0] = some y0 by simpa using g0)
      obtain ⟨b, e1, _, w1⟩ := DataW.trod_int Try.underlying3 (show DataW.trod _ Try.prog W _ _ _ m 3 [c1] = some y1 by simpa using g1)
      simp only [List.cons.injEq, and_true] at e0 e1
      subst e0 e1
      have b0 := bounds_i64 w0
      have b1 := bounds_i64 w1
      exact ⟨a, b, rfl, by unfold inP; omega, by unfold inP; omega⟩
/-- A CALL THAT LIES IN A SLICE. -/
theorem op_at {a : Addr} {n : Nat} {cs : List Value} {x : DataW H × List MemPlace} (hc : W.cells? b0 a 4 = some cs) (h : DataW.trod enc Try.prog W b0 (fun _ => true) true n 43 cs = some x) :
    ∃ q : To, W.cell? (a.add 0) = some (.int .i64 q.1) ∧ W.cell? (a.add 1) = some (.int .i64 q.2.1) ∧ W.cell? (a.add 2) = some (.int .i64 q.2.2.1) ∧ W.cell? (a.add 3) = some (.int .u64 q.2.2.2) ∧ inP q.2.2.1 ∧ inW q.2.2.2 := by
  obtain ⟨_, hl, hcell⟩ := World.cells?_some hc
  obtain ⟨xs, m, _, _, _, hlen, hg⟩ := DataW.trod_struct Try.underlying43 h
  have g0 : DataW.trod enc Try.prog W b0 (fun _ => true) true m 3 ((cs.drop 0).take (Try.prog.cellsOf 3)) = xs[0]? := hg 0 _ rfl
  have g1 : DataW.trod enc Try.prog W b0 (fun _ => true) true m 3 ((cs.drop 1).take (Try.prog.cellsOf 3)) = xs[1]? := hg 1 _ rfl
  have g2 : DataW.trod enc Try.prog W b0 (fun _ => true) true m 3 ((cs.drop 2).take (Try.prog.cellsOf 3)) = xs[2]? := hg 2 _ rfl
  have g3 : DataW.trod enc Try.prog W b0 (fun _ => true) true m 31 ((cs.drop 3).take (Try.prog.cellsOf 31)) = xs[3]? := hg 3 _ rfl
  rw [cells3] at g0 g1 g2
  rw [cells31] at g3
  rw [one_of hl (by omega)] at g0 g1 g2 g3
  have h3 : xs.length = 4 := hlen
  rw [List.getElem?_eq_getElem (show 0 < xs.length by omega)] at g0
  rw [List.getElem?_eq_getElem (show 1 < xs.length by omega)] at g1
  rw [List.getElem?_eq_getElem (show 2 < xs.length by omega)] at g2
  rw [List.getElem?_eq_getElem (show 3 < xs.length by omega)] at g3
  obtain ⟨q0, e0, _, w0⟩ := DataW.trod_int Try.underlying3 g0
  obtain ⟨q1, e1, _, w1⟩ := DataW.trod_int Try.underlying3 g1
  obtain ⟨q2, e2, _, w2⟩ := DataW.trod_int Try.underlying3 g2
  obtain ⟨q3, e3, _, w3⟩ := DataW.trod_int Try.underlying31 g3
  simp only [List.cons.injEq, and_true] at e0 e1 e2 e3
  have b2 := bounds_i64 w2
  have b3 := bounds_u64 w3
  refine ⟨(q0, q1, q2, q3), ?_, ?_, ?_, ?_, show inP q2 by unfold inP; omega, show inW q3 by unfold inW; omega⟩
  · rw [hcell 0 (by omega), List.getElem?_eq_getElem (by omega), e0]
  · rw [hcell 1 (by omega), List.getElem?_eq_getElem (by omega), e1]
  · rw [hcell 2 (by omega), List.getElem?_eq_getElem (by omega), e2]
  · rw [hcell 3 (by omega), List.getElem?_eq_getElem (by omega), e3]
/-- A SCRIPT THAT CAME IN, opened. -/
theorem open_ops (hv : Value.okWide Try.prog W .any base 40 v) (h : DataW.Trod enc Try.prog W b0 (fun _ => true) true 40 v d p) :
    ∃ (A : Option Addr) (c : Nat) (O : List To), v = .slice A O.length c ∧ Ops W A O ∧ OpsIn O ∧ O.length ≤ 9223372036854775807 := by
  obtain ⟨a0, len0, cap0, rfl⟩ := okWide_slice Try.underlying40 hv
  obtain ⟨fuel, hf⟩ := h
  rcases open_slice Try.underlying40 hf with ⟨hcs, _⟩ | ⟨a, len, cap, m, n', D, Pl, hcs, _, hl, hm, hmm, _, hi⟩
  · simp [Value.cells] at hcs
    obtain ⟨rfl, rfl, rfl⟩ := hcs
    exact ⟨none, 0, [], rfl, fun h => absurd rfl h, (fun o ho => by simp at ho), by simp⟩
  · simp [Value.cells] at hcs
    obtain ⟨rfl, rfl, rfl⟩ := hcs
    simp only [if_true] at hmm
    subst hmm
    have each : ∀ i, i < len0 → ∃ q : To, W.cell? (a.add (i * 4)) = some (.int .i64 q.1) ∧ W.cell? (a.add (i * 4 + 1)) = some (.int .i64 q.2.1) ∧ W.cell? (a.add (i * 4 + 2)) = some (.int .i64 q.2.2.1) ∧ W.cell? (a.add (i * 4 + 3)) = some (.int .u64 q.2.2.2) ∧ inP q.2.2.1 ∧ inW q.2.2.2 := by
      intro i hil
      obtain ⟨cs', hc, ht⟩ := hi i (by omega)
      rw [cells43] at hc
      obtain ⟨q, h0, h1, h2, h3, hw⟩ := op_at hc ht
      rw [Go.Deep.add_add] at h0 h1 h2 h3
      exact ⟨q, h0, h1, h2, h3, hw⟩
    obtain ⟨q, hq⟩ := choose_lt each
    have hlen : ((List.range len0).map q).length = len0 := by simp
    have hat : ∀ k, k < len0 → opAt ((List.range len0).map q) k = q k := fun k hk => by
      unfold opAt
      rw [List.getD_eq_getElem?_getD, List.getElem?_map, List.getElem?_range hk]
      rfl
    refine ⟨some a, _, (List.range len0).map q, by rw [hlen], fun hne => ?_, fun o ho => ?_, by rw [hlen]; unfold maxLen at hm; omega⟩
    · have hp : 0 < len0 := by
        rcases Nat.eq_zero_or_pos len0 with e | e
        · exfalso; apply hne; rw [e]; rfl
        · exact e
      have g := (hq 0 hp).1
      rw [Nat.zero_mul] at g
      obtain ⟨b, off, rfl, hb⟩ := addr_plain g
      refine ⟨b, off, rfl, hb, fun k hk => ?_⟩
      rw [hlen] at hk
      rw [hat k hk]
      obtain ⟨g0, g1, g2, g3, _⟩ := hq k hk
      rw [add_at] at g0 g1 g2 g3
      exact ⟨g0, by rw [Nat.add_assoc]; exact g1, by rw [Nat.add_assoc]; exact g2, by rw [Nat.add_assoc]; exact g3⟩
    · obtain ⟨i, hi2, rfl⟩ := List.mem_map.1 ho
      exact (hq i (List.mem_range.1 hi2)).2.2.2.2
end
end Go.Proofs.Ythoeolaleeogbaa.Tb
