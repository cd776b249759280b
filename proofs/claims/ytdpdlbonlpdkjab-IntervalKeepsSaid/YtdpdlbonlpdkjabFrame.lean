import Derived.Test.YtdpdlbonlpdkjabAwake
import Derived.ProofKit
import Derived.OpenShut
import Derived.Deep.DeepHandedRow
import Derived.Deep.SlicePairs
import Derived.Lib.LaidTab
import Derived.Lib.SmallJoins
import Derived.Carry
namespace Go.Proofs.Ytdpdlbonlpdkjab.Iv
open Go.ChangeShapes Go.WideShapes Go.ChangeAt Go.RowKit Go.Joins Go.Deep
set_option linter.unusedVariables false
theorem ownKnobNone : ownKnob Try.prog.godebug = none := by kernel_rfl
theorem cells30 : Try.prog.cellsOf 30 = 2 := by kernel_rfl
theorem cells3 : Try.prog.cellsOf 3 = 1 := by kernel_rfl
theorem laidOut : laidOutB Try.prog = true := by kernel_rfl
theorem add_at (b off k : Nat) : (⟨b, off, none⟩ : Addr).add k = ⟨b, off + k, none⟩ := by
  unfold Addr.add
  by_cases h : k = 0 <;> simp [h]
def inI (x : Int) : Prop := -9223372036854775808 ≤ x ∧ x ≤ 9223372036854775807
/-- A LIST OF INTERVALS THAT CAME IN, opened. -/
theorem open_iv {H : Type} {enc : TypeId × Value → H} {W : World} {base b0 : Nat} {v : Value} {d : DataW H} {p : List MemPlace} (hv : Value.okWide Try.prog W .any base 22 v)
    (h : DataW.Trod enc Try.prog W b0 (fun _ => true) true 22 v d p) :
    ∃ (A : Option Addr) (c : Nat) (L : IL), v = .slice A L.length c ∧ Iv W A L ∧ (∀ x ∈ L, inI x.1 ∧ inI x.2) ∧ L.length ≤ 9223372036854775807 := by
  obtain ⟨a0, len0, cap0, rfl⟩ := okWide_slice Try.underlying22 hv
  obtain ⟨fuel, hf⟩ := h
  rcases open_slice_pairs Try.underlying22 Try.underlying30 cells30 rfl rfl cells3 cells3 hf with ⟨hcs, _⟩ | ⟨a, len, cap, m, n, V0, V1, D0, D1, P0, P1, hcs, _, hl, hm, hmm, _, hc⟩
  · simp [Value.cells] at hcs
    obtain ⟨rfl, rfl, rfl⟩ := hcs
    exact ⟨none, 0, [], rfl, fun h => absurd rfl h, by simp, by simp⟩
  · simp [Value.cells] at hcs
    obtain ⟨rfl, rfl, rfl⟩ := hcs
    simp only [if_true] at hmm
    have each : ∀ i, i < len0 → ∃ q : Int × Int, W.cell? (a.add (i * 2)) = some (.int .i64 q.1) ∧ W.cell? (a.add (i * 2 + 1)) = some (.int .i64 q.2) ∧ inI q.1 ∧ inI q.2 := by
      intro i hi
      obtain ⟨h0, h1, t0, t1⟩ := hc i (by omega)
      obtain ⟨f, e0, _, w0⟩ := DataW.trod_int Try.underlying3 t0
      obtain ⟨t, e1, _, w1⟩ := DataW.trod_int Try.underlying3 t1
      simp only [List.cons.injEq, and_true] at e0 e1
      exact ⟨(f, t), by rw [h0, e0], by rw [h1, e1], bounds_i64 w0, bounds_i64 w1⟩
    obtain ⟨q, hq⟩ := choose_lt each
    have hlen : ((List.range len0).map q).length = len0 := by simp
    have hpair : ∀ k, k < len0 → pairAt ((List.range len0).map q) k = q k := fun k hk => by
      unfold pairAt
      rw [List.getD_eq_getElem?_getD, List.getElem?_map, List.getElem?_range hk]
      rfl
    refine ⟨some a, cap0, (List.range len0).map q, by rw [hlen], ?_, ?_, ?_⟩
    · intro hne
      have hp : 0 < len0 := by
        rcases Nat.eq_zero_or_pos len0 with e | e
        · exfalso; apply hne; rw [e]; rfl
        · exact e
      obtain ⟨b, off, sp⟩ := a
      have g := (hq 0 hp).1
      have hsp : sp = none := by
        cases sp with
        | none => rfl
        | some s =>
          exfalso
          simp only [World.cell?, Addr.add] at g
          split at g
          · simp at g
          · cases g
      subst hsp
      refine ⟨b, off, rfl, ?_, fun k hk => ?_⟩
      · rcases Nat.lt_or_ge b W.heap.size with h1 | h1
        · exact h1
        · exfalso
          have h2 : W.heap[b]? = Option.none := Array.getElem?_eq_none h1
          simp [World.cell?, Addr.add, h2] at g
      · rw [hlen] at hk
        rw [hpair k hk]
        have g0 := (hq k hk).1
        have g1 := (hq k hk).2.1
        rw [add_at] at g0 g1
        exact ⟨g0, by rw [Nat.add_assoc]; exact g1⟩
    · intro x hx
      obtain ⟨i, hi, rfl⟩ := List.mem_map.1 hx
      have := hq i (List.mem_range.1 hi)
      exact ⟨this.2.2.1, this.2.2.2⟩
    · rw [hlen]; unfold maxLen at hm; omega
theorem pairAt_in {L : IL} (h : ∀ x ∈ L, inI x.1 ∧ inI x.2) (k : Nat) : inI (pairAt L k).1 ∧ inI (pairAt L k).2 := by
  unfold pairAt
  rw [List.getD_eq_getElem?_getD]
  rcases Nat.lt_or_ge k L.length with c | c
  · rw [List.getElem?_eq_getElem c]; exact h _ (List.getElem_mem c)
  · rw [List.getElem?_eq_none c]; simp [inI]
theorem open_pair {H : Type} {enc : TypeId × Value → H} {W : World} {base b0 : Nat} {v : Value} {d : DataW H} {p : List MemPlace} (hv : Value.okWide Try.prog W .any base 30 v)
    (h : DataW.Trod enc Try.prog W b0 (fun _ => true) true 30 v d p) : ∃ f t : Int, v = .agg #[.int .i64 f, .int .i64 t] ∧ inI f ∧ inI t := by
  obtain ⟨v0, v1, y0, y1, n, rfl, rfl, rfl, h0, h1⟩ := open_agg2 Try.underlying30 (by kernel_rfl) cells30 hv h
  obtain ⟨f, e0, _, w0⟩ := DataW.trod_int Try.underlying3 h0
  obtain ⟨t, e1, _, w1⟩ := DataW.trod_int Try.underlying3 h1
  simp only [List.cons.injEq, and_true] at e0 e1
  subst e0 e1
  exact ⟨f, t, rfl, bounds_i64 w0, bounds_i64 w1⟩
theorem cells34 : Try.prog.cellsOf 34 = 3 := by kernel_rfl
theorem open_ask {H : Type} {enc : TypeId × Value → H} {W : World} {base b0 : Nat} {v : Value} {d : DataW H} {p : List MemPlace} (hv : Value.okWide Try.prog W .any base 34 v)
    (h : DataW.Trod enc Try.prog W b0 (fun _ => true) true 34 v d p) : ∃ lo hi n : Int, v = .agg #[.int .i64 lo, .int .i64 hi, .int .i64 n] ∧ inI lo ∧ inI hi ∧ inI n := by
  obtain ⟨v0, v1, v2, y0, y1, y2, n, rfl, rfl, rfl, h0, h1, h2⟩ := open_agg3 Try.underlying34 (by kernel_rfl) cells34 hv h
  obtain ⟨f, e0, _, w0⟩ := DataW.trod_int Try.underlying3 h0
  obtain ⟨t, e1, _, w1⟩ := DataW.trod_int Try.underlying3 h1
  obtain ⟨u, e2, _, w2⟩ := DataW.trod_int Try.underlying3 h2
  simp only [List.cons.injEq, and_true] at e0 e1 e2
  subst e0 e1 e2
  exact ⟨f, t, u, rfl, bounds_i64 w0, bounds_i64 w1, bounds_i64 w2⟩
end Go.Proofs.Ytdpdlbonlpdkjab.Iv
