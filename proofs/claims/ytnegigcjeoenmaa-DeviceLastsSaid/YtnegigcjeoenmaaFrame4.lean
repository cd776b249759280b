import Derived.Test.YtnegigcjeoenmaaFrame
import Derived.Test.YtnegigcjeoenmaaCs1
import Derived.Test.YtnegigcjeoenmaaPl1
namespace Go.Proofs.Ytnegigcjeoenmaa.Dv
open Go.ChangeShapes Go.WideShapes Go.ChangeAt Go.RowKit Go.Joins Go.Deep
set_option linter.unusedVariables false
theorem cells4 : Try.prog.cellsOf 4 = 1 := by kernel_rfl
theorem open_picks {H : Type} {enc : TypeId × Value → H} {W : World} {base b0 : Nat} {v : Value} {d : DataW H} {p : List MemPlace} (hv : Value.okWide Try.prog W .any base 44 v) (h : DataW.Trod enc Try.prog W b0 (fun _ => true) true 44 v d p) :
    ∃ (A : Option Addr) (c : Nat) (L : List Bool), v = .slice A L.length c ∧ RdT W A L ∧ L.length ≤ 9223372036854775807 := by
  obtain ⟨a0, len0, cap0, rfl⟩ := okWide_slice Try.underlying44 hv
  obtain ⟨fuel, hf⟩ := h
  rcases open_slice1 Try.underlying44 cells4 hf with ⟨hcs, _⟩ | ⟨a, len, cap, m, n', V, D, Pl, hcs, _, hl, hm, hmm, _, hi⟩
  · simp [Value.cells] at hcs
    obtain ⟨rfl, rfl, rfl⟩ := hcs
    exact ⟨none, 0, [], rfl, fun h => absurd rfl h, by simp⟩
  · simp only [if_true] at hmm
    subst hmm
    have each : ∀ i, i < len → ∃ q : Bool, W.cell? (a.add i) = some (.bool q) := by
      intro i hil
      obtain ⟨hc, ht⟩ := hi i (by omega)
      obtain ⟨b, h1, h2⟩ := DataW.trod_bool Try.underlying4 ht
      have h3 : V i = .bool b := by simpa using h1
      exact ⟨b, by rw [hc, h3]⟩
    obtain ⟨q, hq⟩ := choose_lt each
    simp [Value.cells] at hcs
    obtain ⟨rfl, rfl, rfl⟩ := hcs
    have hlen : ((List.range len0).map q).length = len0 := by simp
    refine ⟨some a, _, (List.range len0).map q, by rw [hlen], fun hne => ?_, by rw [hlen]; unfold maxLen at hm; omega⟩
    have hp : 0 < len0 := by
      rcases Nat.eq_zero_or_pos len0 with e | e
      · exfalso; apply hne; rw [e]; rfl
      · exact e
    obtain ⟨b, off, rfl, hb⟩ := addr_plain (hq 0 hp)
    refine ⟨b, off, rfl, hb, fun k hk => ?_⟩
    rw [hlen] at hk
    have := hq k hk
    rw [add_at] at this
    rw [this, List.getD_eq_getElem?_getD, List.getElem?_map, List.getElem?_range hk]; rfl
end Go.Proofs.Ytnegigcjeoenmaa.Dv
namespace Go.Proofs.Ytnegigcjeoenmaa.Dv
open Go.ChangeShapes Go.WideShapes Go.ChangeAt Go.RowKit Go.Joins Go.Deep
set_option linter.unusedVariables false
theorem cells58 : Try.prog.cellsOf 58 = 4 := by kernel_rfl
theorem u8_of {n : Int} (h : (Lit.int .u8 n).wf = true) : 0 ≤ n ∧ n < 256 := by
  unfold Lit.wf at h
  simp only [Bool.and_eq_true, decide_eq_true_eq] at h
  have h1 : IntKind.u8.min = 0 := by decide
  have h2 : IntKind.u8.max = 255 := by decide
  omega
section
variable {H : Type} {enc : TypeId × Value → H} {W : World} {base b0 : Nat} {v : Value} {d : DataW H} {p : List MemPlace}
theorem ac_in {n : Nat} {cs : List Value} {x : DataW H × List MemPlace} (hcl : cs.length = 4) (ht : DataW.trod enc Try.prog W b0 (fun _ => true) true n 58 cs = some x) :
    ∃ q : Ac, cs = [.int .i64 q.1, .int .u8 q.2.1, .int .u8 q.2.2.1, .int .u8 q.2.2.2] ∧ (0 ≤ q.2.1 ∧ q.2.1 < 256) ∧ (0 ≤ q.2.2.1 ∧ q.2.2.1 < 256) ∧ 0 ≤ q.2.2.2 ∧ q.2.2.2 < 256 := by
  obtain ⟨xs, m', _, _, _, hlen, hg⟩ := DataW.trod_struct Try.underlying58 ht
  have g0 : DataW.trod enc Try.prog W b0 (fun _ => true) true m' 3 ((cs.drop 0).take (Try.prog.cellsOf 3)) = xs[0]? := hg 0 _ rfl
  have g1 : DataW.trod enc Try.prog W b0 (fun _ => true) true m' 5 ((cs.drop 1).take (Try.prog.cellsOf 5)) = xs[1]? := hg 1 _ rfl
  have g2 : DataW.trod enc Try.prog W b0 (fun _ => true) true m' 5 ((cs.drop 2).take (Try.prog.cellsOf 5)) = xs[2]? := hg 2 _ rfl
  have g3 : DataW.trod enc Try.prog W b0 (fun _ => true) true m' 5 ((cs.drop 3).take (Try.prog.cellsOf 5)) = xs[3]? := hg 3 _ rfl
  rw [cells3] at g0
  rw [cells5] at g1 g2 g3
  match cs, hcl with
  | [z0, z1, z2, z3], _ =>
    simp only [List.drop, List.take] at g0 g1 g2 g3
    have h3 : xs.length = 4 := hlen
    rw [List.getElem?_eq_getElem (show 0 < xs.length by omega)] at g0
    rw [List.getElem?_eq_getElem (show 1 < xs.length by omega)] at g1
    rw [List.getElem?_eq_getElem (show 2 < xs.length by omega)] at g2
    rw [List.getElem?_eq_getElem (show 3 < xs.length by omega)] at g3
    obtain ⟨q0, e0, _, w0⟩ := DataW.trod_int Try.underlying3 g0
    obtain ⟨q1, e1, _, w1⟩ := DataW.trod_int Try.underlying5 g1
    obtain ⟨q2, e2, _, w2⟩ := DataW.trod_int Try.underlying5 g2
    obtain ⟨q3, e3, _, w3⟩ := DataW.trod_int Try.underlying5 g3
    simp only [List.cons.injEq, and_true] at e0 e1 e2 e3
    exact ⟨(q0, q1, q2, q3), by rw [e0, e1, e2, e3], u8_of w1, u8_of w2, u8_of w3⟩
theorem open_acts (hv : Value.okWide Try.prog W .any base 47 v) (h : DataW.Trod enc Try.prog W b0 (fun _ => true) true 47 v d p) :
    ∃ (A : Option Addr) (c : Nat) (L : List Ac), v = .slice A L.length c ∧ RdA W A L ∧ L.length ≤ 9223372036854775807 := by
  obtain ⟨a0, len0, cap0, rfl⟩ := okWide_slice Try.underlying47 hv
  obtain ⟨fuel, hf⟩ := h
  rcases open_slice Try.underlying47 hf with ⟨hcs, _⟩ | ⟨a, len, cap, m, n', D, Pl, hcs, _, hl, hm, hmm, _, hi⟩
  · simp [Value.cells] at hcs
    obtain ⟨rfl, rfl, rfl⟩ := hcs
    exact ⟨none, 0, [], rfl, fun h => absurd rfl h, by simp⟩
  · simp only [if_true] at hmm
    subst hmm
    have each : ∀ i, i < len → ∃ q : Ac, (W.cell? (a.add (i * 4)) = some (.int .i64 q.1) ∧ W.cell? (a.add (i * 4 + 1)) = some (.int .u8 q.2.1) ∧ W.cell? (a.add (i * 4 + 2)) = some (.int .u8 q.2.2.1) ∧ W.cell? (a.add (i * 4 + 3)) = some (.int .u8 q.2.2.2)) ∧ (0 ≤ q.2.1 ∧ q.2.1 < 256) ∧ (0 ≤ q.2.2.1 ∧ q.2.2.1 < 256) ∧ 0 ≤ q.2.2.2 ∧ q.2.2.2 < 256 := by
      intro i hil
      obtain ⟨cs', hc, ht⟩ := hi i (by omega)
      rw [cells58] at hc
      obtain ⟨_, hcl, hcell⟩ := World.cells?_some hc
      obtain ⟨q, rfl, r⟩ := ac_in hcl ht
      have c0 := hcell 0 (by omega)
      have c1 := hcell 1 (by omega)
      have c2 := hcell 2 (by omega)
      have c3 := hcell 3 (by omega)
      rw [Go.Deep.add_add] at c0 c1 c2 c3
      rw [Nat.add_zero] at c0
      exact ⟨q, ⟨c0, c1, c2, c3⟩, r⟩
    obtain ⟨q, hq⟩ := choose_lt each
    simp [Value.cells] at hcs
    obtain ⟨rfl, rfl, rfl⟩ := hcs
    have hlen : ((List.range len0).map q).length = len0 := by simp
    refine ⟨some a, _, (List.range len0).map q, by rw [hlen], fun hne => ?_, by rw [hlen]; unfold maxLen at hm; omega⟩
    have hp : 0 < len0 := by
      rcases Nat.eq_zero_or_pos len0 with e | e
      · exfalso; apply hne; rw [e]; rfl
      · exact e
    have g := (hq 0 hp).1.1
    rw [Nat.zero_mul] at g
    obtain ⟨b, off, rfl, hb⟩ := addr_plain g
    refine ⟨b, off, rfl, hb, fun k hk => ?_⟩
    rw [hlen] at hk
    obtain ⟨⟨g0, g1, g2, g3⟩, r⟩ := hq k hk
    rw [add_at] at g0 g1 g2 g3
    have e : aAt ((List.range len0).map q) k = q k := by unfold aAt; rw [range_at q _ hk]
    rw [e]
    exact ⟨⟨g0, by rw [Nat.add_assoc]; exact g1, by rw [Nat.add_assoc]; exact g2, by rw [Nat.add_assoc]; exact g3⟩, r⟩
end
end Go.Proofs.Ytnegigcjeoenmaa.Dv
