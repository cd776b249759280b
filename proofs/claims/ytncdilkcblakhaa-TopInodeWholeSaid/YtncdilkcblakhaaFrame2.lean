import Derived.Test.YtncdilkcblakhaaT3a
import Derived.Test.YtncdilkcblakhaaFrame
namespace Go.Proofs.Ytncdilkcblakhaa.In
open Go.ChangeShapes Go.WideShapes Go.ChangeAt Go.RowKit Go.Joins Go.Deep
set_option linter.unusedVariables false
theorem cells43 : Try.prog.cellsOf 43 = 1 := by kernel_rfl
theorem cells63 : Try.prog.cellsOf 63 = 5 := by kernel_rfl
theorem range_at2 {α : Type} (f : Nat → α) (d : α) {n k : Nat} (hk : k < n) : ((List.range n).map f).getD k d = f k := by
  rw [List.getD_eq_getElem?_getD, List.getElem?_map, List.getElem?_range hk]; rfl
section
variable {H : Type} {enc : TypeId × Value → H} {W : World} {base b0 : Nat} {v : Value} {d : DataW H} {p : List MemPlace}
set_option maxRecDepth 100000 in
theorem st_in {n : Nat} {cs : List Value} {x : DataW H × List MemPlace} (hcl : cs.length = 5) (ht : DataW.trod enc Try.prog W b0 (fun _ => true) true n 63 cs = some x) :
    ∃ q : Stp, cs = [.int .u8 q.1, .int .u16 q.2.1, .bool q.2.2.1, .bool q.2.2.2.1, .bool q.2.2.2.2] ∧ (0 ≤ q.1 ∧ q.1 < 256) ∧ 0 ≤ q.2.1 ∧ q.2.1 < 65536 := by
  obtain ⟨xs, m', _, _, _, hlen, hg⟩ := DataW.trod_struct Try.underlying63 ht
  have g0 : DataW.trod enc Try.prog W b0 (fun _ => true) true m' 5 ((cs.drop 0).take (Try.prog.cellsOf 5)) = xs[0]? := hg 0 _ rfl
  have g1 : DataW.trod enc Try.prog W b0 (fun _ => true) true m' 43 ((cs.drop 1).take (Try.prog.cellsOf 43)) = xs[1]? := hg 1 _ rfl
  have g2 : DataW.trod enc Try.prog W b0 (fun _ => true) true m' 4 ((cs.drop 2).take (Try.prog.cellsOf 4)) = xs[2]? := hg 2 _ rfl
  have g3 : DataW.trod enc Try.prog W b0 (fun _ => true) true m' 4 ((cs.drop 3).take (Try.prog.cellsOf 4)) = xs[3]? := hg 3 _ rfl
  have g4 : DataW.trod enc Try.prog W b0 (fun _ => true) true m' 4 ((cs.drop 4).take (Try.prog.cellsOf 4)) = xs[4]? := hg 4 _ rfl
  rw [cells5] at g0
  rw [cells43] at g1
  rw [cells4] at g2 g3 g4
  match cs, hcl with
  | [z0, z1, z2, z3, z4], _ =>
    simp only [List.drop, List.take] at g0 g1 g2 g3 g4
    have h3 : xs.length = 5 := hlen
    rw [List.getElem?_eq_getElem (show 0 < xs.length by omega)] at g0
    rw [List.getElem?_eq_getElem (show 1 < xs.length by omega)] at g1
    rw [List.getElem?_eq_getElem (show 2 < xs.length by omega)] at g2
    rw [List.getElem?_eq_getElem (show 3 < xs.length by omega)] at g3
    rw [List.getElem?_eq_getElem (show 4 < xs.length by omega)] at g4
    obtain ⟨q0, e0, _, w0⟩ := DataW.trod_int Try.underlying5 g0
    obtain ⟨q1, e1, _, w1⟩ := DataW.trod_int Try.underlying43 g1
    obtain ⟨q2, e2, _⟩ := DataW.trod_bool Try.underlying4 g2
    obtain ⟨q3, e3, _⟩ := DataW.trod_bool Try.underlying4 g3
    obtain ⟨q4, e4, _⟩ := DataW.trod_bool Try.underlying4 g4
    simp only [List.cons.injEq, and_true] at e0 e1 e2 e3 e4
    exact ⟨(q0, q1, q2, q3, q4), by rw [e0, e1, e2, e3, e4], u8_of w0, u16_of w1⟩
set_option maxRecDepth 100000 in
theorem open_steps (hv : Value.okWide Try.prog W .any base 50 v) (h : DataW.Trod enc Try.prog W b0 (fun _ => true) true 50 v d p) :
    ∃ (A : Option Addr) (c : Nat) (L : List Stp), v = .slice A L.length c ∧ RdS W A L ∧ OkS L ∧ L.length ≤ 9223372036854775807 := by
  obtain ⟨a0, len0, cap0, rfl⟩ := okWide_slice Try.underlying50 hv
  obtain ⟨fuel, hf⟩ := h
  rcases open_slice Try.underlying50 hf with ⟨hcs, _⟩ | ⟨a, len, cap, m, n', D, Pl, hcs, _, hl, hm, hmm, _, hi⟩
  · simp [Value.cells] at hcs
    obtain ⟨rfl, rfl, rfl⟩ := hcs
    exact ⟨none, 0, [], rfl, fun h => absurd rfl h, (fun k hk => absurd hk (Nat.not_lt_zero _)), by simp⟩
  · simp only [if_true] at hmm
    subst hmm
    have each : ∀ i, i < len → ∃ q : Stp, (W.cell? (a.add (i * 5)) = some (.int .u8 q.1) ∧ W.cell? (a.add (i * 5 + 1)) = some (.int .u16 q.2.1) ∧ W.cell? (a.add (i * 5 + 2)) = some (.bool q.2.2.1) ∧ W.cell? (a.add (i * 5 + 3)) = some (.bool q.2.2.2.1) ∧ W.cell? (a.add (i * 5 + 4)) = some (.bool q.2.2.2.2)) ∧ (0 ≤ q.1 ∧ q.1 < 256) ∧ 0 ≤ q.2.1 ∧ q.2.1 < 65536 := by
      intro i hil
      obtain ⟨cs', hc, ht⟩ := hi i (by omega)
      rw [cells63] at hc
      obtain ⟨_, hcl, hcell⟩ := World.cells?_some hc
      obtain ⟨q, rfl, r⟩ := st_in hcl ht
      have c0 := hcell 0 (by omega)
      have c1 := hcell 1 (by omega)
      have c2 := hcell 2 (by omega)
      have c3 := hcell 3 (by omega)
      have c4 := hcell 4 (by omega)
      rw [Go.Deep.add_add] at c0 c1 c2 c3 c4
      rw [Nat.add_zero] at c0
      exact ⟨q, ⟨c0, c1, c2, c3, c4⟩, r⟩
    obtain ⟨q, hq⟩ := choose_lt each
    simp [Value.cells] at hcs
    obtain ⟨rfl, rfl, rfl⟩ := hcs
    have hlen : ((List.range len0).map q).length = len0 := by simp
    have e : ∀ k, k < len0 → sAt ((List.range len0).map q) k = q k := fun k hk => by unfold sAt; rw [range_at2 q _ hk]
    refine ⟨some a, _, (List.range len0).map q, by rw [hlen], fun hne => ?_, fun k hk => ?_, by rw [hlen]; unfold maxLen at hm; omega⟩
    · have hp : 0 < len0 := by
        rcases Nat.eq_zero_or_pos len0 with e | e
        · exfalso; apply hne; rw [e]; rfl
        · exact e
      have g := (hq 0 hp).1.1
      rw [Nat.zero_mul] at g
      obtain ⟨b, off, rfl, hb⟩ := addr_plain g
      refine ⟨b, off, rfl, hb, fun k hk => ?_⟩
      rw [hlen] at hk
      obtain ⟨⟨g0, g1, g2, g3, g4⟩, r⟩ := hq k hk
      rw [add_at] at g0 g1 g2 g3 g4
      rw [e k hk]
      exact ⟨g0, by rw [Nat.add_assoc]; exact g1, by rw [Nat.add_assoc]; exact g2, by rw [Nat.add_assoc]; exact g3, by rw [Nat.add_assoc]; exact g4⟩
    · rw [hlen] at hk
      rw [e k hk]
      exact (hq k hk).2
end
end Go.Proofs.Ytncdilkcblakhaa.In
