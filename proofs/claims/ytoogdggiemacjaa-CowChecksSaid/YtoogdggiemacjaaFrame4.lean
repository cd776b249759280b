import Derived.Test.YtoogdggiemacjaaFrame
import Derived.Test.YtoogdggiemacjaaS4
namespace Go.Proofs.Ytoogdggiemacjaa.Cw
open Go.ChangeShapes Go.WideShapes Go.ChangeAt Go.RowKit Go.Joins Go.Deep
set_option linter.unusedVariables false
theorem cells53 : Try.prog.cellsOf 53 = 2 := by kernel_rfl
theorem cells64 : Try.prog.cellsOf 64 = 2 := by kernel_rfl
theorem cells62 : Try.prog.cellsOf 62 = 2 := by kernel_rfl
theorem cells60 : Try.prog.cellsOf 60 = 1 := by kernel_rfl
theorem cells25 : Try.prog.cellsOf 25 = 1 := by kernel_rfl
theorem cells26 : Try.prog.cellsOf 26 = 1 := by kernel_rfl
theorem cells28 : Try.prog.cellsOf 28 = 4 := by kernel_rfl
section
variable {H : Type} {enc : TypeId × Value → H} {W : World} {base b0 : Nat} {v : Value} {d : DataW H} {p : List MemPlace}
set_option maxRecDepth 100000 in
theorem frame_in {n : Nat} {cs : List Value} {x : DataW H × List MemPlace} (hcl : cs.length = 2) (ht : DataW.trod enc Try.prog W b0 (fun _ => true) true n 53 cs = some x) :
    ∃ q : Fr, cs = [.int .i64 q.1, .int .i64 q.2] := by
  obtain ⟨xs, m', _, _, _, hlen, hg⟩ := DataW.trod_struct Try.underlying53 ht
  have g0 : DataW.trod enc Try.prog W b0 (fun _ => true) true m' 3 ((cs.drop 0).take (Try.prog.cellsOf 3)) = xs[0]? := hg 0 _ rfl
  rw [cells3] at g0
  have g1 : DataW.trod enc Try.prog W b0 (fun _ => true) true m' 3 ((cs.drop 1).take (Try.prog.cellsOf 3)) = xs[1]? := hg 1 _ rfl
  rw [cells3] at g1
  match cs, hcl with
  | [z0, z1], _ =>
    simp only [List.drop, List.take] at g0 g1
    have h3 : xs.length = 2 := hlen
    rw [List.getElem?_eq_getElem (show 0 < xs.length by omega)] at g0
    rw [List.getElem?_eq_getElem (show 1 < xs.length by omega)] at g1
    obtain ⟨q0, e0, w0⟩ := int_in g0
    obtain ⟨q1, e1, w1⟩ := int_in g1
    subst e0 e1
    exact ⟨(q0, q1), rfl⟩
set_option maxRecDepth 100000 in
theorem page_in {n : Nat} {cs : List Value} {x : DataW H × List MemPlace} (hcl : cs.length = 2) (ht : DataW.trod enc Try.prog W b0 (fun _ => true) true n 64 cs = some x) :
    ∃ q : Pg, cs = [.int .i64 q.1, .bool q.2] := by
  obtain ⟨xs, m', _, _, _, hlen, hg⟩ := DataW.trod_struct Try.underlying64 ht
  have g0 : DataW.trod enc Try.prog W b0 (fun _ => true) true m' 3 ((cs.drop 0).take (Try.prog.cellsOf 3)) = xs[0]? := hg 0 _ rfl
  rw [cells3] at g0
  have g1 : DataW.trod enc Try.prog W b0 (fun _ => true) true m' 4 ((cs.drop 1).take (Try.prog.cellsOf 4)) = xs[1]? := hg 1 _ rfl
  rw [cells4] at g1
  match cs, hcl with
  | [z0, z1], _ =>
    simp only [List.drop, List.take] at g0 g1
    have h3 : xs.length = 2 := hlen
    rw [List.getElem?_eq_getElem (show 0 < xs.length by omega)] at g0
    rw [List.getElem?_eq_getElem (show 1 < xs.length by omega)] at g1
    obtain ⟨q0, e0, w0⟩ := int_in g0
    obtain ⟨q1, e1⟩ := bool_in g1
    subst e0 e1
    exact ⟨(q0, q1), rfl⟩
set_option maxRecDepth 100000 in
theorem frames_in {n : Nat} {cs : List Value} {x : DataW H × List MemPlace} (h : DataW.trod enc Try.prog W b0 (fun _ => true) true n 26 cs = some x) :
    ∃ (A : Option Addr) (c : Nat) (L : List Fr), cs = [.slice A L.length c] ∧ RdF W A L ∧ L.length ≤ c ∧ L.length ≤ 9223372036854775807 := by
  rcases open_slice Try.underlying26 h with ⟨hcs, _⟩ | ⟨a, len, cap, m, n', D, Pl, hcs, _, hl, hm, hmm, _, hi⟩
  · exact ⟨none, 0, [], hcs, fun h => absurd rfl h, by simp, by simp⟩
  · simp only [if_true] at hmm
    subst hmm
    have each : ∀ i, i < len → ∃ q : Fr, W.cell? (a.add (i * 2 + 0)) = some (.int .i64 q.1) ∧ W.cell? (a.add (i * 2 + 1)) = some (.int .i64 q.2) := by
      intro i hil
      obtain ⟨cs', hc, ht⟩ := hi i (by omega)
      rw [cells53] at hc
      obtain ⟨_, hcl, hcell⟩ := World.cells?_some hc
      obtain ⟨q, rfl⟩ := frame_in hcl ht
      have c0 := hcell 0 (by omega)
      have c1 := hcell 1 (by omega)
      rw [Go.Deep.add_add] at c0 c1
      exact ⟨q, c0, c1⟩
    obtain ⟨q, hq⟩ := choose_lt each
    have hlen : ((List.range len).map q).length = len := by simp
    have hat : ∀ k, k < len → fAt ((List.range len).map q) k = q k := fun k hk => by unfold fAt; rw [List.getD_eq_getElem?_getD, List.getElem?_map, List.getElem?_range hk]; rfl
    refine ⟨some a, _, (List.range len).map q, by rw [hlen]; exact hcs, fun hne => ?_, by rw [hlen]; exact hl, by rw [hlen]; unfold maxLen at hm; omega⟩
    have hp : 0 < len := by
      rcases Nat.eq_zero_or_pos len with e | e
      · exfalso; apply hne; rw [e]; rfl
      · exact e
    have g := (hq 0 hp).1
    rw [Nat.zero_mul] at g
    obtain ⟨b, off, rfl, hb⟩ := addr_plain g
    refine ⟨b, off, rfl, hb, fun k hk => ?_⟩
    rw [hlen] at hk
    rw [hat k hk]
    have g0 := (hq k hk).1
    have g1 := (hq k hk).2
    rw [add_at] at g0 g1
    exact ⟨g0, by rw [Nat.add_assoc]; exact g1⟩
set_option maxRecDepth 100000 in
theorem pages_in {n : Nat} {cs : List Value} {x : DataW H × List MemPlace} (h : DataW.trod enc Try.prog W b0 (fun _ => true) true n 60 cs = some x) :
    ∃ (A : Option Addr) (c : Nat) (L : List Pg), cs = [.slice A L.length c] ∧ RdP W A L ∧ L.length ≤ c ∧ L.length ≤ 9223372036854775807 := by
  rcases open_slice Try.underlying60 h with ⟨hcs, _⟩ | ⟨a, len, cap, m, n', D, Pl, hcs, _, hl, hm, hmm, _, hi⟩
  · exact ⟨none, 0, [], hcs, fun h => absurd rfl h, by simp, by simp⟩
  · simp only [if_true] at hmm
    subst hmm
    have each : ∀ i, i < len → ∃ q : Pg, W.cell? (a.add (i * 2 + 0)) = some (.int .i64 q.1) ∧ W.cell? (a.add (i * 2 + 1)) = some (.bool q.2) := by
      intro i hil
      obtain ⟨cs', hc, ht⟩ := hi i (by omega)
      rw [cells64] at hc
      obtain ⟨_, hcl, hcell⟩ := World.cells?_some hc
      obtain ⟨q, rfl⟩ := page_in hcl ht
      have c0 := hcell 0 (by omega)
      have c1 := hcell 1 (by omega)
      rw [Go.Deep.add_add] at c0 c1
      exact ⟨q, c0, c1⟩
    obtain ⟨q, hq⟩ := choose_lt each
    have hlen : ((List.range len).map q).length = len := by simp
    have hat : ∀ k, k < len → pAt ((List.range len).map q) k = q k := fun k hk => by unfold pAt; rw [List.getD_eq_getElem?_getD, List.getElem?_map, List.getElem?_range hk]; rfl
    refine ⟨some a, _, (List.range len).map q, by rw [hlen]; exact hcs, fun hne => ?_, by rw [hlen]; exact hl, by rw [hlen]; unfold maxLen at hm; omega⟩
    have hp : 0 < len := by
      rcases Nat.eq_zero_or_pos len with e | e
      · exfalso; apply hne; rw [e]; rfl
      · exact e
    have g := (hq 0 hp).1
    rw [Nat.zero_mul] at g
    obtain ⟨b, off, rfl, hb⟩ := addr_plain g
    refine ⟨b, off, rfl, hb, fun k hk => ?_⟩
    rw [hlen] at hk
    rw [hat k hk]
    have g0 := (hq k hk).1
    have g1 := (hq k hk).2
    rw [add_at] at g0 g1
    exact ⟨g0, by rw [Nat.add_assoc]; exact g1⟩
set_option maxRecDepth 100000 in
theorem space_in {n : Nat} {cs : List Value} {x : DataW H × List MemPlace} (hcl : cs.length = 2) (ht : DataW.trod enc Try.prog W b0 (fun _ => true) true n 62 cs = some x) :
    ∃ (q : Sp) (u : Value), cs = [.bool q.1, u] ∧ IsP W u q.2 ∧ q.2.length ≤ 9223372036854775807 := by
  obtain ⟨xs, m', _, _, _, hlen, hg⟩ := DataW.trod_struct Try.underlying62 ht
  have g0 : DataW.trod enc Try.prog W b0 (fun _ => true) true m' 4 ((cs.drop 0).take (Try.prog.cellsOf 4)) = xs[0]? := hg 0 _ rfl
  rw [cells4] at g0
  have g1 : DataW.trod enc Try.prog W b0 (fun _ => true) true m' 60 ((cs.drop 1).take (Try.prog.cellsOf 60)) = xs[1]? := hg 1 _ rfl
  rw [cells60] at g1
  match cs, hcl with
  | [z0, z1], _ =>
    simp only [List.drop, List.take] at g0 g1
    have h3 : xs.length = 2 := hlen
    rw [List.getElem?_eq_getElem (show 0 < xs.length by omega)] at g0
    rw [List.getElem?_eq_getElem (show 1 < xs.length by omega)] at g1
    obtain ⟨q0, e0⟩ := bool_in g0
    obtain ⟨A, c, L, e1, hr, hc, hm⟩ := pages_in g1
    simp only [List.cons.injEq, and_true] at e1
    subst e0 e1
    exact ⟨(q0, L), _, rfl, ⟨A, c, rfl, hc, hr⟩, hm⟩
set_option maxRecDepth 100000 in
theorem spaces_in {n : Nat} {cs : List Value} {x : DataW H × List MemPlace} (h : DataW.trod enc Try.prog W b0 (fun _ => true) true n 25 cs = some x) :
    ∃ (A : Option Addr) (c : Nat) (L : List Sp), cs = [.slice A L.length c] ∧ RdS W A L ∧ L.length ≤ c ∧ L.length ≤ 9223372036854775807 ∧ ∀ k, k < L.length → (sAt L k).2.length ≤ 9223372036854775807 := by
  rcases open_slice Try.underlying25 h with ⟨hcs, _⟩ | ⟨a, len, cap, m, n', D, Pl, hcs, _, hl, hm, hmm, _, hi⟩
  · exact ⟨none, 0, [], hcs, fun h => absurd rfl h, by simp, by simp, fun k hk => absurd hk (Nat.not_lt_zero _)⟩
  · simp only [if_true] at hmm
    subst hmm
    have each : ∀ i, i < len → ∃ q : Sp, W.cell? (a.add (i * 2 + 0)) = some (.bool q.1) ∧ (∃ u, W.cell? (a.add (i * 2 + 1)) = some u ∧ IsP W u q.2) ∧ q.2.length ≤ 9223372036854775807 := by
      intro i hil
      obtain ⟨cs', hc, ht⟩ := hi i (by omega)
      rw [cells62] at hc
      obtain ⟨_, hcl, hcell⟩ := World.cells?_some hc
      obtain ⟨q, u, rfl, hu, hm2⟩ := space_in hcl ht
      have c0 := hcell 0 (by omega)
      have c1 := hcell 1 (by omega)
      rw [Go.Deep.add_add] at c0 c1
      exact ⟨q, c0, ⟨u, c1, hu⟩, hm2⟩
    obtain ⟨q, hq⟩ := choose_lt each
    have hlen : ((List.range len).map q).length = len := by simp
    have hat : ∀ k, k < len → sAt ((List.range len).map q) k = q k := fun k hk => by unfold sAt; rw [List.getD_eq_getElem?_getD, List.getElem?_map, List.getElem?_range hk]; rfl
    refine ⟨some a, _, (List.range len).map q, by rw [hlen]; exact hcs, fun hne => ?_, by rw [hlen]; exact hl, by rw [hlen]; unfold maxLen at hm; omega, fun k hk => by rw [hlen] at hk; rw [hat k hk]; exact (hq k hk).2.2⟩
    have hp : 0 < len := by
      rcases Nat.eq_zero_or_pos len with e | e
      · exfalso; apply hne; rw [e]; rfl
      · exact e
    have g := (hq 0 hp).1
    rw [Nat.zero_mul] at g
    obtain ⟨b, off, rfl, hb⟩ := addr_plain g
    refine ⟨b, off, rfl, hb, fun k hk => ?_⟩
    rw [hlen] at hk
    rw [hat k hk]
    have g0 := (hq k hk).1
    obtain ⟨u, g1, hu⟩ := (hq k hk).2.1
    rw [add_at] at g0 g1
    exact ⟨u, g0, by rw [Nat.add_assoc]; exact g1, hu⟩
set_option maxRecDepth 100000 in
theorem cow_in {n : Nat} {cs : List Value} {x : DataW H × List MemPlace} (hcl : cs.length = 4) (ht : DataW.trod enc Try.prog W b0 (fun _ => true) true n 28 cs = some x) :
    ∃ (M : Cow) (As Af : Option Addr) (cs' cf : Nat), cs = (cwA M As cs' Af cf).toList ∧ CwIn W M As cs' Af cf ∧ Big M := by
  obtain ⟨xs, m', _, _, _, hlen, hg⟩ := DataW.trod_struct Try.underlying28 ht
  have g0 : DataW.trod enc Try.prog W b0 (fun _ => true) true m' 3 ((cs.drop 0).take (Try.prog.cellsOf 3)) = xs[0]? := hg 0 _ rfl
  rw [cells3] at g0
  have g1 : DataW.trod enc Try.prog W b0 (fun _ => true) true m' 25 ((cs.drop 1).take (Try.prog.cellsOf 25)) = xs[1]? := hg 1 _ rfl
  rw [cells25] at g1
  have g2 : DataW.trod enc Try.prog W b0 (fun _ => true) true m' 26 ((cs.drop 2).take (Try.prog.cellsOf 26)) = xs[2]? := hg 2 _ rfl
  rw [cells26] at g2
  have g3 : DataW.trod enc Try.prog W b0 (fun _ => true) true m' 3 ((cs.drop 3).take (Try.prog.cellsOf 3)) = xs[3]? := hg 3 _ rfl
  rw [cells3] at g3
  match cs, hcl with
  | [z0, z1, z2, z3], _ =>
    simp only [List.drop, List.take] at g0 g1 g2 g3
    have h3 : xs.length = 4 := hlen
    rw [List.getElem?_eq_getElem (show 0 < xs.length by omega)] at g0
    rw [List.getElem?_eq_getElem (show 1 < xs.length by omega)] at g1
    rw [List.getElem?_eq_getElem (show 2 < xs.length by omega)] at g2
    rw [List.getElem?_eq_getElem (show 3 < xs.length by omega)] at g3
    obtain ⟨q0, e0, _⟩ := int_in g0
    obtain ⟨As, c1, S, e1, r1, k1, m1, a1⟩ := spaces_in g1
    obtain ⟨Af, c2, F, e2, r2, k2, m2⟩ := frames_in g2
    obtain ⟨q3, e3, _⟩ := int_in g3
    simp only [List.cons.injEq, and_true] at e1 e2
    subst e0 e1 e2 e3
    exact ⟨⟨q0, S, F, q3⟩, As, Af, c1, c2, rfl, ⟨k1, k2, r1, r2⟩, ⟨m1, m2, a1⟩⟩
theorem open_cow (hv : Value.okWide Try.prog W .any base 28 v) (h : DataW.Trod enc Try.prog W b0 (fun _ => true) true 28 v d p) : ∃ (M : Cow) (As Af : Option Addr) (cs cf : Nat), v = .agg (cwA M As cs Af cf) ∧ CwIn W M As cs Af cf ∧ Big M := by
  obtain ⟨cs, rfl, hsz⟩ := okWide_struct Try.underlying28 hv
  obtain ⟨l⟩ := cs
  obtain ⟨fuel, hf⟩ := h
  obtain ⟨M, As, Af, c1, c2, e, hi, hB⟩ := cow_in (by simpa [Value.cells] using hsz.trans cells28) hf
  simp [Value.cells] at e
  subst e
  exact ⟨M, As, Af, c1, c2, rfl, hi, hB⟩
theorem open_op1 (hv : Value.okWide Try.prog W .any base 33 v) (h : DataW.Trod enc Try.prog W b0 (fun _ => true) true 33 v d p) : ∃ (k s q x : Int), v = .agg #[.int .i64 k, .int .i64 s, .int .i64 q, .int .i64 x] := by
  obtain ⟨cs, rfl, hsz⟩ := okWide_struct Try.underlying33 hv
  obtain ⟨l⟩ := cs
  obtain ⟨fuel, hf⟩ := h
  obtain ⟨o, e, _⟩ := Op_in (by simpa [Value.cells] using hsz.trans cells33) hf
  simp [Value.cells] at e
  subst e
  exact ⟨o.1, o.2.1, o.2.2.1, o.2.2.2, rfl⟩
end
end Go.Proofs.Ytoogdggiemacjaa.Cw
