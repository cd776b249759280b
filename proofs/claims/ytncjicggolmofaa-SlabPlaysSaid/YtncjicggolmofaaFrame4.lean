import Derived.Test.YtncjicggolmofaaL3
import Derived.Test.YtncjicggolmofaaFrame
namespace Go.Proofs.Ytncjicggolmofaa.Sb
open Go.ChangeShapes Go.WideShapes Go.ChangeAt Go.RowKit Go.Joins Go.Deep
set_option linter.unusedVariables false
section
variable {H : Type} {enc : TypeId × Value → H} {W : World} {base b0 : Nat} {v : Value} {d : DataW H} {p : List MemPlace}
theorem bi_in {n : Nat} {cs : List Value} {x : DataW H × List MemPlace} (h : DataW.trod enc Try.prog W b0 (fun _ => true) true n 35 cs = some x) :
    ∃ (u : Value) (l : Is), cs = [u] ∧ IsI W u l ∧ l.length ≤ 9223372036854775807 := by
  rcases open_ints Try.underlying35 Try.underlying3 cells3 h with ⟨hcs, _⟩ | ⟨a, len, cap, zs, hcs, _, hl, hm, hz, _, hc, hw⟩
  · exact ⟨_, [], hcs, ⟨none, 0, rfl, Nat.le_refl _, fun h => absurd rfl h⟩, by simp⟩
  · simp only [if_true] at hz
    have hlen : (zs.take len).length = len := by rw [List.length_take]; omega
    refine ⟨_, zs.take len, hcs, ⟨some a, cap, by rw [hlen], by rw [hlen]; exact hl, fun hne => ?_⟩, by rw [hlen]; unfold maxLen at hm; omega⟩
    have hp : 0 < len := by
      rcases Nat.eq_zero_or_pos len with e | e
      · exfalso; apply hne; rw [e]; rfl
      · exact e
    have g := hc 0 (by omega)
    obtain ⟨b, off, rfl, hb⟩ := addr_plain g
    refine ⟨b, off, rfl, hb, fun k hk => ?_⟩
    rw [hlen] at hk
    have := hc k (by omega)
    rw [add_at] at this
    rw [this, List.getD_eq_getElem?_getD, List.getD_eq_getElem?_getD, List.getElem?_take_of_lt hk]
theorem cells35 : Try.prog.cellsOf 35 = 1 := by kernel_rfl
set_option maxRecDepth 100000 in
theorem open_is (hv : Value.okWide Try.prog W .any base 35 v) (h : DataW.Trod enc Try.prog W b0 (fun _ => true) true 35 v d p) :
    ∃ (A : Option Addr) (c : Nat) (l : Is), v = .slice A l.length c ∧ Bi W A l ∧ l.length ≤ 9223372036854775807 := by
  obtain ⟨a0, len0, cap0, rfl⟩ := okWide_slice Try.underlying35 hv
  obtain ⟨fuel, hf⟩ := h
  obtain ⟨u, l, e, ⟨A, c, e2, _, hb⟩, hl⟩ := bi_in hf
  simp [Value.cells] at e
  subst e
  exact ⟨A, c, l, e2, hb, hl⟩
/-- the cells of one order of a script -/
def PR (w : World) (A : Option Addr) (L : List (Int × Int)) : Prop := L ≠ [] → ∃ b off, A = some ⟨b, off, none⟩ ∧ b < w.heap.size ∧ ∀ k, k < L.length → w.cell? ⟨b, off + k * 2, none⟩ = some (.int .i64 (L.getD k (0, 0)).1) ∧ w.cell? ⟨b, off + k * 2 + 1, none⟩ = some (.int .i64 (L.getD k (0, 0)).2)
theorem cells44 : Try.prog.cellsOf 44 = 2 := by kernel_rfl
set_option maxRecDepth 100000 in
theorem op_in {n : Nat} {cs : List Value} {x : DataW H × List MemPlace} (hcl : cs.length = 2) (ht : DataW.trod enc Try.prog W b0 (fun _ => true) true n 44 cs = some x) :
    ∃ o : Int × Int, cs = [.int .i64 o.1, .int .i64 o.2] ∧ (-9223372036854775808 ≤ o.1 ∧ o.1 ≤ 9223372036854775807) ∧ (-9223372036854775808 ≤ o.2 ∧ o.2 ≤ 9223372036854775807) := by
  obtain ⟨xs, m', _, _, _, hlen, hg⟩ := DataW.trod_struct Try.underlying44 ht
  have g0 : DataW.trod enc Try.prog W b0 (fun _ => true) true m' 3 ((cs.drop 0).take (Try.prog.cellsOf 3)) = xs[0]? := hg 0 _ rfl
  have g1 : DataW.trod enc Try.prog W b0 (fun _ => true) true m' 3 ((cs.drop 1).take (Try.prog.cellsOf 3)) = xs[1]? := hg 1 _ rfl
  rw [cells3] at g0 g1
  match cs, hcl with
  | [z0, z1], _ =>
    simp only [List.drop, List.take] at g0 g1
    have h3 : xs.length = 2 := hlen
    rw [List.getElem?_eq_getElem (show 0 < xs.length by omega)] at g0
    rw [List.getElem?_eq_getElem (show 1 < xs.length by omega)] at g1
    obtain ⟨q0, e0, _, w0⟩ := DataW.trod_int Try.underlying3 g0
    obtain ⟨q1, e1, _, w1⟩ := DataW.trod_int Try.underlying3 g1
    simp only [List.cons.injEq, and_true] at e0 e1
    have b0 := wf_i64 w0
    have b1 := wf_i64 w1
    exact ⟨(q0, q1), by rw [e0, e1], ⟨b0.2, b0.1⟩, b1.2, b1.1⟩
set_option maxRecDepth 100000 in
theorem open_ops (hv : Value.okWide Try.prog W .any base 42 v) (h : DataW.Trod enc Try.prog W b0 (fun _ => true) true 42 v d p) :
    ∃ (A : Option Addr) (c : Nat) (L : List (Int × Int)), v = .slice A L.length c ∧ PR W A L ∧ L.length ≤ 9223372036854775807 ∧ L.length ≤ c ∧ ∀ k, k < L.length → (-9223372036854775808 ≤ (L.getD k (0, 0)).1 ∧ (L.getD k (0, 0)).1 ≤ 9223372036854775807) ∧ (-9223372036854775808 ≤ (L.getD k (0, 0)).2 ∧ (L.getD k (0, 0)).2 ≤ 9223372036854775807) := by
  obtain ⟨a0, len0, cap0, rfl⟩ := okWide_slice Try.underlying42 hv
  obtain ⟨fuel, hf⟩ := h
  rcases open_slice Try.underlying42 hf with ⟨hcs, _⟩ | ⟨a, len, cap, m, n', D, Pl, hcs, _, hl, hm, hmm, _, hi⟩
  · simp [Value.cells] at hcs
    obtain ⟨rfl, rfl, rfl⟩ := hcs
    exact ⟨none, 0, [], rfl, fun h => absurd rfl h, by simp, by simp, fun k hk => absurd hk (Nat.not_lt_zero _)⟩
  · simp only [if_true] at hmm
    subst hmm
    simp [Value.cells] at hcs
    obtain ⟨rfl, rfl, rfl⟩ := hcs
    have each : ∀ i, i < len0 → ∃ q : Int × Int, (∀ j, j < 2 → W.cell? (a.add (i * 2 + j)) = ([.int .i64 q.1, .int .i64 q.2] : List Value)[j]?) ∧ (-9223372036854775808 ≤ q.1 ∧ q.1 ≤ 9223372036854775807) ∧ (-9223372036854775808 ≤ q.2 ∧ q.2 ≤ 9223372036854775807) := by
      intro i hil
      obtain ⟨cs', hc, ht⟩ := hi i (by omega)
      rw [cells44] at hc
      obtain ⟨_, hcl, hcell⟩ := World.cells?_some hc
      obtain ⟨q, rfl, hq1, hq2⟩ := op_in hcl ht
      refine ⟨q, fun j hj => ?_, hq1, hq2⟩
      have c0 := hcell j (by omega)
      rwa [Go.Deep.add_add] at c0
    obtain ⟨q, hq⟩ := choose_lt each
    have hlen : ((List.range len0).map q).length = len0 := by simp
    have hat : ∀ k, k < len0 → ((List.range len0).map q).getD k (0, 0) = q k := fun k hk => by rw [List.getD_eq_getElem?_getD, List.getElem?_map, List.getElem?_range hk]; rfl
    refine ⟨some a, _, (List.range len0).map q, by rw [hlen], fun hne => ?_, by rw [hlen]; unfold maxLen at hm; omega, by rw [hlen]; exact hl, fun k hk => by rw [hlen] at hk; rw [hat k hk]; exact (hq k hk).2⟩
    have hp : 0 < len0 := by
      rcases Nat.eq_zero_or_pos len0 with e | e
      · exfalso; apply hne; rw [e]; rfl
      · exact e
    have g := (hq 0 hp).1 0 (by omega)
    rw [Nat.zero_mul] at g
    obtain ⟨b, off, rfl, hb⟩ := addr_plain (v := .int .i64 (q 0).1) (by rw [g]; rfl)
    refine ⟨b, off, rfl, hb, fun k hk => ?_⟩
    rw [hlen] at hk
    have g0 := (hq k hk).1 0 (by omega)
    have g1 := (hq k hk).1 1 (by omega)
    rw [add_at] at g0 g1
    rw [hat k hk]
    rw [Nat.add_zero] at g0
    exact ⟨by rw [g0]; rfl, by rw [show off + k * 2 + 1 = off + (k * 2 + 1) by omega, g1]; rfl⟩
end
end Go.Proofs.Ytncjicggolmofaa.Sb
