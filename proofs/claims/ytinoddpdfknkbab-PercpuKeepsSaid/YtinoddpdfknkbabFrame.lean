import Derived.Test.YtinoddpdfknkbabRd2
import Derived.ProofKit
import Derived.OpenShut
import Derived.Deep.DeepHandedRow
import Derived.Deep.SlicePairs
import Derived.Lib.LaidTab
import Derived.Lib.SmallJoins
import Derived.Carry
namespace Go.Proofs.Ytinoddpdfknkbab.Pc
open Go.ChangeShapes Go.WideShapes Go.ChangeAt Go.RowKit Go.Joins Go.Deep
set_option linter.unusedVariables false
theorem ownKnobNone : ownKnob Try.prog.godebug = none := by kernel_rfl
theorem laidOut : laidOutB Try.prog = true := by kernel_rfl
theorem cells3 : Try.prog.cellsOf 3 = 1 := by kernel_rfl
theorem cells34 : Try.prog.cellsOf 34 = 1 := by kernel_rfl
theorem cells22 : Try.prog.cellsOf 22 = 1 := by kernel_rfl
theorem cells24 : Try.prog.cellsOf 24 = 1 := by kernel_rfl
theorem cells40 : Try.prog.cellsOf 40 = 4 := by kernel_rfl
theorem add_at (b off k : Nat) : (⟨b, off, none⟩ : Addr).add k = ⟨b, off + k, none⟩ := by
  unfold Addr.add
  by_cases h : k = 0 <;> simp [h]
/-- where a cell can be read at an address, it is a plain one in an old block -/
theorem addr_plain {W : World} {a : Addr} {v : Value} (h : W.cell? (a.add 0) = some v) : ∃ b off, a = ⟨b, off, none⟩ ∧ b < W.heap.size := by
  obtain ⟨b, off, sp⟩ := a
  have hsp : sp = none := by
    cases sp with
    | none => rfl
    | some s =>
      exfalso
      simp only [World.cell?, Addr.add] at h
      split at h
      · simp at h
      · cases h
  subst hsp
  refine ⟨b, off, rfl, ?_⟩
  rcases Nat.lt_or_ge b W.heap.size with h1 | h1
  · exact h1
  · exfalso
    have h2 : W.heap[b]? = Option.none := Array.getElem?_eq_none h1
    rw [add_at] at h
    simp [World.cell?, h2] at h
theorem range_at {α : Type} [Inhabited α] (f : Nat → α) (d : α) {n k : Nat} (hk : k < n) : ((List.range n).map f).getD k d = f k := by
  rw [List.getD_eq_getElem?_getD, List.getElem?_map, List.getElem?_range hk]; rfl
/-- operations that can be read: zone, frame, batch, high -/
abbrev Po := Int × Int × Int × Int
def oAt (L : List Po) (k : Nat) : Po := L.getD k (0, 0, 0, 0)
def RdO4 (w : World) (A : Option Addr) (L : List Po) : Prop :=
  L ≠ [] → ∃ b off, A = some ⟨b, off, none⟩ ∧ b < w.heap.size ∧ ∀ k, k < L.length → w.cell? ⟨b, off + k * 4, none⟩ = some (.int .i64 (oAt L k).1) ∧ w.cell? ⟨b, off + k * 4 + 1, none⟩ = some (.int .i64 (oAt L k).2.1) ∧ w.cell? ⟨b, off + k * 4 + 2, none⟩ = some (.int .i64 (oAt L k).2.2.1) ∧ w.cell? ⟨b, off + k * 4 + 3, none⟩ = some (.int .i64 (oAt L k).2.2.2)
section
variable {H : Type} {enc : TypeId × Value → H} {W : World} {base b0 : Nat} {v : Value} {d : DataW H} {p : List MemPlace}
theorem one_of {cs : List Value} {k j : Nat} (hl : cs.length = k) (hj : j < k) : (cs.drop j).take 1 = [cs[j]'(by omega)] := by
  rw [List.drop_eq_getElem_cons (by omega)]
  rfl
theorem bi_in {n : Nat} {cs : List Value} {x : DataW H × List MemPlace} (h : DataW.trod enc Try.prog W b0 (fun _ => true) true n 34 cs = some x) :
    ∃ (u : Value) (l : Is), cs = [u] ∧ IsI W u l ∧ l.length ≤ 9223372036854775807 := by
  rcases open_ints Try.underlying34 Try.underlying3 cells3 h with ⟨hcs, _⟩ | ⟨a, len, cap, zs, hcs, _, hl, hm, hz, _, hc, hw⟩
  · exact ⟨_, [], hcs, ⟨none, 0, rfl, Nat.le_refl _, fun h => absurd rfl h⟩, by simp⟩
  · simp only [if_true] at hz
    have hlen : (zs.take len).length = len := by rw [List.length_take]; omega
    refine ⟨_, zs.take len, hcs, ⟨some a, cap, by rw [hlen], by rw [hlen]; exact hl, fun hne => ?_⟩, by rw [hlen]; unfold maxLen at hm; omega⟩
    have hp : 0 < len := by
      rcases Nat.eq_zero_or_pos len with e | e
      · exfalso; apply hne; rw [e]; rfl
      · exact e
    have g := hc 0 (by omega)
    obtain ⟨b, off, rfl, hb⟩ := addr_plain g
    refine ⟨b, off, rfl, hb, fun k hk => ?_⟩
    rw [hlen] at hk
    have := hc k (by omega)
    rw [add_at] at this
    rw [this, List.getD_eq_getElem?_getD, List.getD_eq_getElem?_getD, List.getElem?_take_of_lt hk]
theorem ls_in {n : Nat} {cs : List Value} {x : DataW H × List MemPlace} (h : DataW.trod enc Try.prog W b0 (fun _ => true) true n 22 cs = some x) :
    ∃ (A : Option Addr) (c : Nat) (L : Ls), cs = [.slice A L.length c] ∧ L.length ≤ c ∧ RdL W A L ∧ Sz 9223372036854775807 9223372036854775807 L := by
  rcases open_slice1 Try.underlying22 cells34 h with ⟨hcs, _⟩ | ⟨a, len, cap, m, n', V, D, Pl, hcs, _, hl, hm, hmm, _, hi⟩
  · exact ⟨none, 0, [], hcs, Nat.le_refl _, fun h => absurd rfl h, by simp [Sz]⟩
  · simp only [if_true] at hmm
    subst hmm
    have each : ∀ i, i < len → ∃ q : Is, W.cell? (a.add i) = some (V i) ∧ IsI W (V i) q ∧ q.length ≤ 9223372036854775807 := by
      intro i hil
      obtain ⟨hc, ht⟩ := hi i (by omega)
      obtain ⟨u, q, e, hq, hb⟩ := bi_in ht
      injection e with e
      subst e
      exact ⟨q, hc, hq, hb⟩
    obtain ⟨q, hq⟩ := choose_lt each
    have hlen : ((List.range len).map q).length = len := by simp
    have hat : ∀ k, k < len → lAt ((List.range len).map q) k = q k := fun k hk => by unfold lAt; rw [range_at q _ hk]
    refine ⟨some a, _, (List.range len).map q, by rw [hlen]; exact hcs, by rw [hlen]; exact hl, fun hne => ?_, by rw [hlen]; unfold maxLen at hm; omega, fun k hk => ?_⟩
    · have hp : 0 < len := by
        rcases Nat.eq_zero_or_pos len with e | e
        · exfalso; apply hne; rw [e]; rfl
        · exact e
      have g := (hq 0 hp).1
      obtain ⟨b, off, rfl, hb⟩ := addr_plain g
      refine ⟨b, off, rfl, hb, fun k hk => ?_⟩
      rw [hlen] at hk
      obtain ⟨g0, g1, _⟩ := hq k hk
      rw [add_at] at g0
      exact ⟨V k, g0, by rw [hat k hk]; exact g1⟩
    · rw [hlen] at hk
      rw [hat k hk]
      exact (hq k hk).2.2
/-- A CACHE THAT CAME IN, opened. -/
theorem open_cache (hv : Value.okWide Try.prog W .any base 24 v) (h : DataW.Trod enc Try.prog W b0 (fun _ => true) true 24 v d p) :
    ∃ C : Ls, CaIn W v C ∧ Sz 9223372036854775807 9223372036854775807 C := by
  obtain ⟨cs, rfl, hsz⟩ := okWide_struct Try.underlying24 hv
  obtain ⟨l⟩ := cs
  match l, hsz.trans cells24 with
  | [z0], _ =>
    obtain ⟨fuel, hf⟩ := h
    obtain ⟨xs, m', _, _, _, hlen, hg⟩ := DataW.trod_struct Try.underlying24 hf
    have g0 : DataW.trod enc Try.prog W b0 (fun _ => true) true m' 22 (([z0].drop 0).take (Try.prog.cellsOf 22)) = xs[0]? := hg 0 _ rfl
    rw [cells22] at g0
    simp only [List.drop, List.take] at g0
    have h3 : xs.length = 1 := hlen
    rw [List.getElem?_eq_getElem (show 0 < xs.length by omega)] at g0
    obtain ⟨A, c, L, e, k2, r2, b2⟩ := ls_in g0
    simp only [List.cons.injEq, and_true] at e
    subst e
    exact ⟨L, ⟨A, c, rfl, k2, r2⟩, b2⟩
/-- FRAMES THAT CAME IN, opened. -/
theorem open_fs (hv : Value.okWide Try.prog W .any base 34 v) (h : DataW.Trod enc Try.prog W b0 (fun _ => true) true 34 v d p) :
    ∃ (A : Option Addr) (c : Nat) (l : Is), v = .slice A l.length c ∧ l.length ≤ c ∧ Bi W A l ∧ l.length ≤ 9223372036854775807 := by
  obtain ⟨a0, len0, cap0, rfl⟩ := okWide_slice Try.underlying34 hv
  obtain ⟨fuel, hf⟩ := h
  obtain ⟨u, l, e, ⟨A, c, hu, hc, hr⟩, hb⟩ := bi_in hf
  simp [Value.cells] at e
  subst e
  exact ⟨A, c, l, hu, hc, hr, hb⟩
theorem op_in {n : Nat} {cs : List Value} {x : DataW H × List MemPlace} (hcl : cs.length = 4) (ht : DataW.trod enc Try.prog W b0 (fun _ => true) true n 40 cs = some x) :
    ∃ q : Po, cs = [.int .i64 q.1, .int .i64 q.2.1, .int .i64 q.2.2.1, .int .i64 q.2.2.2] ∧ (Lit.int .i64 q.1).wf = true ∧ (Lit.int .i64 q.2.1).wf = true ∧ (Lit.int .i64 q.2.2.1).wf = true ∧ (Lit.int .i64 q.2.2.2).wf = true := by
  obtain ⟨xs, m', _, _, _, hlen, hg⟩ := DataW.trod_struct Try.underlying40 ht
  have g0 : DataW.trod enc Try.prog W b0 (fun _ => true) true m' 3 ((cs.drop 0).take (Try.prog.cellsOf 3)) = xs[0]? := hg 0 _ rfl
  have g1 : DataW.trod enc Try.prog W b0 (fun _ => true) true m' 3 ((cs.drop 1).take (Try.prog.cellsOf 3)) = xs[1]? := hg 1 _ rfl
  have g2 : DataW.trod enc Try.prog W b0 (fun _ => true) true m' 3 ((cs.drop 2).take (Try.prog.cellsOf 3)) = xs[2]? := hg 2 _ rfl
  have g3 : DataW.trod enc Try.prog W b0 (fun _ => true) true m' 3 ((cs.drop 3).take (Try.prog.cellsOf 3)) = xs[3]? := hg 3 _ rfl
  rw [cells3] at g0 g1 g2 g3
  match cs, hcl with
  | [z0, z1, z2, z3], _ =>
    simp only [List.drop, List.take] at g0 g1 g2 g3
    have h3 : xs.length = 4 := hlen
    rw [List.getElem?_eq_getElem (show 0 < xs.length by omega)] at g0
    rw [List.getElem?_eq_getElem (show 1 < xs.length by omega)] at g1
    rw [List.getElem?_eq_getElem (show 2 < xs.length by omega)] at g2
    rw [List.getElem?_eq_getElem (show 3 < xs.length by omega)] at g3
    obtain ⟨q0, e0, _, w0⟩ := DataW.trod_int Try.underlying3 g0
    obtain ⟨q1, e1, _, w1⟩ := DataW.trod_int Try.underlying3 g1
    obtain ⟨q2, e2, _, w2⟩ := DataW.trod_int Try.underlying3 g2
    obtain ⟨q3, e3, _, w3⟩ := DataW.trod_int Try.underlying3 g3
    simp only [List.cons.injEq, and_true] at e0 e1 e2 e3
    exact ⟨(q0, q1, q2, q3), by rw [e0, e1, e2, e3], w0, w1, w2, w3⟩
/-- AN OPERATION THAT CAME IN, opened. -/
theorem open_op (hv : Value.okWide Try.prog W .any base 40 v) (h : DataW.Trod enc Try.prog W b0 (fun _ => true) true 40 v d p) :
    ∃ q : Po, v = .agg #[.int .i64 q.1, .int .i64 q.2.1, .int .i64 q.2.2.1, .int .i64 q.2.2.2] := by
  obtain ⟨cs, rfl, hsz⟩ := okWide_struct Try.underlying40 hv
  obtain ⟨l⟩ := cs
  obtain ⟨fuel, hf⟩ := h
  obtain ⟨q, e, _⟩ := op_in (by simpa [Value.cells] using hsz.trans cells40) hf
  simp [Value.cells] at e
  subst e
  exact ⟨q, rfl⟩
/-- A SCRIPT THAT CAME IN, opened. -/
theorem open_script (hv : Value.okWide Try.prog W .any base 45 v) (h : DataW.Trod enc Try.prog W b0 (fun _ => true) true 45 v d p) :
    ∃ (A : Option Addr) (c : Nat) (L : List Po), v = .slice A L.length c ∧ L.length ≤ c ∧ RdO4 W A L ∧ L.length ≤ 9223372036854775807 := by
  obtain ⟨a0, len0, cap0, rfl⟩ := okWide_slice Try.underlying45 hv
  obtain ⟨fuel, hf⟩ := h
  rcases open_slice Try.underlying45 hf with ⟨hcs, _⟩ | ⟨a, len, cap, m, n', D, Pl, hcs, _, hl, hm, hmm, _, hi⟩
  · simp [Value.cells] at hcs
    obtain ⟨rfl, rfl, rfl⟩ := hcs
    exact ⟨none, 0, [], rfl, Nat.le_refl _, fun h => absurd rfl h, by simp⟩
  · simp only [if_true] at hmm
    subst hmm
    simp [Value.cells] at hcs
    obtain ⟨rfl, rfl, rfl⟩ := hcs
    have each : ∀ i, i < len0 → ∃ q : Po, W.cell? (a.add (i * 4)) = some (.int .i64 q.1) ∧ W.cell? (a.add (i * 4 + 1)) = some (.int .i64 q.2.1) ∧ W.cell? (a.add (i * 4 + 2)) = some (.int .i64 q.2.2.1) ∧ W.cell? (a.add (i * 4 + 3)) = some (.int .i64 q.2.2.2) := by
      intro i hil
      obtain ⟨cs', hc, ht⟩ := hi i (by omega)
      rw [cells40] at hc
      obtain ⟨_, hcl, hcell⟩ := World.cells?_some hc
      obtain ⟨q, rfl, _⟩ := op_in hcl ht
      have c0 := hcell 0 (by omega)
      have c1 := hcell 1 (by omega)
      have c2 := hcell 2 (by omega)
      have c3 := hcell 3 (by omega)
      rw [Go.Deep.add_add] at c0 c1 c2 c3
      rw [Nat.add_zero] at c0
      exact ⟨q, c0, c1, c2, c3⟩
    obtain ⟨q, hq⟩ := choose_lt each
    have hlen : ((List.range len0).map q).length = len0 := by simp
    refine ⟨some a, _, (List.range len0).map q, by rw [hlen], by rw [hlen]; exact hl, fun hne => ?_, by rw [hlen]; unfold maxLen at hm; omega⟩
    have hp : 0 < len0 := by
      rcases Nat.eq_zero_or_pos len0 with e | e
      · exfalso; apply hne; rw [e]; rfl
      · exact e
    have g := (hq 0 hp).1
    rw [Nat.zero_mul] at g
    obtain ⟨b, off, rfl, hb⟩ := addr_plain g
    refine ⟨b, off, rfl, hb, fun k hk => ?_⟩
    rw [hlen] at hk
    obtain ⟨g0, g1, g2, g3⟩ := hq k hk
    rw [add_at] at g0 g1 g2 g3
    have e : oAt ((List.range len0).map q) k = q k := by unfold oAt; rw [range_at q _ hk]
    rw [e]
    exact ⟨g0, by rw [Nat.add_assoc]; exact g1, by rw [Nat.add_assoc]; exact g2, by rw [Nat.add_assoc]; exact g3⟩
end
end Go.Proofs.Ytinoddpdfknkbab.Pc
