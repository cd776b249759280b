import Derived.Test.YtflplldamefhoaaFrame2
import Derived.Test.YtflplldamefhoaaPl2
namespace Go.Proofs.Ytflplldamefhoaa.Bd
open Go.ChangeShapes Go.WideShapes Go.ChangeAt Go.RowKit Go.Joins Go.Deep
set_option linter.unusedVariables false
theorem u8_of {n : Int} (h : (Lit.int .u8 n).wf = true) : 0 ≤ n ∧ n < 256 := by
  unfold Lit.wf at h
  simp only [Bool.and_eq_true, decide_eq_true_eq] at h
  have h1 : IntKind.u8.min = 0 := by decide
  have h2 : IntKind.u8.max = 255 := by decide
  omega
theorem cells4 : Try.prog.cellsOf 4 = 1 := by kernel_rfl
theorem cells5 : Try.prog.cellsOf 5 = 1 := by kernel_rfl
theorem cells50 : Try.prog.cellsOf 50 = 2 := by kernel_rfl
theorem cells67 : Try.prog.cellsOf 67 = 3 := by kernel_rfl
theorem range_at {α : Type} [Inhabited α] (f : Nat → α) (d : α) {n k : Nat} (hk : k < n) : ((List.range n).map f).getD k d = f k := by
  rw [List.getD_eq_getElem?_getD, List.getElem?_map, List.getElem?_range hk]; rfl
section
variable {H : Type} {enc : TypeId × Value → H} {W : World} {base b0 : Nat} {v : Value} {d : DataW H} {p : List MemPlace}
theorem u8_in {n : Nat} {c : Value} {x : DataW H × List MemPlace} (h : DataW.trod enc Try.prog W b0 (fun _ => true) true n 5 [c] = some x) : ∃ z, c = .int .u8 z ∧ 0 ≤ z ∧ z < 256 := by
  obtain ⟨q, e, _, w⟩ := DataW.trod_int Try.underlying5 h
  simp only [List.cons.injEq, and_true] at e
  exact ⟨q, e, u8_of w⟩
theorem open_pair8 (hv : Value.okWide Try.prog W .any base 50 v) (h : DataW.Trod enc Try.prog W b0 (fun _ => true) true 50 v d p) : ∃ (x y : Int), v = .agg #[.int .u8 x, .int .u8 y] ∧ (0 ≤ x ∧ x < 256) ∧ 0 ≤ y ∧ y < 256 := by
  simp only [Value.okWide, Try.underlying50] at hv
  obtain ⟨cs, rfl, hsz, _⟩ := hv
  obtain ⟨l⟩ := cs
  rw [cells50] at hsz
  match l, hsz with
  | [c0, c1], _ =>
    obtain ⟨fuel, hf⟩ := h
    obtain ⟨xs, m, _, hx, _, hlen, hg⟩ := DataW.trod_array Try.underlying50 hf
    match xs, hlen with
    | [y0, y1], _ =>
      have g0 := hg 0 (by omega)
      have g1 := hg 1 (by omega)
      simp only [cells5, Value.cells] at g0 g1
      obtain ⟨a, e0, w0⟩ := u8_in (show DataW.trod enc Try.prog W b0 (fun _ => true) true m 5 [c0] = some y0 by simpa using g0)
      obtain ⟨b, e1, w1⟩ := u8_in (show DataW.trod enc Try.prog W b0 (fun _ => true) true m 5 [c1] = some y1 by simpa using g1)
      subst e0 e1
      exact ⟨a, b, rfl, w0, w1⟩
theorem st_in {n : Nat} {cs : List Value} {x : DataW H × List MemPlace} (hcl : cs.length = 3) (ht : DataW.trod enc Try.prog W b0 (fun _ => true) true n 67 cs = some x) :
    ∃ q : St, cs = [.bool q.1, .int .u8 q.2.1, .int .u8 q.2.2] ∧ (0 ≤ q.2.1 ∧ q.2.1 < 256) ∧ 0 ≤ q.2.2 ∧ q.2.2 < 256 := by
  obtain ⟨xs, m', _, _, _, hlen, hg⟩ := DataW.trod_struct Try.underlying67 ht
  have g0 : DataW.trod enc Try.prog W b0 (fun _ => true) true m' 4 ((cs.drop 0).take (Try.prog.cellsOf 4)) = xs[0]? := hg 0 _ rfl
  have g1 : DataW.trod enc Try.prog W b0 (fun _ => true) true m' 5 ((cs.drop 1).take (Try.prog.cellsOf 5)) = xs[1]? := hg 1 _ rfl
  have g2 : DataW.trod enc Try.prog W b0 (fun _ => true) true m' 5 ((cs.drop 2).take (Try.prog.cellsOf 5)) = xs[2]? := hg 2 _ rfl
  rw [cells4] at g0
  rw [cells5] at g1 g2
  match cs, hcl with
  | [z0, z1, z2], _ =>
    simp only [List.drop, List.take] at g0 g1 g2
    have h3 : xs.length = 3 := hlen
    rw [List.getElem?_eq_getElem (show 0 < xs.length by omega)] at g0
    rw [List.getElem?_eq_getElem (show 1 < xs.length by omega)] at g1
    rw [List.getElem?_eq_getElem (show 2 < xs.length by omega)] at g2
    obtain ⟨q0, e0, _⟩ := DataW.trod_bool Try.underlying4 g0
    obtain ⟨q1, e1, w1⟩ := u8_in g1
    obtain ⟨q2, e2, w2⟩ := u8_in g2
    simp only [List.cons.injEq, and_true] at e0
    exact ⟨(q0, q1, q2), by rw [e0, e1, e2], w1, w2⟩
theorem open_steps (hv : Value.okWide Try.prog W .any base 45 v) (h : DataW.Trod enc Try.prog W b0 (fun _ => true) true 45 v d p) :
    ∃ (A : Option Addr) (c : Nat) (L : List St), v = .slice A L.length c ∧ L.length ≤ c ∧ Sts W A L ∧ StsIn L ∧ L.length ≤ 9223372036854775807 := by
  obtain ⟨a0, len0, cap0, rfl⟩ := okWide_slice Try.underlying45 hv
  obtain ⟨fuel, hf⟩ := h
  rcases open_slice Try.underlying45 hf with ⟨hcs, _⟩ | ⟨a, len, cap, m, n', D, Pl, hcs, _, hl, hm, hmm, _, hi⟩
  · simp [Value.cells] at hcs
    obtain ⟨rfl, rfl, rfl⟩ := hcs
    exact ⟨none, 0, [], rfl, Nat.le_refl _, fun h => absurd rfl h, fun o ho => (by cases ho), by simp⟩
  · simp only [if_true] at hmm
    subst hmm
    simp [Value.cells] at hcs
    obtain ⟨rfl, rfl, rfl⟩ := hcs
    have each : ∀ i, i < len0 → ∃ q : St, (W.cell? (a.add (i * 3)) = some (.bool q.1) ∧ W.cell? (a.add (i * 3 + 1)) = some (.int .u8 q.2.1) ∧ W.cell? (a.add (i * 3 + 2)) = some (.int .u8 q.2.2)) ∧ (0 ≤ q.2.1 ∧ q.2.1 < 256) ∧ 0 ≤ q.2.2 ∧ q.2.2 < 256 := by
      intro i hil
      obtain ⟨cs', hc, ht⟩ := hi i (by omega)
      rw [cells67] at hc
      obtain ⟨_, hcl, hcell⟩ := World.cells?_some hc
      obtain ⟨q, rfl, hq⟩ := st_in hcl ht
      have c0 := hcell 0 (by omega)
      have c1 := hcell 1 (by omega)
      have c2 := hcell 2 (by omega)
      rw [Go.Deep.add_add] at c0 c1 c2
      rw [Nat.add_zero] at c0
      exact ⟨q, ⟨c0, c1, c2⟩, hq⟩
    obtain ⟨q, hq⟩ := choose_lt each
    have hlen : ((List.range len0).map q).length = len0 := by simp
    refine ⟨some a, _, (List.range len0).map q, by rw [hlen], by rw [hlen]; exact hl, fun hne => ?_, fun o ho => ?_, by rw [hlen]; unfold maxLen at hm; omega⟩
    · have hp : 0 < len0 := by
        rcases Nat.eq_zero_or_pos len0 with e | e
        · exfalso; apply hne; rw [e]; rfl
        · exact e
      have g := (hq 0 hp).1.1
      rw [Nat.zero_mul] at g
      obtain ⟨b, off, rfl, hb⟩ := addr_plain g
      refine ⟨b, off, rfl, hb, fun k hk => ?_⟩
      rw [hlen] at hk
      obtain ⟨⟨g0, g1, g2⟩, _⟩ := hq k hk
      rw [add_at] at g0 g1 g2
      have e : stAt ((List.range len0).map q) k = q k := by unfold stAt; rw [range_at q _ hk]
      rw [e]
      exact ⟨g0, by rw [Nat.add_assoc]; exact g1, by rw [Nat.add_assoc]; exact g2⟩
    · obtain ⟨i, hi', rfl⟩ := List.mem_map.1 ho
      exact (hq i (List.mem_range.1 hi')).2
/-- a slice that reads as bytes -/
theorem open_bytes (hv : Value.okWide Try.prog W .any base 56 v) (h : DataW.Trod enc Try.prog W b0 (fun _ => true) true 56 v d p) :
    ∃ (A : Option Addr) (c : Nat) (L : List Int), v = .slice A L.length c ∧ Pk W A L ∧ L.length ≤ 9223372036854775807 := by
  obtain ⟨a0, len0, cap0, rfl⟩ := okWide_slice Try.underlying56 hv
  obtain ⟨fuel, hf⟩ := h
  rcases open_slice1 Try.underlying56 cells5 hf with ⟨hcs, _⟩ | ⟨a, len, cap, m, n', V, D, Pl, hcs, _, hl, hm, hmm, _, hi⟩
  · simp [Value.cells] at hcs
    obtain ⟨rfl, rfl, rfl⟩ := hcs
    exact ⟨none, 0, [], rfl, fun h => absurd rfl h, by simp⟩
  · simp only [if_true] at hmm
    subst hmm
    have each : ∀ i, i < len → ∃ q : Int, W.cell? (a.add i) = some (.int .u8 q) ∧ 0 ≤ q ∧ q < 256 := by
      intro i hil
      obtain ⟨hc, ht⟩ := hi i (by omega)
      obtain ⟨b, h1, h2⟩ := u8_in ht
      exact ⟨b, by rw [hc, h1], h2⟩
    obtain ⟨q, hq⟩ := choose_lt each
    simp [Value.cells] at hcs
    obtain ⟨rfl, rfl, rfl⟩ := hcs
    have hlen : ((List.range len0).map q).length = len0 := by simp
    refine ⟨some a, _, (List.range len0).map q, by rw [hlen], fun hne => ?_, by rw [hlen]; unfold maxLen at hm; omega⟩
    have hp : 0 < len0 := by
      rcases Nat.eq_zero_or_pos len0 with e | e
      · exfalso; apply hne; rw [e]; rfl
      · exact e
    obtain ⟨b, off, rfl, hb⟩ := addr_plain (hq 0 hp).1
    refine ⟨b, off, rfl, hb, fun k hk => ?_⟩
    rw [hlen] at hk
    have := hq k hk
    rw [add_at] at this
    rw [range_at q _ hk]
    exact this
end
end Go.Proofs.Ytflplldamefhoaa.Bd
