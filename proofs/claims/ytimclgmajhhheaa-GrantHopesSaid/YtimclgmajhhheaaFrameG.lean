import Derived.Test.YtimclgmajhhheaaFrameR
import Derived.Test.YtimclgmajhhheaaG14
namespace Go.Proofs.Ytimclgmajhhheaa.Gr
open Go.ChangeShapes Go.WideShapes Go.ChangeAt Go.RowKit Go.Joins Go.Deep Ac
set_option linter.unusedVariables false
set_option maxRecDepth 100000
theorem cells27 : Try.prog.cellsOf 27 = 4 := by kernel_rfl
theorem cells29 : Try.prog.cellsOf 29 = 5 := by kernel_rfl
theorem cells36 : Try.prog.cellsOf 36 = 2 := by kernel_rfl
theorem cells55 : Try.prog.cellsOf 55 = 5 := by kernel_rfl
instance : Inhabited A5 := ⟨⟨0, 0, 0, 0, 0⟩⟩
instance : Inhabited A4 := ⟨⟨0, 0, 0, 0⟩⟩
section
variable {H : Type} {enc : TypeId × Value → H} {W : World} {base b0 : Nat} {v : Value} {d : DataW H} {p : List MemPlace}
theorem acc_in {n : Nat} {cs : List Value} {x : DataW H × List MemPlace} (hcl : cs.length = 5) (ht : DataW.trod enc Try.prog W b0 (fun _ => true) true n 55 cs = some x) :
    ∃ a : A5, cs = acC a ∧ i64r a.pa ∧ i64r a.us ∧ i64r a.mn ∧ i64r a.lo ∧ i64r a.mx := by
  obtain ⟨xs, m', _, _, _, hlen, hg⟩ := DataW.trod_struct Try.underlying55 ht
  have g0 : DataW.trod enc Try.prog W b0 (fun _ => true) true m' 3 ((cs.drop 0).take (Try.prog.cellsOf 3)) = xs[0]? := hg 0 _ rfl
  have g1 : DataW.trod enc Try.prog W b0 (fun _ => true) true m' 3 ((cs.drop 1).take (Try.prog.cellsOf 3)) = xs[1]? := hg 1 _ rfl
  have g2 : DataW.trod enc Try.prog W b0 (fun _ => true) true m' 3 ((cs.drop 2).take (Try.prog.cellsOf 3)) = xs[2]? := hg 2 _ rfl
  have g3 : DataW.trod enc Try.prog W b0 (fun _ => true) true m' 3 ((cs.drop 3).take (Try.prog.cellsOf 3)) = xs[3]? := hg 3 _ rfl
  have g4 : DataW.trod enc Try.prog W b0 (fun _ => true) true m' 3 ((cs.drop 4).take (Try.prog.cellsOf 3)) = xs[4]? := hg 4 _ rfl
  rw [cells3] at g0 g1 g2 g3 g4
  match cs, hcl with
  | [z0, z1, z2, z3, z4], _ =>
    simp only [List.drop, List.take] at g0 g1 g2 g3 g4
    have h3 : xs.length = 5 := hlen
    rw [List.getElem?_eq_getElem (show 0 < xs.length by omega)] at g0
    rw [List.getElem?_eq_getElem (show 1 < xs.length by omega)] at g1
    rw [List.getElem?_eq_getElem (show 2 < xs.length by omega)] at g2
    rw [List.getElem?_eq_getElem (show 3 < xs.length by omega)] at g3
    rw [List.getElem?_eq_getElem (show 4 < xs.length by omega)] at g4
    obtain ⟨q0, rfl, w0⟩ := int_in g0
    obtain ⟨q1, rfl, w1⟩ := int_in g1
    obtain ⟨q2, rfl, w2⟩ := int_in g2
    obtain ⟨q3, rfl, w3⟩ := int_in g3
    obtain ⟨q4, rfl, w4⟩ := int_in g4
    exact ⟨⟨q0, q1, q2, q3, q4⟩, rfl, w0, w1, w2, w3, w4⟩
theorem ask_in {n : Nat} {cs : List Value} {x : DataW H × List MemPlace} (hcl : cs.length = 4) (ht : DataW.trod enc Try.prog W b0 (fun _ => true) true n 27 cs = some x) :
    ∃ a : A4, cs = qC a ∧ i64r a.pc ∧ i64r a.ac ∧ i64r a.ke ∧ i64r a.us := by
  obtain ⟨xs, m', _, _, _, hlen, hg⟩ := DataW.trod_struct Try.underlying27 ht
  have g0 : DataW.trod enc Try.prog W b0 (fun _ => true) true m' 3 ((cs.drop 0).take (Try.prog.cellsOf 3)) = xs[0]? := hg 0 _ rfl
  have g1 : DataW.trod enc Try.prog W b0 (fun _ => true) true m' 3 ((cs.drop 1).take (Try.prog.cellsOf 3)) = xs[1]? := hg 1 _ rfl
  have g2 : DataW.trod enc Try.prog W b0 (fun _ => true) true m' 3 ((cs.drop 2).take (Try.prog.cellsOf 3)) = xs[2]? := hg 2 _ rfl
  have g3 : DataW.trod enc Try.prog W b0 (fun _ => true) true m' 3 ((cs.drop 3).take (Try.prog.cellsOf 3)) = xs[3]? := hg 3 _ rfl
  rw [cells3] at g0 g1 g2 g3
  match cs, hcl with
  | [z0, z1, z2, z3], _ =>
    simp only [List.drop, List.take] at g0 g1 g2 g3
    have h3 : xs.length = 4 := hlen
    rw [List.getElem?_eq_getElem (show 0 < xs.length by omega)] at g0
    rw [List.getElem?_eq_getElem (show 1 < xs.length by omega)] at g1
    rw [List.getElem?_eq_getElem (show 2 < xs.length by omega)] at g2
    rw [List.getElem?_eq_getElem (show 3 < xs.length by omega)] at g3
    obtain ⟨q0, rfl, w0⟩ := int_in g0
    obtain ⟨q1, rfl, w1⟩ := int_in g1
    obtain ⟨q2, rfl, w2⟩ := int_in g2
    obtain ⟨q3, rfl, w3⟩ := int_in g3
    exact ⟨⟨q0, q1, q2, q3⟩, rfl, w0, w1, w2, w3⟩
theorem op_in {n : Nat} {cs : List Value} {x : DataW H × List MemPlace} (hcl : cs.length = 5) (ht : DataW.trod enc Try.prog W b0 (fun _ => true) true n 29 cs = some x) :
    ∃ o : Bool × A4, cs = oC o := by
  obtain ⟨xs, m', _, _, _, hlen, hg⟩ := DataW.trod_struct Try.underlying29 ht
  have g0 : DataW.trod enc Try.prog W b0 (fun _ => true) true m' 4 ((cs.drop 0).take (Try.prog.cellsOf 4)) = xs[0]? := hg 0 _ rfl
  have g1 : DataW.trod enc Try.prog W b0 (fun _ => true) true m' 27 ((cs.drop 1).take (Try.prog.cellsOf 27)) = xs[1]? := hg 1 _ rfl
  rw [cells4] at g0
  rw [cells27] at g1
  match cs, hcl with
  | [z0, z1, z2, z3, z4], _ =>
    simp only [List.drop, List.take] at g0 g1
    have h3 : xs.length = 2 := hlen
    rw [List.getElem?_eq_getElem (show 0 < xs.length by omega)] at g0
    rw [List.getElem?_eq_getElem (show 1 < xs.length by omega)] at g1
    obtain ⟨q0, rfl⟩ := bool_in g0
    obtain ⟨a, e, _⟩ := ask_in (cs := [z1, z2, z3, z4]) rfl g1
    exact ⟨(q0, a), by show _ = Value.bool q0 :: qC a; rw [← e]⟩
theorem open_acs (hv : Value.okWide Try.prog W .any base 35 v) (h : DataW.Trod enc Try.prog W b0 (fun _ => true) true 35 v d p) :
    ∃ (A : Option Addr) (c : Nat) (L : List A5), v = .slice A L.length c ∧ AIn W A L c := by
  obtain ⟨a0, len0, cap0, rfl⟩ := okWide_slice Try.underlying35 hv
  obtain ⟨fuel, hf⟩ := h
  rcases open_slice Try.underlying35 hf with ⟨hcs, _⟩ | ⟨a, len, cap, m, n', D, Pl, hcs, _, hl, hm, hmm, _, hi⟩
  · simp [Value.cells] at hcs
    obtain ⟨rfl, rfl, rfl⟩ := hcs
    exact ⟨none, 0, [], rfl, ⟨fun h => absurd rfl h, fun k hk => absurd hk (by simp), by simp, Nat.le_refl _⟩⟩
  · simp only [if_true] at hmm
    subst hmm
    simp [Value.cells] at hcs
    obtain ⟨rfl, rfl, rfl⟩ := hcs
    have each : ∀ i, i < len0 → ∃ q : A5, (∀ j, j < 5 → W.cell? (a.add (i * 5 + j)) = (acC q)[j]?) ∧ i64r q.pa ∧ i64r q.us ∧ i64r q.mn ∧ i64r q.lo ∧ i64r q.mx := by
      intro i hil
      obtain ⟨cs', hc, ht⟩ := hi i (by omega)
      rw [cells55] at hc
      obtain ⟨_, hcl, hcell⟩ := World.cells?_some hc
      obtain ⟨q, rfl, hw⟩ := acc_in hcl ht
      refine ⟨q, fun j hj => ?_, hw⟩
      have c0 := hcell j (by omega)
      rwa [Go.Deep.add_add] at c0
    obtain ⟨q, hq⟩ := choose_lt each
    have hlen : ((List.range len0).map q).length = len0 := by simp
    have hat : ∀ k, k < len0 → aAt ((List.range len0).map q) k = q k := fun k hk => by unfold aAt; rw [List.getD_eq_getElem?_getD, List.getElem?_map, List.getElem?_range hk]; rfl
    refine ⟨some a, _, (List.range len0).map q, by rw [hlen], ⟨fun hne => ?_, fun k hk => ?_, by rw [hlen]; unfold maxLen at hm; omega, by rw [hlen]; exact hl⟩⟩
    rotate_left 1
    · rw [hlen] at hk
      unfold pa us mn lo mx
      rw [hat k hk]
      exact (hq k hk).2
    have hp : 0 < len0 := by
      rcases Nat.eq_zero_or_pos len0 with e | e
      · exfalso; apply hne; rw [e]; rfl
      · exact e
    have g := (hq 0 hp).1 0 (by omega)
    rw [Nat.zero_mul] at g
    obtain ⟨b, off, rfl, hb⟩ := addr_plain (v := (acC (q 0)).getD 0 undef) (by rw [g]; rfl)
    refine ⟨b, off, rfl, hb, fun k hk j hj => ?_⟩
    rw [hlen] at hk
    have g0 := (hq k hk).1 j hj
    rw [add_at] at g0
    rw [hat k hk, Nat.add_assoc]
    exact g0
theorem open_asks (hv : Value.okWide Try.prog W .any base 22 v) (h : DataW.Trod enc Try.prog W b0 (fun _ => true) true 22 v d p) :
    ∃ (A : Option Addr) (c : Nat) (L : List (A4)), v = .slice A L.length c ∧ Qs W A L ∧ L.length ≤ 9223372036854775807 := by
  obtain ⟨a0, len0, cap0, rfl⟩ := okWide_slice Try.underlying22 hv
  obtain ⟨fuel, hf⟩ := h
  rcases open_slice Try.underlying22 hf with ⟨hcs, _⟩ | ⟨a, len, cap, m, n', D, Pl, hcs, _, hl, hm, hmm, _, hi⟩
  · simp [Value.cells] at hcs
    obtain ⟨rfl, rfl, rfl⟩ := hcs
    exact ⟨none, 0, [], rfl, fun h => absurd rfl h, by simp⟩
  · simp only [if_true] at hmm
    subst hmm
    simp [Value.cells] at hcs
    obtain ⟨rfl, rfl, rfl⟩ := hcs
    have each : ∀ i, i < len0 → ∃ q : A4, (∀ j, j < 4 → W.cell? (a.add (i * 4 + j)) = (qC q)[j]?) := by
      intro i hil
      obtain ⟨cs', hc, ht⟩ := hi i (by omega)
      rw [cells27] at hc
      obtain ⟨_, hcl, hcell⟩ := World.cells?_some hc
      obtain ⟨q, rfl, -⟩ := ask_in hcl ht
      refine ⟨q, fun j hj => ?_⟩
      have c0 := hcell j (by omega)
      rwa [Go.Deep.add_add] at c0
    obtain ⟨q, hq⟩ := choose_lt each
    have hlen : ((List.range len0).map q).length = len0 := by simp
    have hat : ∀ k, k < len0 → qAt ((List.range len0).map q) k = q k := fun k hk => by unfold qAt; rw [List.getD_eq_getElem?_getD, List.getElem?_map, List.getElem?_range hk]; rfl
    refine ⟨some a, _, (List.range len0).map q, by rw [hlen], fun hne => ?_, by rw [hlen]; unfold maxLen at hm; omega⟩
    have hp : 0 < len0 := by
      rcases Nat.eq_zero_or_pos len0 with e | e
      · exfalso; apply hne; rw [e]; rfl
      · exact e
    have g := (hq 0 hp) 0 (by omega)
    rw [Nat.zero_mul] at g
    obtain ⟨b, off, rfl, hb⟩ := addr_plain (v := (qC (q 0)).getD 0 undef) (by rw [g]; rfl)
    refine ⟨b, off, rfl, hb, fun k hk j hj => ?_⟩
    rw [hlen] at hk
    have g0 := (hq k hk) j hj
    rw [add_at] at g0
    rw [hat k hk, Nat.add_assoc]
    exact g0
theorem open_ops (hv : Value.okWide Try.prog W .any base 23 v) (h : DataW.Trod enc Try.prog W b0 (fun _ => true) true 23 v d p) :
    ∃ (A : Option Addr) (c : Nat) (L : List (Bool × A4)), v = .slice A L.length c ∧ OpR W A L ∧ L.length ≤ 9223372036854775807 := by
  obtain ⟨a0, len0, cap0, rfl⟩ := okWide_slice Try.underlying23 hv
  obtain ⟨fuel, hf⟩ := h
  rcases open_slice Try.underlying23 hf with ⟨hcs, _⟩ | ⟨a, len, cap, m, n', D, Pl, hcs, _, hl, hm, hmm, _, hi⟩
  · simp [Value.cells] at hcs
    obtain ⟨rfl, rfl, rfl⟩ := hcs
    exact ⟨none, 0, [], rfl, fun h => absurd rfl h, by simp⟩
  · simp only [if_true] at hmm
    subst hmm
    simp [Value.cells] at hcs
    obtain ⟨rfl, rfl, rfl⟩ := hcs
    have each : ∀ i, i < len0 → ∃ q : Bool × A4, (∀ j, j < 5 → W.cell? (a.add (i * 5 + j)) = (oC q)[j]?) := by
      intro i hil
      obtain ⟨cs', hc, ht⟩ := hi i (by omega)
      rw [cells29] at hc
      obtain ⟨_, hcl, hcell⟩ := World.cells?_some hc
      obtain ⟨q, rfl⟩ := op_in hcl ht
      refine ⟨q, fun j hj => ?_⟩
      have c0 := hcell j (by omega)
      rwa [Go.Deep.add_add] at c0
    obtain ⟨q, hq⟩ := choose_lt each
    have hlen : ((List.range len0).map q).length = len0 := by simp
    have hat : ∀ k, k < len0 → oAt ((List.range len0).map q) k = q k := fun k hk => by unfold oAt; rw [List.getD_eq_getElem?_getD, List.getElem?_map, List.getElem?_range hk]; rfl
    refine ⟨some a, _, (List.range len0).map q, by rw [hlen], fun hne => ?_, by rw [hlen]; unfold maxLen at hm; omega⟩
    have hp : 0 < len0 := by
      rcases Nat.eq_zero_or_pos len0 with e | e
      · exfalso; apply hne; rw [e]; rfl
      · exact e
    have g := (hq 0 hp) 0 (by omega)
    rw [Nat.zero_mul] at g
    obtain ⟨b, off, rfl, hb⟩ := addr_plain (v := (oC (q 0)).getD 0 undef) (by rw [g]; rfl)
    refine ⟨b, off, rfl, hb, fun k hk j hj => ?_⟩
    rw [hlen] at hk
    have g0 := (hq k hk) j hj
    rw [add_at] at g0
    rw [hat k hk, Nat.add_assoc]
    exact g0
theorem open_ask (hv : Value.okWide Try.prog W .any base 27 v) (h : DataW.Trod enc Try.prog W b0 (fun _ => true) true 27 v d p) : ∃ (q0 q1 q2 q3 : Int), v = .agg #[.int .i64 q0, .int .i64 q1, .int .i64 q2, .int .i64 q3] ∧ i64r q0 ∧ i64r q1 ∧ i64r q2 ∧ i64r q3 := by
  obtain ⟨cs, rfl, hsz⟩ := okWide_struct Try.underlying27 hv
  obtain ⟨l⟩ := cs
  obtain ⟨fuel, hf⟩ := h
  obtain ⟨⟨q0, q1, q2, q3⟩, e, hw⟩ := ask_in (by simpa [Value.cells] using hsz.trans cells27) hf
  simp [Value.cells, qC] at e
  subst e
  exact ⟨q0, q1, q2, q3, rfl, hw⟩
theorem open_two (hv : Value.okWide Try.prog W .any base 36 v) (h : DataW.Trod enc Try.prog W b0 (fun _ => true) true 36 v d p) : ∃ (x y : Int), v = .agg #[.int .i64 x, .int .i64 y] ∧ i64r x ∧ i64r y := by
  simp only [Value.okWide, Try.underlying36] at hv
  obtain ⟨cs, rfl, hsz, _⟩ := hv
  obtain ⟨l⟩ := cs
  rw [cells36] at hsz
  match l, hsz with
  | [c0, c1], _ =>
    obtain ⟨fuel, hf⟩ := h
    obtain ⟨xs, m, _, hx, _, hlen, hg⟩ := DataW.trod_array Try.underlying36 hf
    match xs, hlen with
    | [y0, y1], _ =>
      have g0 := hg 0 (by omega)
      have g1 := hg 1 (by omega)
      simp only [cells3, Value.cells] at g0 g1
      obtain ⟨a, e0, w0⟩ := int_in (show DataW.trod enc Try.prog W b0 (fun _ => true) true m 3 [c0] = some y0 by simpa using g0)
      obtain ⟨b, e1, w1⟩ := int_in (show DataW.trod enc Try.prog W b0 (fun _ => true) true m 3 [c1] = some y1 by simpa using g1)
      subst e0 e1
      exact ⟨a, b, rfl, w0, w1⟩
end
end Go.Proofs.Ytimclgmajhhheaa.Gr
