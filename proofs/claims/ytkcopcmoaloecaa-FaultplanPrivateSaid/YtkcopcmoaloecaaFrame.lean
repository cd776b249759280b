import Derived.Test.YtkcopcmoaloecaaMem
import Derived.ProofKit
import Derived.OpenShut
import Derived.Deep.DeepHandedRow
import Derived.Deep.SlicePairs
import Derived.Lib.LaidTab
import Derived.Lib.SmallJoins
import Derived.Carry
namespace Go.Proofs.Ytkcopcmoaloecaa.Fp
open Go.ChangeShapes Go.WideShapes Go.ChangeAt Go.RowKit Go.Joins Go.Deep
set_option linter.unusedVariables false
theorem ownKnobNone : ownKnob Try.prog.godebug = none := by kernel_rfl
theorem laidOut : laidOutB Try.prog = true := by kernel_rfl
theorem cells3 : Try.prog.cellsOf 3 = 1 := by kernel_rfl
theorem cells23 : Try.prog.cellsOf 23 = 17 := by kernel_rfl
theorem cells4 : Try.prog.cellsOf 4 = 1 := by kernel_rfl
theorem add_at (b off k : Nat) : (⟨b, off, none⟩ : Addr).add k = ⟨b, off + k, none⟩ := by
  unfold Addr.add
  by_cases h : k = 0 <;> simp [h]
/-- where a cell can be read at an address, it is a plain one in an old block -/
theorem addr_plain {W : World} {a : Addr} {v : Value} (h : W.cell? (a.add 0) = some v) : ∃ b off, a = ⟨b, off, none⟩ ∧ b < W.heap.size := by
  obtain ⟨b, off, sp⟩ := a
  have hsp : sp = none := by
    cases sp with
    | none => rfl
    | some s =>
      exfalso
      simp only [World.cell?, Addr.add] at h
      split at h
      · simp at h
      · cases h
  subst hsp
  refine ⟨b, off, rfl, ?_⟩
  rcases Nat.lt_or_ge b W.heap.size with h1 | h1
  · exact h1
  · exfalso
    have h2 : W.heap[b]? = Option.none := Array.getElem?_eq_none h1
    rw [add_at] at h
    simp [World.cell?, h2] at h
def i64r (z : Int) : Prop := -9223372036854775808 ≤ z ∧ z ≤ 9223372036854775807
theorem wf_i64 {x : Int} (h : (Lit.int .i64 x).wf = true) : i64r x := by
  unfold Lit.wf at h
  simp only [Bool.and_eq_true, decide_eq_true_eq, IntKind.min, IntKind.max, IntKind.signed, IntKind.bits] at h
  unfold i64r
  simp at h
  omega
section
variable {H : Type} {enc : TypeId × Value → H} {W : World} {base b0 : Nat} {v : Value} {d : DataW H} {p : List MemPlace}
theorem int_in {n : Nat} {c : Value} {x : DataW H × List MemPlace} (h : DataW.trod enc Try.prog W b0 (fun _ => true) true n 3 [c] = some x) : ∃ z, c = .int .i64 z ∧ i64r z := by
  obtain ⟨z, e, _, w⟩ := DataW.trod_int Try.underlying3 (show DataW.trod _ Try.prog W _ _ _ n 3 [c] = some x from h)
  simp only [List.cons.injEq, and_true] at e
  exact ⟨z, e, wf_i64 w⟩

theorem bool_in {n : Nat} {c : Value} {x : DataW H × List MemPlace} (h : DataW.trod enc Try.prog W b0 (fun _ => true) true n 4 [c] = some x) : ∃ z, c = .bool z := by
  obtain ⟨z, e, _⟩ := DataW.trod_bool Try.underlying4 h
  simp only [List.cons.injEq, and_true] at e
  exact ⟨z, e⟩
set_option maxRecDepth 100000 in
theorem fc_in {n : Nat} {cs : List Value} {x : DataW H × List MemPlace} (hcl : cs.length = 17) (ht : DataW.trod enc Try.prog W b0 (fun _ => true) true n 23 cs = some x) :
    ∃ (wr rg : Bool) (pr : Int) (sh fi be bu : Bool) (en : Int) (wb tr ow on ca ba di fu : Bool) (mi : Int), cs = [.bool wr, .bool rg, .int .i64 pr, .bool sh, .bool fi, .bool be, .bool bu, .int .i64 en, .bool wb, .bool tr, .bool ow, .bool on, .bool ca, .bool ba, .bool di, .bool fu, .int .i64 mi] := by
  obtain ⟨xs, m', _, _, _, hlen, hg⟩ := DataW.trod_struct Try.underlying23 ht
  have g0 : DataW.trod enc Try.prog W b0 (fun _ => true) true m' 4 ((cs.drop 0).take (Try.prog.cellsOf 4)) = xs[0]? := hg 0 _ rfl
  have g1 : DataW.trod enc Try.prog W b0 (fun _ => true) true m' 4 ((cs.drop 1).take (Try.prog.cellsOf 4)) = xs[1]? := hg 1 _ rfl
  have g2 : DataW.trod enc Try.prog W b0 (fun _ => true) true m' 3 ((cs.drop 2).take (Try.prog.cellsOf 3)) = xs[2]? := hg 2 _ rfl
  have g3 : DataW.trod enc Try.prog W b0 (fun _ => true) true m' 4 ((cs.drop 3).take (Try.prog.cellsOf 4)) = xs[3]? := hg 3 _ rfl
  have g4 : DataW.trod enc Try.prog W b0 (fun _ => true) true m' 4 ((cs.drop 4).take (Try.prog.cellsOf 4)) = xs[4]? := hg 4 _ rfl
  have g5 : DataW.trod enc Try.prog W b0 (fun _ => true) true m' 4 ((cs.drop 5).take (Try.prog.cellsOf 4)) = xs[5]? := hg 5 _ rfl
  have g6 : DataW.trod enc Try.prog W b0 (fun _ => true) true m' 4 ((cs.drop 6).take (Try.prog.cellsOf 4)) = xs[6]? := hg 6 _ rfl
  have g7 : DataW.trod enc Try.prog W b0 (fun _ => true) true m' 3 ((cs.drop 7).take (Try.prog.cellsOf 3)) = xs[7]? := hg 7 _ rfl
  have g8 : DataW.trod enc Try.prog W b0 (fun _ => true) true m' 4 ((cs.drop 8).take (Try.prog.cellsOf 4)) = xs[8]? := hg 8 _ rfl
  have g9 : DataW.trod enc Try.prog W b0 (fun _ => true) true m' 4 ((cs.drop 9).take (Try.prog.cellsOf 4)) = xs[9]? := hg 9 _ rfl
  have g10 : DataW.trod enc Try.prog W b0 (fun _ => true) true m' 4 ((cs.drop 10).take (Try.prog.cellsOf 4)) = xs[10]? := hg 10 _ rfl
  have g11 : DataW.trod enc Try.prog W b0 (fun _ => true) true m' 4 ((cs.drop 11).take (Try.prog.cellsOf 4)) = xs[11]? := hg 11 _ rfl
  have g12 : DataW.trod enc Try.prog W b0 (fun _ => true) true m' 4 ((cs.drop 12).take (Try.prog.cellsOf 4)) = xs[12]? := hg 12 _ rfl
  have g13 : DataW.trod enc Try.prog W b0 (fun _ => true) true m' 4 ((cs.drop 13).take (Try.prog.cellsOf 4)) = xs[13]? := hg 13 _ rfl
  have g14 : DataW.trod enc Try.prog W b0 (fun _ => true) true m' 4 ((cs.drop 14).take (Try.prog.cellsOf 4)) = xs[14]? := hg 14 _ rfl
  have g15 : DataW.trod enc Try.prog W b0 (fun _ => true) true m' 4 ((cs.drop 15).take (Try.prog.cellsOf 4)) = xs[15]? := hg 15 _ rfl
  have g16 : DataW.trod enc Try.prog W b0 (fun _ => true) true m' 3 ((cs.drop 16).take (Try.prog.cellsOf 3)) = xs[16]? := hg 16 _ rfl
  rw [cells3] at g2 g7 g16
  rw [cells4] at g0 g1 g3 g4 g5 g6 g8 g9 g10 g11 g12 g13 g14 g15
  match cs, hcl with
  | [z0, z1, z2, z3, z4, z5, z6, z7, z8, z9, z10, z11, z12, z13, z14, z15, z16], _ =>
    simp only [List.drop, List.take] at g0 g1 g2 g3 g4 g5 g6 g7 g8 g9 g10 g11 g12 g13 g14 g15 g16
    have h3 : xs.length = 17 := hlen
    rw [List.getElem?_eq_getElem (show 0 < xs.length by omega)] at g0
    rw [List.getElem?_eq_getElem (show 1 < xs.length by omega)] at g1
    rw [List.getElem?_eq_getElem (show 2 < xs.length by omega)] at g2
    rw [List.getElem?_eq_getElem (show 3 < xs.length by omega)] at g3
    rw [List.getElem?_eq_getElem (show 4 < xs.length by omega)] at g4
    rw [List.getElem?_eq_getElem (show 5 < xs.length by omega)] at g5
    rw [List.getElem?_eq_getElem (show 6 < xs.length by omega)] at g6
    rw [List.getElem?_eq_getElem (show 7 < xs.length by omega)] at g7
    rw [List.getElem?_eq_getElem (show 8 < xs.length by omega)] at g8
    rw [List.getElem?_eq_getElem (show 9 < xs.length by omega)] at g9
    rw [List.getElem?_eq_getElem (show 10 < xs.length by omega)] at g10
    rw [List.getElem?_eq_getElem (show 11 < xs.length by omega)] at g11
    rw [List.getElem?_eq_getElem (show 12 < xs.length by omega)] at g12
    rw [List.getElem?_eq_getElem (show 13 < xs.length by omega)] at g13
    rw [List.getElem?_eq_getElem (show 14 < xs.length by omega)] at g14
    rw [List.getElem?_eq_getElem (show 15 < xs.length by omega)] at g15
    rw [List.getElem?_eq_getElem (show 16 < xs.length by omega)] at g16
    obtain ⟨wr, rfl⟩ := bool_in g0
    obtain ⟨rg, rfl⟩ := bool_in g1
    obtain ⟨pr, rfl, w2⟩ := int_in g2
    obtain ⟨sh, rfl⟩ := bool_in g3
    obtain ⟨fi, rfl⟩ := bool_in g4
    obtain ⟨be, rfl⟩ := bool_in g5
    obtain ⟨bu, rfl⟩ := bool_in g6
    obtain ⟨en, rfl, w7⟩ := int_in g7
    obtain ⟨wb, rfl⟩ := bool_in g8
    obtain ⟨tr, rfl⟩ := bool_in g9
    obtain ⟨ow, rfl⟩ := bool_in g10
    obtain ⟨on, rfl⟩ := bool_in g11
    obtain ⟨ca, rfl⟩ := bool_in g12
    obtain ⟨ba, rfl⟩ := bool_in g13
    obtain ⟨di, rfl⟩ := bool_in g14
    obtain ⟨fu, rfl⟩ := bool_in g15
    obtain ⟨mi, rfl, w16⟩ := int_in g16
    exact ⟨wr, rg, pr, sh, fi, be, bu, en, wb, tr, ow, on, ca, ba, di, fu, mi, rfl⟩
set_option maxRecDepth 100000 in
theorem open_fc (hv : Value.okWide Try.prog W .any base 23 v) (h : DataW.Trod enc Try.prog W b0 (fun _ => true) true 23 v d p) : ∃ (wr rg : Bool) (pr : Int) (sh fi be bu : Bool) (en : Int) (wb tr ow on ca ba di fu : Bool) (mi : Int), v = .agg #[.bool wr, .bool rg, .int .i64 pr, .bool sh, .bool fi, .bool be, .bool bu, .int .i64 en, .bool wb, .bool tr, .bool ow, .bool on, .bool ca, .bool ba, .bool di, .bool fu, .int .i64 mi] := by
  obtain ⟨cs, rfl, hsz⟩ := okWide_struct Try.underlying23 hv
  obtain ⟨l⟩ := cs
  obtain ⟨fuel, hf⟩ := h
  obtain ⟨wr, rg, pr, sh, fi, be, bu, en, wb, tr, ow, on, ca, ba, di, fu, mi, e⟩ := fc_in (by simpa [Value.cells] using hsz.trans cells23) hf
  simp [Value.cells] at e
  subst e
  exact ⟨wr, rg, pr, sh, fi, be, bu, en, wb, tr, ow, on, ca, ba, di, fu, mi, rfl⟩
end
end Go.Proofs.Ytkcopcmoaloecaa.Fp
