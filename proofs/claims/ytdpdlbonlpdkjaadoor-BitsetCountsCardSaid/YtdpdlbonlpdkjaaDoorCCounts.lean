/-
  Proved: for every input, in whatever memory, the statement BitsetCounts of layer 1 (P1.7) answers true and leaves its arguments as they were. Conditions: those of the given card alone (the table of math/bits is what its own text lays).
-/
import Derived.Test.YtdpdlbonlpdkjaaDoorLCounts
import Derived.Test.YtdpdlbonlpdkjaaDoorFrame
namespace Go.Proofs.YtdpdlbonlpdkjaaDoor.Bs
open Go.ChangeShapes Go.WideShapes Go.ChangeAt Go.RowKit Go.Joins
set_option linter.unusedVariables false
theorem counts_contract (H : Type) (enc : TypeId × Value → H) (W : World) (base : Nat) (args : Array Value) (ds gs : List (DataW H)) (before : List MemPlace)
    (hval : ∀ (j : Nat) t v, Tryd.f8.params[j]? = some t → args[j]? = some v → Value.okWide Tryd.prog W .any base t v)
    (hW : DataW.Whole enc Tryd.prog Tryd.f8.params.toList Rows.bitsetCountsSpec.vars false W args.toList ds gs before) (hL : laidMetH Tryd.prog Rows.bitsetCountsRow.laid W) :
    Calls Tryd.prog 8 args W fun e W' => ∃ v, e = .returned v ∧ Rows.bitsetCountsSpec.post enc Tryd.prog Tryd.f8 false true false false W args v W' := by
  have hW' := hW
  obtain ⟨p, q, hA0, hV, rfl, hfz, hnd⟩ := hW
  have hA : DataW.TrodAll enc Tryd.prog W 0 (fun _ => true) true Tryd.f8.params.toList args.toList ds p := hA0
  rw [Tryd.params8] at hA hval
  obtain ⟨v0, vs0, d0, ds0, p0, q0, hargs, rfl, rfl, h0, r0⟩ := trodAll_cons hA
  obtain ⟨v1, vs1, d1, ds1, p1, q1, rfl, rfl, rfl, h1, r1⟩ := trodAll_cons r0
  obtain ⟨v2, vs2, d2, ds2, p2, q2, rfl, rfl, rfl, h2, r2⟩ := trodAll_cons r1
  obtain ⟨rfl, rfl, rfl⟩ := trodAll_nil r2
  obtain rfl : args = #[v0, v1, v2] := by cases args; simp_all
  obtain ⟨rfl, rfl⟩ := trodVars_none hV
  have k0 := h0
  have k1 := h1
  have k2 := h2
  obtain ⟨s, A, c, ws, rfl, hr, hw, hn⟩ := open_bits (hval 0 24 v0 rfl rfl) h0
  obtain ⟨i, rfl, -, -, wi⟩ := open_int Tryd.underlying3 (hval 1 3 v1 rfl rfl) h1
  have bi := bounds_i64 wi
  obtain ⟨k, rfl, -, -, wk⟩ := open_int Tryd.underlying3 (hval 2 3 v2 rfl rfl) h2
  have bk := bounds_i64 wk
  have hlt0 : ∀ x ∈ p0, x.block < W.heap.size := fun x hx => hW'.lt x (by simp [hx])
  have hlt1 : ∀ x ∈ p1, x.block < W.heap.size := fun x hx => hW'.lt x (by simp [hx])
  have hlt2 : ∀ x ∈ p2, x.block < W.heap.size := fun x hx => hW'.lt x (by simp [hx])
  refine (law_counts s i k A ws c W (tab_of hL) hr hw hn).mono fun e W' ⟨he, hb⟩ => ?_
  subst he
  refine ⟨_, rfl, _, _, _, [], p0 ++ (p1 ++ (p2 ++ [])), [], hW', ?_, ?_, ?_, hb.frame _, fun h => by cases h⟩
  · exact trodAll_mk1 (shut_bool Tryd.underlying4 true)
  · exact trodAll_cons_mk (Below.trod laidOut (by kernel_rfl) (of_decide_eq_true (by kernel_rfl)) k0 hb hlt0) (trodAll_cons_mk (Below.trod laidOut (by kernel_rfl) (of_decide_eq_true (by kernel_rfl)) k1 hb hlt1) (trodAll_cons_mk (Below.trod laidOut (by kernel_rfl) (of_decide_eq_true (by kernel_rfl)) k2 hb hlt2) trodAll_mk0))
  · rfl
theorem counts_laid (os : Os) : laidMet Tryd.prog Rows.bitsetCountsRow.laid ((laidWorld os).forCall (fun _ _ => 0) ⟨#[], #[noBits, .int .i64 0, .int .i64 0], []⟩).memory :=
  laidMet_of_run' 8 (by kernel_rfl) (by kernel_rfl)
theorem counts_reads (os : Os) {H : Type} (enc : TypeId × Value → H) : ∃ places, DataW.whole enc Tryd.prog ((laidWorld os).forCall (fun _ _ => 0) ⟨#[], #[noBits, .int .i64 0, .int .i64 0], []⟩).memory Tryd.f8.params.toList Rows.bitsetCountsSpec.vars false #[noBits, .int .i64 0, .int .i64 0].toList 8 = some ([noBitsD, .lit (.int .i64 0), .lit (.int .i64 0)], [], places) :=
  ⟨[], by kernel_rfl⟩
set_option maxRecDepth 100000 in
theorem counts_lifted (os : Os) (started : os.Started) (H : Type) (enc : TypeId × Value → H) (F : Stop.Interp) :
    ReturnsInHanded {} Tryd.checked os 8 .any ((OpenSpec.ofChange Rows.bitsetCountsSpec).preRow enc Tryd.prog Tryd.f8 Rows.bitsetCountsRow.domain false Rows.bitsetCountsRow.laid) (((OpenSpec.ofChange Rows.bitsetCountsSpec).at F).post enc Tryd.prog Tryd.f8 false true false false) := by
  obtain ⟨places, hx⟩ := counts_reads os enc
  refine returnsInHanded_of_row (C := Tryd.checked) (s := OpenSpec.ofChange Rows.bitsetCountsSpec) ownKnobNone started (by kernel_rfl) Tryd.func8
    (witness_row_at (enc := enc) (C := Tryd.checked) false (laidWorld os) #[noBits, .int .i64 0, .int .i64 0] rfl (by kernel_rfl) (by kernel_rfl) (by kernel_rfl)
      (OpenSpec.preRow_of_cond 8 hx (by kernel_rfl) (fun k hk => by cases hk) (by kernel_rfl) (counts_laid os))) ?_
  intro W base args ds gs before hval hW _ _ _ hL _ _
  exact counts_contract H enc W base args ds gs before hval hW hL
theorem counts_said : Rows.BitsetCountsSaid :=
  OpenClaim.holds_of_cond 8 Tryd.f8 rfl rfl rfl rfl rfl rfl rfl ⟨rfl, rfl, rfl, rfl, rfl⟩ rfl rfl rfl rfl rfl (by kernel_rfl) Tryd.func8 (by kernel_rfl)
    (of_decide_eq_true (by kernel_rfl)) (by unfold Func.isWrapper; first | (rw [if_pos (by decide +kernel)]; kernel_rfl) | (rw [if_neg (by decide +kernel)]; exact ⟨rfl, rfl⟩))
    (fun os started H enc _ F => by rw [OpenClaim.pre_eq_preRow]; exact counts_lifted os started H enc F)
theorem counts_plain (f : FuncId) (fn : Func) (hf : Tryd.pinned.checked.prog.funcNamed "estovers/estoverslaw01.BitsetCounts" = some f) (hfn : Tryd.pinned.checked.prog.funcs[f]? = some fn) :
    false = Tryd.pinned.checked.prog.looks [] ∧ ∀ (j : Nat) t, fn.params[j]? = some t → Tryd.pinned.checked.prog.wantsStandIn t = false := by
  obtain rfl : f = 8 := Option.some.inj ((show Tryd.prog.funcNamed "estovers/estoverslaw01.BitsetCounts" = some 8 by kernel_rfl).symm.trans hf) |>.symm
  obtain rfl : fn = Tryd.f8 := (Option.some.inj (Tryd.func8.symm.trans hfn)).symm
  refine ⟨by kernel_rfl, fun j t ht => ?_⟩
  rw [Tryd.params8] at ht
  have hm : t ∈ #[24, 3, 3] := Array.mem_of_getElem? ht
  simp at hm
  rcases hm with rfl | rfl
  · exact (show Tryd.prog.wantsStandIn 24 = false by kernel_rfl)
  · exact (show Tryd.prog.wantsStandIn 3 = false by kernel_rfl)
end Go.Proofs.YtdpdlbonlpdkjaaDoor.Bs
namespace Go.Proofs.YtdpdlbonlpdkjaaDoor
theorem bitsetCounts_card : Rows.BitsetCountsCardSaid :=
  Claim7.holds_tied_plain_at .later [] _ _ _ _ Bs.counts_said (fun _ h => by cases h) (by kernel_rfl) (fun _ h => by cases h) bitsetCounts_row_tie rfl ⟨rfl, rfl⟩ (by kernel_rfl) rfl Bs.counts_plain (by kernel_rfl)
#print axioms bitsetCounts_card
end Go.Proofs.YtdpdlbonlpdkjaaDoor
