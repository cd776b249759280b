import Derived.Test.YtdpdlbonlpdkjaaDoorAwake
import Derived.Test.YtdpdlbonlpdkjaaDoorCards
import Derived.Test.YtdpdlbonlpdkjaaDoorTie
import Derived.ProofKit
import Derived.OpenShut
import Derived.Deep.DeepHandedRow
import Derived.Lib.LaidTab
import Derived.Lib.SmallJoins
import Derived.Carry
namespace Go.Proofs.YtdpdlbonlpdkjaaDoor.Bs
open Go.ChangeShapes Go.WideShapes Go.ChangeAt Go.RowKit Go.Joins
set_option linter.unusedVariables false
theorem ownKnobNone : ownKnob Tryd.prog.godebug = none := by kernel_rfl
theorem gTab : Tryd.prog.globalNamed "math/bits.deBruijn64tab" = some 0 := by kernel_rfl
theorem gTabType : (Tryd.prog.globals[0]?).map (·.type) = some 55 := by kernel_rfl
theorem cells55 : Tryd.prog.cellsOf 55 = 64 := by kernel_rfl
theorem cells5 : Tryd.prog.cellsOf 5 = 1 := by kernel_rfl
theorem cells24 : Tryd.prog.cellsOf 24 = 2 := by kernel_rfl
theorem cells42 : Tryd.prog.cellsOf 42 = 1 := by kernel_rfl
theorem tab_of {W : World} (h : laidMetH Tryd.prog Rows.bitsetChecksRow.laid W) : Tab W := by
  have ht := Lib.tabIs_of_head (rest := []) (zs := Lib.deBruijn64tab.map fun (n : Nat) => (n : Int)) (k := .u8) gTab gTabType Tryd.underlying55 Tryd.underlying5 cells5 cells55 (by exact h)
  intro j hj
  have h1 := ht.cell gTab j (by rw [List.length_map]; exact hj)
  rw [h1]
  congr 1
  congr 1
  rw [List.getD_eq_getElem?_getD, List.getD_eq_getElem?_getD, List.getElem?_map, List.getElem?_eq_getElem hj]
  rfl
/-- A SET OF BITS THAT CAME IN, opened. -/
theorem open_bits {H : Type} {enc : TypeId × Value → H} {W : World} {base b0 : Nat} {v : Value} {d : DataW H} {p : List MemPlace} (hv : Value.okWide Tryd.prog W .any base 24 v)
    (h : DataW.Trod enc Tryd.prog W b0 (fun _ => true) true 24 v d p) :
    ∃ (s : Int) (A : Option Addr) (c : Nat) (ws : List Nat), v = .agg #[.int .i64 s, .slice A ws.length c] ∧ Wd W A ws ∧ (∀ x ∈ ws, x < 2 ^ 64) ∧ ws.length ≤ 9223372036854775807 := by
  obtain ⟨v0, v1, y0, y1, n, rfl, rfl, rfl, h0, h1⟩ := open_agg2 Tryd.underlying24 (by kernel_rfl) cells24 hv h
  obtain ⟨s, e0, rfl, _⟩ := DataW.trod_int Tryd.underlying3 h0
  simp only [List.cons.injEq, and_true] at e0
  subst e0
  rcases open_ints Tryd.underlying22 Tryd.underlying42 cells42 h1 with ⟨e1, _⟩ | ⟨a, len, cap, zs, e1, _, hl, hm, hz, _, hcell, hwf⟩
  · simp only [List.cons.injEq, and_true] at e1
    subst e1
    exact ⟨s, none, 0, [], rfl, fun h => absurd rfl h, by simp, by simp⟩
  · simp only [List.cons.injEq, and_true] at e1
    subst e1
    have hz' : zs.length = cap := by simpa using hz
    have hlen : ((zs.take len).map Int.toNat).length = len := by simp; omega
    refine ⟨s, some a, cap, (zs.take len).map Int.toNat, by rw [hlen], ?_, ?_, ?_⟩
    · intro hne
      have hp : 0 < zs.length := by
        rcases Nat.eq_zero_or_pos zs.length with e | e
        · exfalso; apply hne; rw [List.eq_nil_of_length_eq_zero e]; simp
        · exact e
      obtain ⟨b, off, rfl, hc⟩ := ints_at hcell hp
      refine ⟨b, off, rfl, ?_, fun j x hj => ?_⟩
      · have := hc 0 hp
        rcases Nat.lt_or_ge b W.heap.size with h1 | h1
        · exact h1
        · exfalso
          have h2 : W.heap[b]? = none := Array.getElem?_eq_none h1
          simp [World.cell?, h2] at this
      · rw [List.getElem?_map] at hj
        obtain ⟨z, hzj, rfl⟩ := Option.map_eq_some_iff.1 hj
        have hjl : j < len := by
          rcases Nat.lt_or_ge j len with h1 | h1
          · exact h1
          · rw [List.getElem?_eq_none (by simp; omega)] at hzj; cases hzj
        rw [List.getElem?_take_of_lt hjl] at hzj
        rw [hc j (by omega), List.getD_eq_getElem?_getD, hzj]
        have hmem : z ∈ zs := List.mem_of_getElem? hzj
        have hw := bounds_u64 (hwf z hmem)
        simp only [Option.getD_some]
        congr 2
        omega
    · intro x hx
      obtain ⟨z, hz1, rfl⟩ := List.mem_map.1 hx
      have hw := bounds_u64 (hwf z (List.mem_of_mem_take hz1))
      omega
    · rw [hlen]; unfold maxLen at hm; omega
theorem laidOut : laidOutB Tryd.prog = true := by kernel_rfl
/-- A WORLD FOR THE WITNESS: the settled one, the table holding what its initialiser lays. -/
noncomputable def laidWorld (os : Os) : World :=
  { World.holding Tryd.prog os ⟨#[], #[], []⟩ with heap := (World.holding Tryd.prog os ⟨#[], #[], []⟩).heap.modify 0 fun
      | .cells _ t frozen => .cells ((Lib.deBruijn64tab.map fun (n : Nat) => Value.int .u8 (n : Int)).toArray) t frozen
      | o => o }
def noBits : Value := .agg #[.int .i64 0, .slice none 0 0]
def noBitsD {H : Type} : DataW H := .agg [.lit (.int .i64 0), .nil]
theorem laid_met2 (os : Os) : laidMet Tryd.prog Rows.bitsetChecksRow.laid ((laidWorld os).forCall (fun _ _ => 0) ⟨#[], #[noBits, .int .i64 0], []⟩).memory :=
  laidMet_of_run' 8 (by kernel_rfl) (by kernel_rfl)
theorem reads3 (os : Os) {H : Type} (enc : TypeId × Value → H) : ∃ places, DataW.whole enc Tryd.prog ((laidWorld os).forCall (fun _ _ => 0) ⟨#[], #[noBits, .int .i64 0], []⟩).memory Tryd.f3.params.toList Rows.bitsetChecksSpec.vars false #[noBits, .int .i64 0].toList 8 = some ([noBitsD, .lit (.int .i64 0)], [], places) :=
  ⟨[], by kernel_rfl⟩
end Go.Proofs.YtdpdlbonlpdkjaaDoor.Bs
