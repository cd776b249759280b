import Derived.Test.YtncdilkcblakhaaF2
import Derived.Lib.MakeNoZero
import Derived.Deep.RegionLawGrows
namespace Go.Proofs.Ytncdilkcblakhaa.In
open Go Go.RowKit
set_option linter.unusedVariables false
set_option linter.unusedSimpArgs false
theorem f53x : ∃ fn, Try.prog.funcs[53]? = some fn ∧ (fn.name == "runtime.NumGoroutine") = false ∧ fn.body.isNone = true ∧ Extern.findNext fn = none ∧ Extern.find fn = some (Extern.BytealgMakeNoZero.makeNoZero #[3] #[23]) :=
  ⟨_, rfl, by kernel_rfl, by kernel_rfl, by kernel_rfl, by kernel_rfl⟩
theorem makeNZ (w : World) (n : Nat) (hn : n ≤ 1000) : ∃ cs : Array Value, (callFunc 53 #[.int .i64 (n : Int)]).run Try.prog w = .ok (.value (.slice (some ⟨w.heap.size, 0, none⟩) n cs.size)) (w.drew.drew.alloc (.cells cs 5)) ∧ n ≤ cs.size ∧ cs.size ≤ maxLen := by
  obtain ⟨fn, hf, hnm, hb, hx, he⟩ := f53x
  obtain ⟨cs, hr, h1, h2⟩ := Lib.run_makeNoZero (P := Try.prog) w #[3] 23 5 Try.underlying23 n (by omega)
  refine ⟨cs, ?_, h1, h2 (by unfold maxLen; omega)⟩
  rw [run_callFunc_extern hf hnm hb hx he, hr]
  rfl
set_option maxRecDepth 100000 in
theorem mul_any (w : World) : Calls Try.prog 52 #[.int .u64 1, .int .u64 32] w fun e w' => e = .returned (.tuple #[.int .u64 0, .int .u64 32]) ∧ w = w' := by
  have a1 : bits .and .u64 1 4294967295 = 1 := by decide
  have a2 : bits .and .u64 32 4294967295 = 32 := by decide
  have a3 : bits .and .u64 0 4294967295 = 0 := by decide
  go_enter Try.func52, Try.ntmps52
  go_wp2
  go_ret2
  exact ⟨rfl, rfl⟩
end Go.Proofs.Ytncdilkcblakhaa.In
