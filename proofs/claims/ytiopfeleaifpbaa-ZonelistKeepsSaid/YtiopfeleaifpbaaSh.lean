/-
  DERIVED. The library's insertion sort at this dump.
-/
import Derived.Shelf.SlSortCmp.Insertion
import Derived.Test.YtiopfeleaifpbaaProg
namespace Go.Proofs
open Go.Shelf
def Try.isort_ren : Go.Shelf.Ren := ⟨fun | 20 => 47 | n => n, fun | 24 => 3 | 22 => 27 | 3 => 3 | 25 => 42 | 4 => 4 | 0 => 0 | n => n, fun | n => n⟩
theorem Try.isort : Go.Proofs.SlLaysF.n20 Try.prog Try.isort_ren := {
  mixed := by kernel_rfl
  f20 := ⟨"slices.insertionSortCmpFunc[int]", by kernel_rfl, Try.func47.trans (congrArg some (by kernel_rfl))⟩
  t0 := Try.underlying0
  a0 := Try.isAgg0
  z0 := Try.sizeOf0
  v0 := Try.zeroValue0
  t3 := Try.underlying3
  a3 := Try.isAgg3
  z3 := Try.sizeOf3
  v3 := Try.zeroValue3
  t4 := Try.underlying4
  a4 := Try.isAgg4
  z4 := Try.sizeOf4
  v4 := Try.zeroValue4
  t22 := Try.underlying27
  a22 := Try.isAgg27
  z22 := Try.sizeOf27
  v22 := Try.zeroValue27
  a24 := Try.isAgg3
  z24 := Try.sizeOf3
  t25 := Try.underlying42
  a25 := Try.isAgg42
  z25 := Try.sizeOf42
  v25 := Try.zeroValue42
}
end Go.Proofs
