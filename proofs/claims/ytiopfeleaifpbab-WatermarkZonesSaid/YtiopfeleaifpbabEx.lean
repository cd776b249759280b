import Derived.Test.YtiopfeleaifpbabZr
import Derived.Test.YtiopfeleaifpbabMath3
namespace Go.Proofs.Ytiopfeleaifpbab.Bd
open Go Go.RowKit
set_option linter.unusedVariables false
theorem wr2 {k : Nat} (hk : k < 5) : wrap64 ((2 : Int) ^ k) = bw k := by
  unfold wrap64
  rcases cases5 hk with rfl | rfl | rfl | rfl | rfl <;> decide
theorem wr3 {k : Nat} (hk : k < 5) : IntKind.i64.wrap ((2 : Int) ^ k) = bw k := by rcases cases5 hk with rfl | rfl | rfl | rfl | rfl <;> decide
theorem wr_k {k : Nat} (hk : k < 5) : decide ((k : Int) < 5) = true := decide_eq_true (by omega)
end Go.Proofs.Ytiopfeleaifpbab.Bd
