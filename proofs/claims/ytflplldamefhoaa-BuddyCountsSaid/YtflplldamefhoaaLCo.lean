import Derived.Test.YtflplldamefhoaaLCn
import Derived.Test.YtflplldamefhoaaShelf2
namespace Go.Proofs.Ytflplldamefhoaa.Bd
open Go Go.RowKit
theorem law_counts (p : Pm) (v : Nat → Value) (L : Fl) (o : Int) (w : World) (hp : Pr p) (hr : RdZ w v L) (hw : ∀ k, k < 5 → ∀ f ∈ L k, i64r f) (ho : i64r o) : Calls Try.prog 9 #[.agg (znC p v), .int .i64 o] w fun e w' => e = .returned (.bool true) ∧ Below w.heap.size w w' :=
  law_counts0 (fun blk off cap zs w h1 h2 h3 => Try.slices_Sort_int blk off cap zs w h1 h2 h3) (fun a cap w => Try.slices_Sort_int_none a cap w) p v L o w hp hr hw ho
end Go.Proofs.Ytflplldamefhoaa.Bd
