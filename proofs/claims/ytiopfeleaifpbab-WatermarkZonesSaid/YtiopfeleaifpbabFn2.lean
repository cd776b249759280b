import Derived.Test.YtiopfeleaifpbabLb
namespace Go.Proofs.Ytiopfeleaifpbab.Bd
open Go Go.RowKit
set_option linter.unusedVariables false
theorem find_any (p : Pm) (v : Nat → Value) (L : Fl) (f : Int) (k : Nat) (hk : k < 5) (w : World) (hr : RdZ w v L) (hs : Srt (L k)) (hn : (L k).length ≤ 1000000) :
    Calls Try.prog 46 #[.agg (znC p v), .int .i64 f, .int .i64 k] w fun e w' => e = .returned (.tuple #[.int .i64 (pos (L k) f : Nat), .bool (decide (f ∈ L k))]) ∧ Below w.heap.size w w' := by
  have X := hide (Box.new w 44 (znC p v))
  have K := hide (bal (brefl w) (.cells (znC p v) 44))
  have C := hide (bs_any f ((hr k hk).below K.out) hs hn)
  obtain ⟨A, c, e, _⟩ := hr k hk
  have s := box_list X.out hk
  rw [e] at s C
  generalize decide (f ∈ L k) = d at *
  generalize pos (L k) f = q at *
  generalize (L k).length = n at *
  clear hr hs hn e
  go_enter Try.func46, Try.ntmps46
  go_upto_region 1 with fail
  generalize (w.alloc (.cells (znC p v) 44)) = w2 at *
  go_wp2_with fail
  refine C.out.mono ?_
  rintro e w1 ⟨rfl, hb⟩
  have K1 := hide (btrans K.out hb)
  clear hb
  go_wp2
  go_ret2
  exact ⟨rfl, K1.out⟩
instance (L : Fl) (k : Nat) (x : Int) : Decidable (cov L k x) := by unfold cov; infer_instance

end Go.Proofs.Ytiopfeleaifpbab.Bd
