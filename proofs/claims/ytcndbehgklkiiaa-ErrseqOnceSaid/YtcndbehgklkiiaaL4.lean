import Derived.Test.YtcndbehgklkiiaaP3
namespace Go.Proofs.Ytcndbehgklkiiaa.Es
open Go Go.RowKit
set_option linter.unusedVariables false
set_option linter.unusedSimpArgs false
set_option maxHeartbeats 1000000 in
theorem law_once (A : Option Addr) (c : Nat) (L : List (Int × Int)) (w : World) (h : RdOp w A L) (hn : L.length ≤ 9223372036854775807) : Calls Try.prog 6 #[.slice A L.length c] w fun e w' => e = .returned (.bool true) ∧ Below w.heap.size w w' := by
  have CA := hide (fun w => awake_any w)
  have K := hide (brefl w)
  by_cases h3 : (60 : Int) < (L.length : Int)
  · clear h
    go_enter Try.func6, Try.ntmps6
    go_wp2_with fail
    refine (CA.out _).mono ?_
    rintro e w1 ⟨rfl, hb⟩
    replace K := hide (btrans K.out hb)
    clear hb
    go_wp2
    go_ret
    exact ⟨rfl, K.out⟩
  · have CP := hide (play_any A c L w h (by omega))
    clear h
    go_enter Try.func6, Try.ntmps6
    go_wp2_with fail
    refine CP.out.mono ?_
    rintro e w1 ⟨⟨v, rfl⟩, hb⟩
    replace K := hide (btrans K.out hb)
    clear hb
    go_wp2_with fail
    refine (CA.out _).mono ?_
    rintro e w2 ⟨rfl, hb⟩
    replace K := hide (btrans K.out hb)
    clear hb
    go_wp2
    go_ret
    exact ⟨rfl, K.out⟩
end Go.Proofs.Ytcndbehgklkiiaa.Es
