import Derived.Test.YtcndbehgklkiiaaMem
namespace Go.Proofs.Ytcndbehgklkiiaa.Es
open Go Go.RowKit
set_option linter.unusedVariables false
set_option linter.unusedSimpArgs false
/-- a sequence of errors is valid -/
def vl (n : Int) (b : Bool) : Bool := decide (0 ≤ n) && (decide (n ≤ 1073741824) && (decide (0 < n) || !b))
/-- nobody has seen the last error -/
def un (n : Int) (b : Bool) : Bool := decide (0 < n) && !b
/-- Set -/
def st (n : Int) (b : Bool) : (Int × Bool) × Int := if vl n b = false then ((0, false), 1) else if un n b = true then ((n, b), 0) else if n = 1073741824 then ((0, false), 9) else ((n + 1, false), 0)
/-- Sample -/
def sm (n : Int) (b : Bool) : Int × Int := if vl n b = false then (0, 1) else if un n b = true then (n - 1, 0) else (n, 0)
/-- Check -/
def ck (n : Int) (b : Bool) (s : Int) : (Int × Bool) × Int × Int := if vl n b = false then ((0, false), 0, 1) else if s < 0 ∨ n < s then ((0, false), 0, 2) else if s = n then ((n, b), s, 0) else ((n, true), n, 15)
def eC (p : Int × Bool) : Array Value := #[.int .i64 p.1, .bool p.2]
theorem vl_any (n : Int) (b : Bool) (w : World) : Calls Try.prog 15 #[.agg (eC (n, b))] w fun e w' => e = .returned (.bool (vl n b)) ∧ Below w.heap.size w w' := by
  have K := hide (bal (brefl w) (.cells #[.int .i64 n, .bool b] 23))
  have X := hide (Box.new w 23 #[.int .i64 n, .bool b])
  unfold eC vl
  by_cases h0 : 0 ≤ n
  · by_cases h1 : n ≤ 1073741824
    · by_cases h2 : 0 < n
      · go_enter Try.func15, Try.ntmps15
        go_wp2
        go_ret
        exact ⟨ret_bool (by grind), K.out⟩
      · go_enter Try.func15, Try.ntmps15
        go_wp2
        go_ret
        exact ⟨ret_bool (by grind), K.out⟩
    · go_enter Try.func15, Try.ntmps15
      go_wp2
      go_ret
      exact ⟨ret_bool (by grind), K.out⟩
  · go_enter Try.func15, Try.ntmps15
    go_wp2
    go_ret
    exact ⟨ret_bool (by grind), K.out⟩
theorem un_any (n : Int) (b : Bool) (w : World) : Calls Try.prog 36 #[.agg (eC (n, b))] w fun e w' => e = .returned (.bool (un n b)) ∧ Below w.heap.size w w' := by
  have K := hide (bal (brefl w) (.cells #[.int .i64 n, .bool b] 23))
  have X := hide (Box.new w 23 #[.int .i64 n, .bool b])
  unfold eC un
  by_cases h0 : 0 < n
  · go_enter Try.func36, Try.ntmps36
    go_wp2
    go_ret
    exact ⟨ret_bool (by grind), K.out⟩
  · go_enter Try.func36, Try.ntmps36
    go_wp2
    go_ret
    exact ⟨ret_bool (by grind), K.out⟩
end Go.Proofs.Ytcndbehgklkiiaa.Es
