import Derived.Test.YtcndbehgklkiiaaT6
namespace Go.Proofs.Ytcndbehgklkiiaa.Ac
open Go Go.RowKit
set_option linter.unusedVariables false
set_option linter.unusedSimpArgs false
set_option maxHeartbeats 1000000 in
theorem law_half (c l : Int) (w : World) (hc : i64r c) (hl : i64r l) : Calls Try.prog 9 #[.int .i64 c, .int .i64 l] w fun e w' => e = .returned (.bool true) ∧ Below w.heap.size w w' := by
  have CA := hide (fun w => awake_any w)
  have C1 := hide (fun w => bg_any c l hc hl w)
  have C2 := hide (fun w => rbg_any c l hc hl w)
  have K := hide (brefl w)
  generalize bgE c l = u at *
  clear hc hl
  go_enter Try.func9, Try.ntmps9
  go_wp2_with fail
  refine (CA.out _).mono ?_
  rintro e w1 ⟨rfl, hb⟩
  replace K := hide (btrans K.out hb)
  clear hb
  go_wp2_with fail
  refine (C1.out _).mono ?_
  rintro e w2 ⟨rfl, rfl⟩
  go_wp2_with fail
  refine (C2.out _).mono ?_
  rintro e w2 ⟨rfl, rfl⟩
  go_wp2
  go_ret
  exact ⟨by simp, K.out⟩
set_option maxHeartbeats 1000000 in
theorem law_shares (A : Option Addr) (cp : Nat) (L : List A5) (m a : Int) (w : World) (hr : As w A L) (hcp : L.length ≤ cp) (hn : L.length ≤ 9223372036854775807) : Calls Try.prog 10 #[.slice A L.length cp, .int .i64 m, .int .i64 a] w fun e w' => e = .returned (.bool true) ∧ Below w.heap.size w w' := by
  have CA := hide (fun w => awake_any w)
  have C1 := hide (fun w' (h : Below w.heap.size w w') => share_any A cp L m a w' (hr.below h) hcp hn)
  have C2 := hide (fun w' (h : Below w.heap.size w w') => rshare_any A cp L m a w' (hr.below h) hcp hn)
  have K := hide (brefl w)
  generalize shV L m a = v at *
  generalize shE L m a = u at *
  clear hr
  by_cases h40 : (40 : Int) < (L.length : Int)
  · go_enter Try.func10, Try.ntmps10
    go_wp2_with fail
    refine (CA.out _).mono ?_
    rintro e w1 ⟨rfl, hb⟩
    replace K := hide (btrans K.out hb)
    clear hb
    go_wp2_with fail
    refine (CA.out _).mono ?_
    rintro e w2 ⟨rfl, hb⟩
    replace K := hide (btrans K.out hb)
    clear hb
    go_wp2
    go_ret
    exact ⟨rfl, K.out⟩
  · go_enter Try.func10, Try.ntmps10
    go_wp2_with fail
    refine (CA.out _).mono ?_
    rintro e w1 ⟨rfl, hb⟩
    replace K := hide (btrans K.out hb)
    clear hb
    go_wp2_with fail
    refine (C1.out _ K.out).mono ?_
    rintro e w2 ⟨rfl, hb⟩
    replace K := hide (btrans K.out hb)
    clear hb
    go_wp2_with fail
    refine (C2.out _ K.out).mono ?_
    rintro e w3 ⟨rfl, hb⟩
    replace K := hide (btrans K.out hb)
    clear hb
    go_wp2
    go_ret
    exact ⟨rfl, K.out⟩
end Go.Proofs.Ytcndbehgklkiiaa.Ac
