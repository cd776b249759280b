import Derived.Test.YtcndbehgklkiiaaARow
namespace Go.Proofs.Ytcndbehgklkiiaa.Ac
open Go Go.RowKit
set_option linter.unusedVariables false
set_option linter.unusedSimpArgs false
theorem num_any (n : Int) (w : World) : Calls Try.prog 55 #[.int .i64 n] w fun e w' => e = .returned (.bool (decide (inr n))) ∧ w = w' := by
  by_cases h1 : 0 ≤ n
  · by_cases h2 : n ≤ 1048576
    · rw [decide_eq_true (show inr n from ⟨h1, h2⟩)]
      go_enter Try.func55, Try.ntmps55
      go_wp2
      go_ret
      exact ⟨rfl, rfl⟩
    · rw [decide_eq_false (show ¬ inr n from fun h => h2 h.2)]
      go_enter Try.func55, Try.ntmps55
      go_wp2
      go_ret
      exact ⟨rfl, rfl⟩
  · rw [decide_eq_false (show ¬ inr n from fun h => h1 h.1)]
    go_enter Try.func55, Try.ntmps55
    go_wp2
    go_ret
    exact ⟨rfl, rfl⟩
theorem rin_any (n : Int) (w : World) : Calls Try.prog 45 #[.int .i64 n] w fun e w' => e = .returned (.bool (decide (inr n))) ∧ w = w' := by
  by_cases h1 : 0 ≤ n
  · by_cases h2 : n ≤ 1048576
    · rw [decide_eq_true (show inr n from ⟨h1, h2⟩)]
      go_enter Try.func45, Try.ntmps45
      go_wp2
      go_ret
      exact ⟨rfl, rfl⟩
    · rw [decide_eq_false (show ¬ inr n from fun h => h2 h.2)]
      go_enter Try.func45, Try.ntmps45
      go_wp2
      go_ret
      exact ⟨rfl, rfl⟩
  · rw [decide_eq_false (show ¬ inr n from fun h => h1 h.1)]
    go_enter Try.func45, Try.ntmps45
    go_wp2
    go_ret
    exact ⟨rfl, rfl⟩
/-- an account whose numbers are in range -/
def okA (a : A5) : Prop := (inr a.us ∧ inr a.mn) ∧ inr a.lo ∧ inr a.mx
instance (a : A5) : Decidable (okA a) := by unfold okA; infer_instance
def acV (a : A5) : Value := .agg #[.int .i64 a.pa, .int .i64 a.us, .int .i64 a.mn, .int .i64 a.lo, .int .i64 a.mx]
set_option maxHeartbeats 2000000 in
theorem out_any (a : A5) (w : World) : Calls Try.prog 50 #[acV a] w fun e w' => e = .returned (.bool (!decide (okA a))) ∧ Below w.heap.size w w' := by
  obtain ⟨pa, us, mn, lo, mx⟩ := a
  unfold acV
  simp only
  have NC := hide (fun n w => num_any n w)
  have K := hide (bal (brefl w) (.cells #[.int .i64 pa, .int .i64 us, .int .i64 mn, .int .i64 lo, .int .i64 mx] 58))
  by_cases h0 : inr us
  · have d0 := decide_eq_true h0
    by_cases h1 : inr mn
    · have d1 := decide_eq_true h1
      by_cases h2 : inr lo
      · have d2 := decide_eq_true h2
        by_cases h3 : inr mx
        · have d3 := decide_eq_true h3
          rw [decide_eq_true (show okA ⟨pa, us, mn, lo, mx⟩ from ⟨⟨h0, h1⟩, h2, h3⟩)]
          clear h0 h1 h2 h3
          go_enter Try.func50, Try.ntmps50
          go_wp2_with (go_at_call 55; refine (NC.out _ _).mono ?_; rintro e w' ⟨rfl, rfl⟩)
          go_ret
          exact ⟨rfl, K.out⟩
        · have d3 := decide_eq_false h3
          rw [decide_eq_false (show ¬ okA ⟨pa, us, mn, lo, mx⟩ from fun h => h3 h.2.2)]
          clear h0 h1 h2 h3
          go_enter Try.func50, Try.ntmps50
          go_wp2_with (go_at_call 55; refine (NC.out _ _).mono ?_; rintro e w' ⟨rfl, rfl⟩)
          go_ret
          exact ⟨rfl, K.out⟩
      · have d2 := decide_eq_false h2
        rw [decide_eq_false (show ¬ okA ⟨pa, us, mn, lo, mx⟩ from fun h => h2 h.2.1)]
        clear h0 h1 h2
        go_enter Try.func50, Try.ntmps50
        go_wp2_with (go_at_call 55; refine (NC.out _ _).mono ?_; rintro e w' ⟨rfl, rfl⟩)
        go_ret
        exact ⟨rfl, K.out⟩
    · have d1 := decide_eq_false h1
      rw [decide_eq_false (show ¬ okA ⟨pa, us, mn, lo, mx⟩ from fun h => h1 h.1.2)]
      clear h0 h1
      go_enter Try.func50, Try.ntmps50
      go_wp2_with (go_at_call 55; refine (NC.out _ _).mono ?_; rintro e w' ⟨rfl, rfl⟩)
      go_ret
      exact ⟨rfl, K.out⟩
  · have d0 := decide_eq_false h0
    rw [decide_eq_false (show ¬ okA ⟨pa, us, mn, lo, mx⟩ from fun h => h0 h.1.1)]
    clear h0
    go_enter Try.func50, Try.ntmps50
    go_wp2_with (go_at_call 55; refine (NC.out _ _).mono ?_; rintro e w' ⟨rfl, rfl⟩)
    go_ret
    exact ⟨rfl, K.out⟩
set_option maxHeartbeats 2000000 in
theorem over_any (a : A5) (w : World) : Calls Try.prog 51 #[acV a] w fun e w' => e = .returned (.bool (!decide (a.us ≤ a.mx))) ∧ Below w.heap.size w w' := by
  obtain ⟨pa, us, mn, lo, mx⟩ := a
  unfold acV
  simp only
  have K := hide (bal (brefl w) (.cells #[.int .i64 pa, .int .i64 us, .int .i64 mn, .int .i64 lo, .int .i64 mx] 58))
  by_cases h : us ≤ mx
  · rw [decide_eq_true h]
    have h' : ¬ mx < us := by omega
    go_enter Try.func51, Try.ntmps51
    go_wp2
    go_ret
    exact ⟨rfl, K.out⟩
  · rw [decide_eq_false h]
    have h' : mx < us := by omega
    go_enter Try.func51, Try.ntmps51
    go_wp2
    go_ret
    exact ⟨rfl, K.out⟩
set_option maxRecDepth 100000 in
set_option maxHeartbeats 4000000 in
theorem out_idx (A : Option Addr) (cp : Nat) (L : List A5) (w : World) (hr : As w A L) (hn : L.length ≤ 9223372036854775807) :
    Calls Try.prog 54 #[.slice A L.length cp, .func (.func 50) #[] #[]] w fun e w' => (∃ i : Int, e = .returned (.int .i64 i) ∧ decide (0 ≤ i) = !decide (∀ j, j < L.length → okA (aAt L j))) ∧ Below w.heap.size w w' := by
  have HR := hide hr
  have K0 := hide (brefl w)
  have eg : ∀ args w, (callFunc 50 args).run Try.prog w = .ok (.enter 50 args) w := Go.Proofs.enters_of Try.func50 (by kernel_rfl) rfl
  clear hr
  go_enter Try.func54, Try.ntmps54
  go_wp2
  go_loopw [5, 8] (fun _ c wr => ∃ k : Nat, k ≤ L.length ∧ c = .int .i64 k ∧ Hid (Below w.heap.size w wr) ∧ Hid (∀ j, j < k → okA (aAt L j))) (fun _ c _ => L.length - (intOf c).toNat)
  case atStart => exact ⟨0, Nat.zero_le _, rfl, K0, hide (fun j h => by omega)⟩
  case round =>
    clear K0
    obtain ⟨k, hk, rfl, K, N⟩ := hrel
    by_cases hlt : k < L.length
    · have hl2 : (k : Int) < (L.length : Int) := by omega
      have hk0 : (0 : Int) ≤ (k : Int) := by omega
      obtain ⟨b, off, rfl, hbl, y0, y1, y2, y3, y4⟩ := HR.out.cells K.out hlt
      have C := hide (out_any (aAt L k) wr)
      have NEXT := hide (fun (h : okA (aAt L k)) j (hj : j < k + 1) => (if e : j = k then e ▸ h else N.out j (by omega) : okA (aAt L j)))
      have BAD := hide (fun (h : ¬ (okA (aAt L k))) => decide_eq_false (fun (g : ∀ j, j < L.length → okA (aAt L j)) => h (g k hlt)))
      unfold pa at y0; unfold us at y1; unfold mn at y2; unfold lo at y3; unfold mx at y4
      unfold acV at C
      by_cases hq : okA (aAt L k)
      · have R := hide (NEXT.out hq)
        rw [decide_eq_true hq] at C
        clear hq NEXT BAD N
        generalize aAt L k = a at *
        go_wp2_with fail
        refine C.out.mono ?_
        rintro e w' ⟨rfl, hb'⟩
        have KB := hide (btrans K.out hb')
        clear hb'
        go_wp2_with fail
        go_roundw
        case rel => exact ⟨k + 1, by omega, by go_num, KB, R⟩
        case measure => simp [intOf]; omega
      · have R := hide (BAD.out hq)
        rw [decide_eq_false hq] at C
        clear hq NEXT BAD N
        generalize aAt L k = a at *
        go_wp2_with fail
        refine C.out.mono ?_
        rintro e w' ⟨rfl, hb'⟩
        have KB := hide (btrans K.out hb')
        clear hb'
        go_wp2
        go_ret
        exact ⟨⟨_, rfl, by rw [R.out]; simp⟩, KB.out⟩
    · obtain rfl : k = L.length := by omega
      have E := hide (decide_eq_true N.out)
      go_wp2
      go_ret
      exact ⟨⟨_, rfl, by rw [E.out]; decide⟩, K.out⟩
theorem out_cont (A : Option Addr) (cp : Nat) (L : List A5) (w : World) (hr : As w A L) (hn : L.length ≤ 9223372036854775807) :
    Calls Try.prog 49 #[.slice A L.length cp, .func (.func 50) #[] #[]] w fun e w' => e = .returned (.bool (!decide (∀ j, j < L.length → okA (aAt L j)))) ∧ Below w.heap.size w w' := by
  have H := hide (out_idx A cp L w hr hn)
  clear hr
  go_enter Try.func49, Try.ntmps49
  go_wp2_with fail
  refine H.out.mono ?_
  rintro e w1 ⟨⟨i, rfl, hi⟩, hb1⟩
  have K := hide hb1
  have I := hide hi
  clear hb1 hi
  go_wp2
  go_ret
  exact ⟨ret_bool (by rw [← I.out]), K.out⟩
set_option maxRecDepth 100000 in
set_option maxHeartbeats 4000000 in
theorem over_idx (A : Option Addr) (cp : Nat) (L : List A5) (w : World) (hr : As w A L) (hn : L.length ≤ 9223372036854775807) :
    Calls Try.prog 54 #[.slice A L.length cp, .func (.func 51) #[] #[]] w fun e w' => (∃ i : Int, e = .returned (.int .i64 i) ∧ decide (0 ≤ i) = !decide (∀ j, j < L.length → (aAt L j).us ≤ (aAt L j).mx)) ∧ Below w.heap.size w w' := by
  have HR := hide hr
  have K0 := hide (brefl w)
  have eg : ∀ args w, (callFunc 51 args).run Try.prog w = .ok (.enter 51 args) w := Go.Proofs.enters_of Try.func51 (by kernel_rfl) rfl
  clear hr
  go_enter Try.func54, Try.ntmps54
  go_wp2
  go_loopw [5, 8] (fun _ c wr => ∃ k : Nat, k ≤ L.length ∧ c = .int .i64 k ∧ Hid (Below w.heap.size w wr) ∧ Hid (∀ j, j < k → (aAt L j).us ≤ (aAt L j).mx)) (fun _ c _ => L.length - (intOf c).toNat)
  case atStart => exact ⟨0, Nat.zero_le _, rfl, K0, hide (fun j h => by omega)⟩
  case round =>
    clear K0
    obtain ⟨k, hk, rfl, K, N⟩ := hrel
    by_cases hlt : k < L.length
    · have hl2 : (k : Int) < (L.length : Int) := by omega
      have hk0 : (0 : Int) ≤ (k : Int) := by omega
      obtain ⟨b, off, rfl, hbl, y0, y1, y2, y3, y4⟩ := HR.out.cells K.out hlt
      have C := hide (over_any (aAt L k) wr)
      have NEXT := hide (fun (h : (aAt L k).us ≤ (aAt L k).mx) j (hj : j < k + 1) => (if e : j = k then e ▸ h else N.out j (by omega) : (aAt L j).us ≤ (aAt L j).mx))
      have BAD := hide (fun (h : ¬ ((aAt L k).us ≤ (aAt L k).mx)) => decide_eq_false (fun (g : ∀ j, j < L.length → (aAt L j).us ≤ (aAt L j).mx) => h (g k hlt)))
      unfold pa at y0; unfold us at y1; unfold mn at y2; unfold lo at y3; unfold mx at y4
      unfold acV at C
      by_cases hq : (aAt L k).us ≤ (aAt L k).mx
      · have R := hide (NEXT.out hq)
        rw [decide_eq_true hq] at C
        clear hq NEXT BAD N
        generalize aAt L k = a at *
        go_wp2_with fail
        refine C.out.mono ?_
        rintro e w' ⟨rfl, hb'⟩
        have KB := hide (btrans K.out hb')
        clear hb'
        go_wp2_with fail
        go_roundw
        case rel => exact ⟨k + 1, by omega, by go_num, KB, R⟩
        case measure => simp [intOf]; omega
      · have R := hide (BAD.out hq)
        rw [decide_eq_false hq] at C
        clear hq NEXT BAD N
        generalize aAt L k = a at *
        go_wp2_with fail
        refine C.out.mono ?_
        rintro e w' ⟨rfl, hb'⟩
        have KB := hide (btrans K.out hb')
        clear hb'
        go_wp2
        go_ret
        exact ⟨⟨_, rfl, by rw [R.out]; simp⟩, KB.out⟩
    · obtain rfl : k = L.length := by omega
      have E := hide (decide_eq_true N.out)
      go_wp2
      go_ret
      exact ⟨⟨_, rfl, by rw [E.out]; decide⟩, K.out⟩
theorem over_cont (A : Option Addr) (cp : Nat) (L : List A5) (w : World) (hr : As w A L) (hn : L.length ≤ 9223372036854775807) :
    Calls Try.prog 49 #[.slice A L.length cp, .func (.func 51) #[] #[]] w fun e w' => e = .returned (.bool (!decide (∀ j, j < L.length → (aAt L j).us ≤ (aAt L j).mx))) ∧ Below w.heap.size w w' := by
  have H := hide (over_idx A cp L w hr hn)
  clear hr
  go_enter Try.func49, Try.ntmps49
  go_wp2_with fail
  refine H.out.mono ?_
  rintro e w1 ⟨⟨i, rfl, hi⟩, hb1⟩
  have K := hide hb1
  have I := hide hi
  clear hb1 hi
  go_wp2
  go_ret
  exact ⟨ret_bool (by rw [← I.out]), K.out⟩
end Go.Proofs.Ytcndbehgklkiiaa.Ac
