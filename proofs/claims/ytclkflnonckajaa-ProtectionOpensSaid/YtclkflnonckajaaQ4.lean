import Derived.Test.YtclkflnonckajaaQ1
namespace Go.Proofs.Ytclkflnonckajaa.Ac
open Go Go.RowKit
set_option linter.unusedVariables false
set_option linter.unusedSimpArgs false
/-- numbers in range -/
def okV (v : Is) : Prop := ∀ k, k < v.length → inr (nAt v k)
instance (v : Is) : Decidable (okV v) := by unfold okV; infer_instance
theorem inrc_any (n : Int) (w : World) : Calls Try.prog 89 #[.int .i64 n] w fun e w' => e = .returned (.bool (!decide (inr n))) ∧ w = w' := by
  have P := hide (pnum_any n w)
  go_enter Try.func89, Try.ntmps89
  go_wp2_with fail
  refine P.out.mono ?_
  rintro e w' ⟨rfl, rfl⟩
  go_wp2
  go_ret
  exact ⟨rfl, rfl⟩
set_option maxRecDepth 100000 in
set_option maxHeartbeats 4000000 in
theorem iv_idx (A : Option Addr) (cp : Nat) (v : Is) (w : World) (hr : Bi w A v) (hn : v.length ≤ 9223372036854775807) :
    Calls Try.prog 67 #[.slice A v.length cp, .func (.func 89) #[] #[]] w fun e w' => ∃ i : Int, e = .returned (.int .i64 i) ∧ decide (0 ≤ i) = !decide (okV v) ∧ w = w' := by
  have HR := hide hr
  have eg : ∀ args w, (callFunc 89 args).run Try.prog w = .ok (.enter 89 args) w := Go.Proofs.enters_of Try.func89 (by kernel_rfl) rfl
  clear hr
  go_enter Try.func67, Try.ntmps67
  go_wp2
  go_loopw [5, 8] (fun _ c wr => ∃ k : Nat, k ≤ v.length ∧ c = .int .i64 k ∧ wr = w ∧ Hid (∀ j, j < k → inr (nAt v j))) (fun _ c _ => v.length - (intOf c).toNat)
  case atStart => exact ⟨0, Nat.zero_le _, rfl, rfl, hide (fun j h => by omega)⟩
  case round =>
    obtain ⟨k, hk, rfl, rfl, N⟩ := hrel
    by_cases hlt : k < v.length
    · have hl2 : (k : Int) < (v.length : Int) := by omega
      have hk0 : (0 : Int) ≤ (k : Int) := by omega
      obtain ⟨b, off, rfl, hbl, y0⟩ := HR.out.cells (brefl _) hlt
      have C := hide (inrc_any (v.getD k 0) wr)
      by_cases hq : inr (nAt v k)
      · have R := hide (all_next (P := fun j => inr (nAt v j)) N.out hq)
        rw [decide_eq_true (show inr (v.getD k 0) from hq)] at C
        clear hq N
        generalize v.getD k 0 = z at *
        go_wp2_with fail
        refine C.out.mono ?_
        rintro e w' ⟨rfl, rfl⟩
        go_wp2_with fail
        go_roundw
        case rel => exact ⟨k + 1, by omega, by go_num, trivial, R⟩
        case measure => simp [intOf]; omega
      · have R := hide (decide_eq_false (fun g : okV v => hq (g k hlt)))
        rw [decide_eq_false (show ¬ inr (v.getD k 0) from hq)] at C
        clear hq N
        generalize v.getD k 0 = z at *
        go_wp2_with fail
        refine C.out.mono ?_
        rintro e w' ⟨rfl, rfl⟩
        go_wp2
        go_ret
        exact ⟨_, rfl, by rw [R.out]; simp, rfl⟩
    · obtain rfl : k = v.length := by omega
      have E := hide (decide_eq_true (show okV v from N.out))
      go_wp2
      go_ret
      exact ⟨_, rfl, by rw [E.out]; decide, rfl⟩
theorem iv_cont (A : Option Addr) (cp : Nat) (v : Is) (w : World) (hr : Bi w A v) (hn : v.length ≤ 9223372036854775807) :
    Calls Try.prog 76 #[.slice A v.length cp, .func (.func 89) #[] #[]] w fun e w' => e = .returned (.bool (!decide (okV v))) ∧ w = w' := by
  have H := hide (iv_idx A cp v w hr hn)
  clear hr
  go_enter Try.func76, Try.ntmps76
  go_wp2_with fail
  refine H.out.mono ?_
  rintro e w1 ⟨i, rfl, hi, rfl⟩
  have I := hide hi
  clear hi H
  go_wp2
  go_ret
  exact ⟨ret_bool (by rw [← I.out]), rfl⟩
theorem vlv_no {L : List A5} {v : Is} (h : ¬ (chE L = 0 ∧ v.length = L.length ∧ okV v)) : decide (vlv L v) = false := decide_eq_false h
theorem vlv_yes {L : List A5} {v : Is} (h : chE L = 0 ∧ v.length = L.length ∧ okV v) : decide (vlv L v) = true := decide_eq_true h
set_option maxHeartbeats 2000000 in
theorem vld_any (A AV : Option Addr) (cp cv : Nat) (L : List A5) (v : Is) (w : World) (hr : As w A L) (hv : Bi w AV v) (hcp : L.length ≤ cp) (hn : L.length ≤ 9223372036854775807) (hvn : v.length ≤ 9223372036854775807) :
    Calls Try.prog 74 #[.slice A L.length cp, .slice AV v.length cv] w fun e w' => e = .returned (.bool (decide (vlv L v))) ∧ Below w.heap.size w w' := by
  have CH := hide (check_any A cp L w hr hcp hn)
  have IC := hide (fun w' (h : Below w.heap.size w w') => iv_cont AV cv v w' (hv.below h) hvn)
  clear hr hv hcp
  by_cases h0 : chE L = 0
  · rw [h0] at CH
    by_cases h1 : v.length = L.length
    · have de : ((v.length : Int) == (L.length : Int)) = true := by simp [h1]
      by_cases h2 : okV v
      · have E := hide (vlv_yes ⟨h0, h1, h2⟩)
        rw [decide_eq_true h2] at IC
        clear h0 h2
        rw [h1] at IC ⊢
        clear h1 de
        go_enter Try.func74, Try.ntmps74
        go_wp2_with fail
        refine CH.out.mono ?_
        rintro e w' ⟨rfl, hb⟩
        have K := hide hb
        clear hb CH
        go_wp2_with fail
        refine (IC.out _ K.out).mono ?_
        rintro e w9 ⟨rfl, rfl⟩
        go_wp2
        go_ret
        exact ⟨ret_bool E.out.symm, K.out⟩
      · have E := hide (vlv_no (L := L) (v := v) (fun g => h2 g.2.2))
        rw [decide_eq_false h2] at IC
        clear h0 h2
        rw [h1] at IC ⊢
        clear h1 de
        go_enter Try.func74, Try.ntmps74
        go_wp2_with fail
        refine CH.out.mono ?_
        rintro e w' ⟨rfl, hb⟩
        have K := hide hb
        clear hb CH
        go_wp2_with fail
        refine (IC.out _ K.out).mono ?_
        rintro e w9 ⟨rfl, rfl⟩
        go_wp2
        go_ret
        exact ⟨ret_bool E.out.symm, K.out⟩
    · have E := hide (vlv_no (L := L) (v := v) (fun g => h1 g.2.1))
      have de : ((v.length : Int) == (L.length : Int)) = false := by simp; omega
      have de2 : (v.length == L.length) = false := by simp; omega
      clear h0 h1
      go_enter Try.func74, Try.ntmps74
      go_wp2_with fail
      refine CH.out.mono ?_
      rintro e w' ⟨rfl, hb⟩
      have K := hide hb
      clear hb CH
      go_wp2
      go_ret
      exact ⟨ret_bool E.out.symm, K.out⟩
  · have E := hide (vlv_no (L := L) (v := v) (fun g => h0 g.1))
    have de : (chE L == 0) = false := by simpa using h0
    clear h0
    generalize chE L = ce at *
    go_enter Try.func74, Try.ntmps74
    go_wp2_with fail
    refine CH.out.mono ?_
    rintro e w' ⟨rfl, hb⟩
    have K := hide hb
    clear hb CH
    go_wp2
    go_ret
    exact ⟨ret_bool E.out.symm, K.out⟩
set_option maxRecDepth 100000 in
set_option maxHeartbeats 4000000 in
theorem rvld_any (A AV : Option Addr) (cp cv : Nat) (L : List A5) (v : Is) (w : World) (hr : As w A L) (hv : Bi w AV v) (hn : L.length ≤ 9223372036854775807) (hvn : v.length ≤ 9223372036854775807) :
    Calls Try.prog 78 #[.slice A L.length cp, .slice AV v.length cv] w fun e w' => e = .returned (.bool (decide (vlv L v))) ∧ Below w.heap.size w w' := by
  have CH := hide (rcheck_any A cp L w hr hn)
  have HV := hide hv
  clear hr hv
  by_cases h0 : chE L = 0
  · rw [h0] at CH
    by_cases h1 : v.length = L.length
    · have YES := hide (fun h2 => vlv_yes (v := v) ⟨h0, h1, h2⟩)
      have NO := hide (fun (h2 : ¬ okV v) => vlv_no (L := L) (v := v) (fun g => h2 g.2.2))
      rw [← h1] at CH ⊢
      clear h0 h1
      go_enter Try.func78, Try.ntmps78
      go_wp2_with fail
      refine CH.out.mono ?_
      rintro e w0 ⟨rfl, hb⟩
      have K := hide hb
      clear hb CH
      go_wp2
      go_loopw [5] (fun c wr => ∃ k : Nat, k ≤ v.length ∧ c = .int .i64 k ∧ wr = w0 ∧ Hid (∀ j, j < k → inr (nAt v j))) (fun c _ => v.length - (intOf c).toNat)
      case atStart => exact ⟨0, Nat.zero_le _, rfl, rfl, hide (fun j h => by omega)⟩
      case round =>
        obtain ⟨k, hk, rfl, rfl, N⟩ := hrel
        by_cases hlt : k < v.length
        · have hl2 : (k : Int) < (v.length : Int) := by omega
          have hk0 : (0 : Int) ≤ (k : Int) := by omega
          obtain ⟨b, off, rfl, hbl, y0⟩ := HV.out.cells K.out hlt
          have BAD := hide (fun (h : ¬ inr (nAt v k)) => NO.out (fun g => h (g k hlt)))
          have NEXT := hide (fun (h : inr (nAt v k)) => all_next (P := fun j => inr (nAt v j)) N.out h)
          unfold inr nAt at BAD
          unfold inr at NEXT
          have e0 : nAt v k = v.getD k 0 := rfl
          rw [e0] at NEXT
          clear N e0
          generalize v.getD k 0 = z at *
          by_cases z0 : z < 0
          · have E := hide (BAD.out (by omega))
            clear BAD NEXT
            go_wp2
            go_ret
            exact ⟨ret_bool E.out.symm, K.out⟩
          · by_cases z1 : 1048576 < z
            · have E := hide (BAD.out (by omega))
              clear BAD NEXT
              go_wp2
              go_ret
              exact ⟨ret_bool E.out.symm, K.out⟩
            · have E := hide (NEXT.out (by omega))
              clear BAD NEXT
              go_wp2
              go_roundw
              case rel => exact ⟨k + 1, by omega, by go_num, trivial, E⟩
              case measure => simp [intOf]; omega
        · obtain rfl : k = v.length := by omega
          have E := hide (YES.out N.out)
          go_wp2
          go_ret
          exact ⟨ret_bool E.out.symm, K.out⟩
    · have E := hide (vlv_no (L := L) (v := v) (fun g => h1 g.2.1))
      have de : ((v.length : Int) != (L.length : Int)) = true := by simp; omega
      have de2 : (v.length != L.length) = true := by simp; omega
      clear h0 h1
      go_enter Try.func78, Try.ntmps78
      go_wp2_with fail
      refine CH.out.mono ?_
      rintro e w' ⟨rfl, hb⟩
      have K := hide hb
      clear hb CH
      go_wp2
      go_ret
      exact ⟨ret_bool E.out.symm, K.out⟩
  · have E := hide (vlv_no (L := L) (v := v) (fun g => h0 g.1))
    have de : (chE L != 0) = true := by simpa using h0
    clear h0
    generalize chE L = ce at *
    go_enter Try.func78, Try.ntmps78
    go_wp2_with fail
    refine CH.out.mono ?_
    rintro e w' ⟨rfl, hb⟩
    have K := hide hb
    clear hb CH
    go_wp2
    go_ret
    exact ⟨ret_bool E.out.symm, K.out⟩
end Go.Proofs.Ytclkflnonckajaa.Ac
