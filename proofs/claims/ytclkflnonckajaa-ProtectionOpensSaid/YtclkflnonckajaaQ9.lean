import Derived.Test.YtclkflnonckajaaQ8
import Derived.Test.YtclkflnonckajaaQ7
import Derived.Test.YtclkflnonckajaaAw
namespace Go.Proofs.Ytclkflnonckajaa.Ac
open Go Go.RowKit
set_option linter.unusedVariables false
set_option linter.unusedSimpArgs false
def op2 (L : List A5) (v : Is) (s : Int) (c : Nat) : Bool := decide (nAt v c < oR L c) && !gR L v c s false
section
variable {L : List A5} {v : Is} {s : Int}
theorem opn_eq (h : vlv L v) {c : Nat} (hc : c < L.length) : opn L v s c = op2 L v s c := by
  unfold opn op2
  have e : oR L (c : Nat) = own L c := oR_ok ⟨h.1, by omega, by omega⟩
  rw [e]
  cases hi : iR L c s with
  | false =>
    have g : gR L v c s false = true := gR_no (fun g => by rw [hi] at g; exact absurd g.2 (by decide))
    rw [g]
    simp
  | true => exact Bool.true_and _
theorem op_at {k : Nat} (hk : k < v.length) (hn : ∀ j, j < k → op2 L v s j = false) (hy : op2 L v s k = true) : opR L v s = k := by
  have h : vlv L v := by
    by_cases h : vlv L v
    · exact h
    · have g : gR L v k s false = true := gR_no (fun g => h g.1)
      unfold op2 at hy
      rw [g] at hy
      simp at hy
  unfold opR
  rw [if_pos h]
  have hl := h.2.1
  exact fst_at ((opn_eq h (by omega)).trans hy) L.length 0 (Nat.zero_le _) (by omega) (fun i _ hi => (opn_eq h (by omega)).trans (hn i hi))
theorem op_none (hn : ∀ j, j < v.length → op2 L v s j = false) : opR L v s = -1 := by
  unfold opR
  by_cases h : vlv L v
  · have hl := h.2.1
    rw [if_pos h]
    exact fst_no L.length 0 (fun i _ hi => (opn_eq h (by omega)).trans (hn i (by omega)))
  · exact if_neg h
theorem op2_f1 {k : Nat} (h : ¬ nAt v k < oR L k) : op2 L v s k = false := by unfold op2; rw [decide_eq_false h]; rfl
theorem op2_f2 {k : Nat} (h : gR L v k s false = true) : op2 L v s k = false := by unfold op2; rw [h]; simp
theorem op2_t {k : Nat} (h : nAt v k < oR L k) (g : gR L v k s false = false) : op2 L v s k = true := by unfold op2; rw [decide_eq_true h, g]; rfl
end
set_option maxRecDepth 100000 in
set_option maxHeartbeats 8000000 in
theorem open_any (A AV : Option Addr) (cp cv : Nat) (L : List A5) (v : Is) (s : Int) (w : World) (hr : As w A L) (hv : Bi w AV v) (hcp : L.length ≤ cp) (hn : L.length ≤ 9223372036854775807) (hvn : v.length ≤ 9223372036854775807) :
    Calls Try.prog 48 #[.slice A L.length cp, .slice AV v.length cv, .int .i64 s] w fun e w' => e = .returned (.int .i64 (opR L v s)) ∧ Below w.heap.size w w' := by
  have K0 := hide (brefl w)
  have OW := hide (fun (k : Nat) w' (h : Below w.heap.size w w') => ownf_any A cp L (k : Int) w' (hr.below h) hcp hn)
  have GU := hide (fun (k : Nat) w' (h : Below w.heap.size w w') => guard_any A AV cp cv L v (k : Int) s false w' (hr.below h) (hv.below h) hcp hn hvn)
  have HV := hide hv
  have AT := hide (fun (k : Nat) hk hn hy => op_at (L := L) (v := v) (s := s) (k := k) hk hn hy)
  have NN := hide (fun hn => op_none (L := L) (v := v) (s := s) hn)
  clear hr hv
  go_enter Try.func48, Try.ntmps48
  go_wp2
  go_loopw [7, 8, 11] (fun _ _ c wr => ∃ k : Nat, k ≤ v.length ∧ c = .int .i64 k ∧ Hid (∀ j, j < k → op2 L v s j = false) ∧ Hid (Below w.heap.size w wr)) (fun _ _ c _ => v.length - (intOf c).toNat)
  case atStart => exact ⟨0, Nat.zero_le _, rfl, hide (fun j h => absurd h (by omega)), K0⟩
  case round =>
    clear K0
    obtain ⟨k, hk, rfl, N, K⟩ := hrel
    by_cases hlt : k < v.length
    · have hl2 : (k : Int) < (v.length : Int) := by omega
      have hk0 : (0 : Int) ≤ (k : Int) := by omega
      obtain ⟨b, off, rfl, hbl, y0⟩ := HV.out.cells K.out hlt
      have O := hide (OW.out k wr K.out)
      have G := hide (GU.out k)
      by_cases hq : nAt v k < oR L k
      · cases hg : gR L v k s false with
        | false =>
          have E := hide (AT.out k hlt N.out (op2_t hq hg))
          rw [hg] at G
          clear hg N AT NN
          unfold nAt at hq
          generalize v.getD k 0 = m at *
          generalize oR L k = o at *
          go_wp2_with fail
          refine O.out.mono ?_
          rintro e w1 ⟨rfl, hb⟩
          replace K := hide (btrans K.out hb)
          clear hb O y0
          go_wp2_with fail
          refine (G.out _ K.out).mono ?_
          rintro e w2 ⟨rfl, hb⟩
          replace K := hide (btrans K.out hb)
          clear hb G
          go_wp2
          go_ret
          exact ⟨ret_int E.out.symm, K.out⟩
        | true =>
          have N2 := hide (all_next (P := fun j => op2 L v s j = false) N.out (op2_f2 hg))
          rw [hg] at G
          clear hg N
          unfold nAt at hq
          generalize v.getD k 0 = m at *
          generalize oR L k = o at *
          go_wp2_with fail
          refine O.out.mono ?_
          rintro e w1 ⟨rfl, hb⟩
          replace K := hide (btrans K.out hb)
          clear hb O y0
          go_wp2_with fail
          refine (G.out _ K.out).mono ?_
          rintro e w2 ⟨rfl, hb⟩
          replace K := hide (btrans K.out hb)
          clear hb G
          go_wp2
          go_roundw
          case rel => exact ⟨k + 1, by omega, by go_num, N2, K⟩
          case measure => simp [intOf]; omega
      · have N2 := hide (all_next (P := fun j => op2 L v s j = false) N.out (op2_f1 hq))
        clear N G
        unfold nAt at hq
        generalize v.getD k 0 = m at *
        generalize oR L k = o at *
        go_wp2_with fail
        refine O.out.mono ?_
        rintro e w1 ⟨rfl, hb⟩
        replace K := hide (btrans K.out hb)
        clear hb O y0
        go_wp2
        go_roundw
        case rel => exact ⟨k + 1, by omega, by go_num, N2, K⟩
        case measure => simp [intOf]; omega
    · obtain rfl : k = v.length := by omega
      have E := hide (NN.out N.out)
      go_wp2
      go_ret
      exact ⟨ret_int E.out.symm, K.out⟩
set_option maxRecDepth 100000 in
set_option maxHeartbeats 4000000 in
theorem isame_refl (A B : Option Addr) (c d : Nat) (l : Is) (w : World) (hr : Bi w A l) (hs : Bi w B l) (hn : l.length ≤ 9223372036854775807) :
    Calls Try.prog 41 #[.slice A l.length c, .slice B l.length d] w fun e w' => e = .returned (.bool true) ∧ Below w.heap.size w w' := by
  have HR := hide hr
  have HS := hide hs
  have K0 := hide (brefl w)
  clear hr hs
  go_enter Try.func41, Try.ntmps41
  go_wp2
  go_loopw [5] (fun i wr => ∃ k : Nat, k ≤ l.length ∧ i = .int .i64 k ∧ Hid (Below w.heap.size w wr)) (fun i _ => l.length - (intOf i).toNat)
  case atStart => exact ⟨0, Nat.zero_le _, rfl, K0⟩
  case round =>
    clear K0
    obtain ⟨k, hk, rfl, K⟩ := hrel
    by_cases hlt : k < l.length
    · obtain ⟨b, off, rfl, _, x0⟩ := HR.out.cells K.out hlt
      obtain ⟨b', off', rfl, _, y0⟩ := HS.out.cells K.out hlt
      have hk0 : (0 : Int) ≤ (k : Int) := by omega
      have hkl : (k : Int) < (l.length : Int) := by omega
      generalize l.getD k 0 = z0 at *
      go_wp2
      go_quiet (fail)
      generalize hwy : World.drewN wr _ = wy
      have hbq : Below wr.heap.size wr wy := by rw [← hwy]; exact below_drewN (brefl _) _
      replace K := hide (btrans K.out hbq)
      clear hwy hbq x0 y0
      go_wp2
      go_roundw
      case rel => exact ⟨k + 1, by omega, by go_num, K⟩
      case measure => simp [intOf]; omega
    · obtain rfl : k = l.length := by omega
      go_wp2
      go_ret
      exact ⟨rfl, K.out⟩
theorem few2_any (A B : Option Addr) (n m c d : Nat) (w : World) (hn : n ≤ 9223372036854775807) (hm : m ≤ 9223372036854775807) : Calls Try.prog 38 #[.slice A n c, .slice B m d] w fun e w' => e = .returned (.bool (decide ((n : Int) ≤ 40) && decide ((m : Int) ≤ 40))) ∧ w = w' := by
  by_cases h : (n : Int) ≤ 40
  · rw [decide_eq_true h]
    go_enter Try.func38, Try.ntmps38
    go_wp2
    go_ret
    exact ⟨rfl, rfl⟩
  · rw [decide_eq_false h]
    go_enter Try.func38, Try.ntmps38
    go_wp2
    go_ret
    exact ⟨rfl, rfl⟩
end Go.Proofs.Ytclkflnonckajaa.Ac
