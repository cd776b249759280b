import Derived.Test.YtclkflnonckajaaQ4
namespace Go.Proofs.Ytclkflnonckajaa.Ac
open Go Go.RowKit
set_option linter.unusedVariables false
set_option linter.unusedSimpArgs false
/-- what leaves at x, of the accounts below c -/
def inF (L : List A5) (v : Is) (c : Nat) (x : Nat) : Int := sm (fun i => ip L (i : Nat) (x : Nat) * nAt v i) c
/-- and of c itself, on its path down to a -/
def inG (L : List A5) (v : Is) (c : Nat) (a : Int) (x : Nat) : Int := inF L v c x + nAt v c * (ip L (c : Nat) (x : Nat) - ip L a (x : Nat))
theorem inG_0 (L : List A5) (v : Is) (c x : Nat) : inG L v c (c : Nat) x = inF L v c x := by unfold inG; rw [Int.sub_self, Int.mul_zero, Int.add_zero]
theorem inG_end (L : List A5) (v : Is) (c x : Nat) : inG L v c (-1) x = inF L v (c + 1) x := by
  have e : ip L (-1) (x : Nat) = 0 := by unfold ip; rw [pth_neg (by omega)]; rfl
  unfold inG
  rw [e, Int.sub_zero, Int.mul_comm]
  rfl
theorem inG_step {L : List A5} (V : Vd L) (v : Is) {c m : Nat} (hm : m < L.length) (x : Nat) : inG L v c (pa L m) x = if x = m then inG L v c (m : Nat) m + nAt v c else inG L v c (m : Nat) x := by
  have e := ip_cons V.tr V.len.2 hm (x : Nat)
  unfold inG
  by_cases h : x = m
  · subst h
    rw [if_pos rfl] at e
    rw [if_pos rfl, e, show ip L (c : Nat) (x : Nat) - ip L (pa L x) (x : Nat) = (ip L (c : Nat) (x : Nat) - (1 + ip L (pa L x) (x : Nat))) + 1 by omega, Int.mul_add, Int.mul_one]
    omega
  · rw [if_neg (by omega)] at e
    rw [if_neg h, e, Int.zero_add]
theorem inF_bd {L : List A5} (V : Vd L) {v : Is} (hv : okV v) (hl : v.length = L.length) {c : Nat} (hc : c ≤ L.length) (x : Nat) : 0 ≤ inF L v c x ∧ inF L v c x ≤ 8388608 := by
  have h1 := sm_nonneg (f := fun i => ip L (i : Nat) (x : Nat) * nAt v i) c (fun i hi => (ip_mul _ _ _ (hv i (by omega)).1).1)
  have h2 := sm_le (f := fun i => ip L (i : Nat) (x : Nat) * nAt v i) 1048576 c (fun i hi => by
    have := ip_mul (L := L) (i : Nat) (x : Nat) (nAt v i) (hv i (by omega)).1
    have := (hv i (by omega)).2
    show ip L (i : Nat) (x : Nat) * nAt v i ≤ _
    omega)
  have := V.len.2
  unfold inF
  omega
theorem inG_bd {L : List A5} (V : Vd L) {v : Is} (hv : okV v) (hl : v.length = L.length) {c : Nat} (hc : c < L.length) (a : Int) (x : Nat) : -1048576 ≤ inG L v c a x ∧ inG L v c a x ≤ 9437184 := by
  have h1 := inF_bd V hv hl (c := c) (by omega) x
  have h2 := hv c (by omega)
  have h3 := ip_le (L := L) (c : Nat) (x : Nat)
  have h4 := ip_le (L := L) a (x : Nat)
  unfold inr at h2
  unfold inG
  rcases (show ip L (c : Nat) (x : Nat) - ip L a (x : Nat) = -1 ∨ ip L (c : Nat) (x : Nat) - ip L a (x : Nat) = 0 ∨ ip L (c : Nat) (x : Nat) - ip L a (x : Nat) = 1 by omega) with e | e | e <;> rw [e]
  · omega
  · rw [Int.mul_zero]; omega
  · rw [Int.mul_one]; omega
set_option maxRecDepth 100000 in
set_option maxHeartbeats 8000000 in
theorem rin0_any (A AV : Option Addr) (cp cv : Nat) (L : List A5) (v : Is) (w : World) (hr : As w A L) (hv : Bi w AV v) (V : Vd L) (hvl : v.length = L.length) (hok : okV v) :
    Calls Try.prog 79 #[.slice A L.length cp, .slice AV v.length cv] w (RIR L.length (tS L v) w) := by
  unfold RIR
  have HR := hide hr
  have HV := hide hv
  have HVV := hide V
  have HOK := hide hok
  have HVL := hide hvl
  have K0 := hide (brefl w)
  have h1 := V.len.1
  have h8 := V.len.2
  clear hr hv V hok
  rw [hvl]
  clear hvl
  go_enter Try.func79, Try.ntmps79
  obtain ⟨n, hn⟩ : ∃ n, n = L.length := ⟨_, rfl⟩
  rw [← hn] at h1 h8 ⊢
  have HN := hide hn
  clear hn
  obtain ⟨zz, hzz⟩ : ∃ zz : Array Value, zz = madeCells #[.int .i64 0] n := ⟨_, rfl⟩
  have hmk : ∀ w, (Instr.makeSlice 26 (.int .i64 (n : Int)) (.int .i64 (n : Int))).run Try.prog w = .ok (.slice (some ⟨w.heap.size, 0, none⟩) n n) (w.alloc (.cells zz 3)) := fun w => by rw [hzz]; exact makeN w n (by omega)
  have S := hide (show RI (w.alloc (.cells zz 3)) w.heap.size n (inF L v 0) by rw [hzz]; exact RI.made w n _ (fun x _ => rfl))
  have M := bal (brefl w) (.cells zz 3)
  replace K0 := hide (btrans K0.out M)
  clear M hzz
  go_upto_region 2 with fail
  obtain ⟨g, hg⟩ : ∃ g, g = w.heap.size := ⟨_, rfl⟩
  have hgw : w.heap.size ≤ g := by rw [hg]; exact Nat.le_refl _
  rw [← hg] at S ⊢
  generalize w.alloc (.cells zz 3) = W1 at *
  clear hmk hg
  go_wp2
  go_loopw [6] (fun c wr => ∃ k : Nat, k ≤ n ∧ c = .int .i64 k ∧ Hid (RI wr g n (inF L v k)) ∧ Hid (Below w.heap.size w wr)) (fun c _ => n - (intOf c).toNat)
  case atStart => exact ⟨0, Nat.zero_le _, rfl, S, K0⟩
  case round =>
    clear S K0
    obtain ⟨k, hk, rfl, S, K⟩ := hrel
    by_cases hlt : k < n
    · have hl2 : (k : Int) < (n : Int) := by omega
      have hk0 : (0 : Int) ≤ (k : Int) := by omega
      have hkL : k < L.length := by rw [← HN.out]; exact hlt
      have SX := hide (S.out.congr (c' := inG L v k (k : Nat)) fun x _ => (inG_0 L v k x).symm)
      have KX := hide K.out
      clear S K
      go_wp2
      go_loopw [7] (fun c wr => ∃ a : Int, -1 ≤ a ∧ a < n ∧ c = .int .i64 a ∧ Hid (RI wr g n (inG L v k a)) ∧ Hid (Below w.heap.size w wr)) (fun c _ => (intOf c + 1).toNat)
      case atStart => exact ⟨k, by omega, hl2, rfl, SX, KX⟩
      case round =>
        clear SX KX
        obtain ⟨a, ha0, ha1, rfl, S, K⟩ := hrel
        by_cases hneg : a < 0
        · obtain rfl : a = -1 := by omega
          have S2 := hide (S.out.congr (c' := inF L v (k + 1)) fun x _ => inG_end L v k x)
          clear S
          go_wp2
          go_roundw
          case rel => exact ⟨k + 1, by omega, by go_num, S2, K⟩
          case measure => simp [intOf]; omega
        · obtain ⟨m, rfl⟩ := Int.eq_ofNat_of_zero_le (show 0 ≤ a by omega)
          have hmn : m < n := by omega
          have hmL : m < L.length := by rw [← HN.out]; exact hmn
          have hm0 : (0 : Int) ≤ (m : Int) := by omega
          have hpp := tr_pa HVV.out.tr hmL
          obtain ⟨b, off, rfl, hbl, y0, y1, y2, y3, y4⟩ := HR.out.cells K.out hmL
          obtain ⟨b2, off2, rfl, hbl2, x0⟩ := HV.out.cells K.out (show k < v.length by rw [HVL.out]; exact hkL)
          have Y0 := hide (show ∀ w', Below wr.heap.size wr w' → w'.cell? ⟨b, off + m * 5, none⟩ = some (.int .i64 (pa L m)) from fun w' h => (h.cell (p := ⟨b, off + m * 5, none⟩) (Nat.lt_of_lt_of_le hbl K.out.size)).trans y0)
          have ST := hide (fun x => inG_step HVV.out v (c := k) hmL x)
          have bd := inG_bd HVV.out HOK.out HVL.out hkL (m : Int) m
          have vb := HOK.out k (by rw [HVL.out]; exact hkL)
          unfold inr at vb
          have c0 : wr.cell? ⟨g, m, none⟩ = some (.int .i64 (inG L v k (m : Nat) m)) := S.out.cell hmn
          have f0 := S.out.frozen m
          have S2 := hide (S.out.put m (inG L v k (m : Nat) m + nAt v k) (c' := inG L v k (pa L m)) (fun x _ => ST.out x))
          have K2 := hide (K.out.setCell (p := ⟨g, m, none⟩) hgw (.int .i64 (inG L v k (m : Nat) m + nAt v k)))
          have Y2 := hide (show (wr.setCell ⟨g, m, none⟩ (.int .i64 (inG L v k (m : Nat) m + nAt v k))).cell? ⟨b, off + m * 5, none⟩ = some (.int .i64 (pa L m)) from (cell_far (by omega)).trans y0)
          have e0 : v.getD k 0 = nAt v k := rfl
          rw [e0] at x0
          obtain ⟨bd1, bd2⟩ := bd
          obtain ⟨vb1, vb2⟩ := vb
          clear y0 y1 y2 y3 y4 ST e0 S K Y0
          generalize nAt v k = z at *
          generalize inG L v k (m : Nat) m = y at *
          generalize pa L m = p at *
          have ew : IntKind.i64.wrap (y + z) = y + z := IntWalk.i64_in _ (by omega)
          go_wp2
          go_region
          have S3 := hide (show RI (wr.setCell ⟨g, m, none⟩ (.int .i64 (y + z))).drew g n (inG L v k p) from S2.out)
          have K3 := hide (show Below w.heap.size w (wr.setCell ⟨g, m, none⟩ (.int .i64 (y + z))).drew from below_drewN K2.out 1)
          have y0 : (wr.setCell ⟨g, m, none⟩ (.int .i64 (y + z))).drew.cell? ⟨b, off + m * 5, none⟩ = some (.int .i64 p) := Y2.out
          clear S2 K2 c0 f0 x0 Y2
          generalize (wr.setCell ⟨g, m, none⟩ (.int .i64 (y + z))).drew = w3 at *
          go_wp2
          go_roundw
          case rel => exact ⟨p, by omega, by omega, rfl, S3, K3⟩
          case measure => simp [intOf]; omega
    · obtain rfl : n = k := by omega
      have S2 := hide (show RI wr g n (tS L v) from S.out.congr fun x _ => by unfold tS; rw [← HN.out]; rfl)
      go_wp2
      go_ret
      exact ⟨g, rfl, S2.out, hgw, K.out⟩
theorem nR_ok {L : List A5} {v : Is} (h : vlv L v) : nR L v = rl L.length (tS L v) := if_pos h
theorem nR_no {L : List A5} {v : Is} (h : ¬ vlv L v) : nR L v = [] := if_neg h
/-- a list of numbers is answered, to be read -/
def BiR (l : Is) (w : World) (e : Ending) (w' : World) : Prop := ∃ A c, e = .returned (.slice A l.length c) ∧ Bi w' A l ∧ Below w.heap.size w w'
theorem ret_sl {A : Option Addr} {n n' c : Nat} (h : n = n') : Ending.returned (.slice A n c) = .returned (.slice A n' c) := by rw [h]
set_option maxHeartbeats 2000000 in
theorem rin_any2 (A AV : Option Addr) (cp cv : Nat) (L : List A5) (v : Is) (w : World) (hr : As w A L) (hv : Bi w AV v) (hn : L.length ≤ 9223372036854775807) (hvn : v.length ≤ 9223372036854775807) :
    Calls Try.prog 47 #[.slice A L.length cp, .slice AV v.length cv] w (BiR (nR L v) w) := by
  unfold BiR
  have VD := hide (rvld_any A AV cp cv L v w hr hv hn hvn)
  by_cases h : vlv L v
  · have IN := hide (fun w' (hb : Below w.heap.size w w') => rin0_any A AV cp cv L v w' (hr.below hb) (hv.below hb) (vd_of h.1) h.2.1 h.2.2)
    unfold RIR at IN
    have E := hide (nR_ok h)
    rw [decide_eq_true h] at VD
    clear h hr hv
    go_enter Try.func47, Try.ntmps47
    go_wp2_with fail
    refine VD.out.mono ?_
    rintro e w1 ⟨rfl, hb⟩
    have K := hide hb
    clear hb VD
    go_wp2_with fail
    refine (IN.out _ K.out).mono ?_
    rintro e w2 ⟨g, rfl, hS, hg, hb⟩
    replace K := hide (btrans K.out hb)
    have S := hide hS.bi
    clear hb hS hg IN
    go_wp2
    go_ret
    exact ⟨_, _, ret_sl (by rw [E.out, rl_len]), by rw [E.out]; exact S.out, K.out⟩
  · have E := hide (nR_no h)
    rw [decide_eq_false h] at VD
    clear h hr hv
    go_enter Try.func47, Try.ntmps47
    go_wp2_with fail
    refine VD.out.mono ?_
    rintro e w1 ⟨rfl, hb⟩
    have K := hide hb
    clear hb VD
    go_wp2
    go_ret
    exact ⟨none, 0, ret_sl (by rw [E.out]; rfl), by rw [E.out]; exact Bi.nil _ _, K.out⟩
end Go.Proofs.Ytclkflnonckajaa.Ac
