import Derived.Test.YtiopfeleaifpbabW3
namespace Go.Proofs.Ytiopfeleaifpbab.Bd
open Go Go.RowKit
set_option linter.unusedVariables false
theorem Bi.at_ {w w' : World} {A : Option Addr} {l : Is} (h : Bi w A l) (hb : Below w.heap.size w w') {k : Nat} (hk : k < l.length) : ∃ b off, A = some ⟨b, off, none⟩ ∧ b < w.heap.size ∧ w'.cell? ⟨b, off + k, none⟩ = some (.int .i64 (l.getD k 0)) := by
  obtain ⟨b, off, e, hl, hc⟩ := h (by rintro rfl; simp at hk)
  exact ⟨b, off, e, hl, (hb.cell (p := ⟨b, off + k, none⟩) hl).trans (hc k hk)⟩
theorem cons_any (A : Option Addr) (c n : Nat) (w : World) (hc : n ≤ c) (hn : n ≤ 9223372036854775807) : Calls Try.prog 35 #[.slice A n c] w fun e w' => e = .returned (.slice A (min n 5) c) ∧ w = w' := by
  by_cases h : n ≤ 5
  · have h1 : (n : Int) ≤ 5 := by omega
    rw [Nat.min_eq_left h]
    go_enter Try.func35, Try.ntmps35
    go_wp2
    go_ret
    exact ⟨rfl, rfl⟩
  · have h1 : ¬ (n : Int) ≤ 5 := by omega
    have h2 : (5 : Int) ≤ n := by omega
    have h3 : 5 ≤ n := by omega
    have h4 : 5 ≤ c := by omega
    have h5 : (5 : Int) ≤ (c : Int) := by omega
    rw [Nat.min_eq_right h3]
    go_enter Try.func35, Try.ntmps35
    go_wp2
    go_ret
    exact ⟨rfl, rfl⟩
theorem blks_any (A : Option Addr) (c : Nat) (l : Is) (o : Nat) (w : World) (hr : Bi w A l) (ho : o ≤ 4) (hn : l.length ≤ 9223372036854775807) : Calls Try.prog 36 #[.slice A l.length c, .int .i64 o] w fun e w' => e = .returned (.int .i64 (l.getD o 0)) ∧ w = w' := by
  by_cases h : o < l.length
  · obtain ⟨b, off, rfl, hb, c0⟩ := hr.at_ (brefl w) h
    have h1 : (o : Int) < (l.length : Int) := by omega
    generalize l.getD o 0 = z at *
    go_enter Try.func36, Try.ntmps36
    go_wp2
    go_ret
    exact ⟨rfl, rfl⟩
  · have h1 : ¬ (o : Int) < (l.length : Int) := by omega
    rw [getD_out (by omega)]
    go_enter Try.func36, Try.ntmps36
    go_wp2
    go_ret
    exact ⟨rfl, rfl⟩
theorem valL_no {l : Is} {k : Nat} (h : ¬ inC (l.getD k 0)) (hk : k < 5) (hl : k < l.length) : decide (valL l) = false := decide_eq_false fun v => h (v k hk hl)
set_option maxHeartbeats 2000000 in
theorem islist_any (A : Option Addr) (c : Nat) (l : Is) (w : World) (hr : Bi w A l) (hc : l.length ≤ c) (hn : l.length ≤ 9223372036854775807) : Calls Try.prog 29 #[.slice A l.length c] w fun e w' => e = .returned (.bool (decide (valL l))) ∧ w = w' := by
  have HR := hide hr
  have CN := hide (fun w => cons_any A c l.length w hc hn)
  have IC := hide (fun n w => isc_any n w)
  obtain ⟨m, hm⟩ : ∃ m, m = min l.length 5 := ⟨_, rfl⟩
  rw [← hm] at CN
  have hml : m ≤ l.length := by omega
  have hm5 : m ≤ 5 := by omega
  have HM := hide hm
  obtain ⟨res, hres⟩ : ∃ r, r = decide (valL l) := ⟨_, rfl⟩
  rw [← hres]
  have HRes := hide hres
  clear hr hc hres hm
  go_enter Try.func29, Try.ntmps29
  go_wp2_with (go_at_call 35; refine (CN.out _).mono ?_; rintro e w' ⟨rfl, rfl⟩)
  go_loopw [8] (fun a wr => ∃ k : Nat, k ≤ m ∧ a = .int .i64 k ∧ wr = w ∧ Hid (∀ j, j < k → inC (l.getD j 0))) (fun a _ => m - (intOf a).toNat)
  case atStart => exact ⟨0, Nat.zero_le _, rfl, rfl, hide (fun j h => by omega)⟩
  case round =>
    obtain ⟨k, hk, rfl, rfl, N⟩ := hrel
    by_cases hlt : k < m
    · obtain ⟨b, off, rfl, hb, c0⟩ := HR.out.at_ (brefl _) (show k < l.length by omega)
      have hlt2 : (k : Int) < (m : Int) := by omega
      by_cases hi : inC (l.getD k 0)
      · have di := decide_eq_true hi
        have N2 := hide (show ∀ j, j < k + 1 → inC (l.getD j 0) from fun j hj => by
          by_cases e : j = k
          · rw [e]; exact hi
          · exact N.out j (by omega))
        generalize l.getD k 0 = z at *
        clear hi
        go_wp2_with (go_at_call 26; refine (IC.out _ _).mono ?_; rintro e w' ⟨rfl, rfl⟩)
        go_roundw
        case rel => exact ⟨k + 1, by omega, by go_num, by first | rfl | trivial, N2⟩
        case measure => simp [intOf]; omega
      · have di := decide_eq_false hi
        have EE := hide (valL_no hi (by omega) (by omega))
        generalize l.getD k 0 = z at *
        clear hi
        go_wp2_with (go_at_call 26; refine (IC.out _ _).mono ?_; rintro e w' ⟨rfl, rfl⟩)
        go_ret
        exact ⟨ret_bool (by rw [HRes.out, EE.out]), rfl⟩
    · obtain rfl : k = m := by omega
      have EE := hide (show decide (valL l) = true from decide_eq_true fun j h5 hl => N.out j (by have := HM.out; omega))
      go_wp2
      go_ret
      exact ⟨ret_bool (by rw [HRes.out, EE.out]), rfl⟩
theorem sh_eq {l : Is} (h : valL l) {k : Nat} (hk : k < 5) : wrap64 (l.getD k 0 * 2 ^ k) = l.getD k 0 * 2 ^ k ∧ IntKind.i64.wrap (l.getD k 0 * 2 ^ k) = l.getD k 0 * 2 ^ k ∧ 0 ≤ l.getD k 0 * 2 ^ k ∧ l.getD k 0 * 2 ^ k ≤ 65536 := by
  have h1 := h.at_ hk
  have h2 := pw_le hk
  unfold inC at h1
  have h3 : 0 ≤ l.getD k 0 * 2 ^ k := Int.mul_nonneg (by omega) (by omega)
  have h4 : l.getD k 0 * 2 ^ k ≤ 4096 * 16 := Int.mul_le_mul (by omega) (by omega) (by omega) (by omega)
  exact ⟨by unfold wrap64; omega, IntWalk.i64_in _ (by omega), h3, by omega⟩
set_option maxHeartbeats 2000000 in
theorem ffrom_any (A : Option Addr) (c : Nat) (l : Is) (o : Nat) (w : World) (hr : Bi w A l) (hc : l.length ≤ c) (hn : l.length ≤ 9223372036854775807) (hv : valL l) (ho : o ≤ 4) : Calls Try.prog 30 #[.slice A l.length c, .int .i64 o] w fun e w' => e = .returned (.int .i64 (ab l o)) ∧ w = w' := by
  have HR := hide hr
  have HV := hide hv
  have CN := hide (fun w => cons_any A c l.length w hc hn)
  obtain ⟨m, hm⟩ : ∃ m, m = min l.length 5 := ⟨_, rfl⟩
  rw [← hm] at CN
  have hml : m ≤ l.length := by omega
  have hm5 : m ≤ 5 := by omega
  obtain ⟨res, hres⟩ : ∃ r, r = ab l o := ⟨_, rfl⟩
  rw [← hres]
  have HRes := hide (show res = abN l o m by rw [hres, hm]; exact (abN_min l o).symm)
  clear hr hc hres hm hv
  go_enter Try.func30, Try.ntmps30
  go_wp2_with (go_at_call 35; refine (CN.out _).mono ?_; rintro e w' ⟨rfl, rfl⟩)
  go_loopw [5, 11] (fun s a wr => ∃ k : Nat, k ≤ m ∧ s = .int .i64 (abN l o k) ∧ a = .int .i64 k ∧ wr = w) (fun _ a _ => m - (intOf a).toNat)
  case atStart => exact ⟨0, Nat.zero_le _, rfl, rfl, rfl⟩
  case round =>
    obtain ⟨k, hk, rfl, rfl, rfl⟩ := hrel
    by_cases hlt : k < m
    · obtain ⟨b, off, rfl, hb, c0⟩ := HR.out.at_ (brefl _) (show k < l.length by omega)
      have hlt2 : (k : Int) < (m : Int) := by omega
      have bd := abN_bd HV.out o k (by omega)
      obtain ⟨e1, e2, e3, e4⟩ := sh_eq HV.out (show k < 5 by omega)
      by_cases hok : o ≤ k
      · have ES := hide (show abN l o (k + 1) = abN l o k + l.getD k 0 * 2 ^ k by show abN l o k + (if o ≤ k then _ else _) = _; rw [if_pos hok])
        have hok2 : (o : Int) ≤ (k : Int) := by omega
        obtain ⟨z, hz⟩ : ∃ z, z = l.getD k 0 := ⟨_, rfl⟩
        rw [← hz] at c0 e1 e2 e3 e4 ES
        obtain ⟨a, ha⟩ : ∃ a, a = abN l o k := ⟨_, rfl⟩
        rw [← ha] at bd ES ⊢
        obtain ⟨p, hp⟩ : ∃ p, p = z * 2 ^ k := ⟨_, rfl⟩
        have e5 : wrap64 (z * 2 ^ k) = p := by rw [e1, hp]
        have e6 : IntKind.i64.wrap (z * 2 ^ k) = p := by rw [e2, hp]
        rw [← hp] at e3 e4 ES
        clear e1 e2
        have e7 : wrap64 (a + p) = a + p := by unfold wrap64; omega
        have hk0 : (0 : Int) ≤ (k : Int) := by omega
        clear hp ha hz
        go_wp2
        go_roundw
        case rel => exact ⟨k + 1, by omega, by rw [ES.out], by go_num, by first | rfl | trivial⟩
        case measure => simp [intOf]; omega
      · have ES := hide (show abN l o (k + 1) = abN l o k by show abN l o k + (if o ≤ k then _ else _) = _; rw [if_neg hok]; omega)
        have hok2 : ¬ (o : Int) ≤ (k : Int) := by omega
        go_wp2
        go_roundw
        case rel => exact ⟨k + 1, by omega, by rw [ES.out], by go_num, by first | rfl | trivial⟩
        case measure => simp [intOf]; omega
    · obtain rfl : k = m := by omega
      go_wp2
      go_ret
      exact ⟨ret_int HRes.out.symm, rfl⟩
set_option maxHeartbeats 2000000 in
theorem rvalid_any (A : Option Addr) (c : Nat) (l : Is) (w : World) (hr : Bi w A l) (hn : l.length ≤ 9223372036854775807) : Calls Try.prog 31 #[.slice A l.length c] w fun e w' => e = .returned (.bool (decide (valL l))) ∧ w = w' := by
  have BK := hide (fun (o : Nat) w1 (hr : Bi w1 A l) (ho : o ≤ 4) => blks_any A c l o w1 hr ho hn)
  have HR := hide hr
  have IC := hide (fun n w => isr_any n w)
  obtain ⟨res, hres⟩ : ∃ r, r = decide (valL l) := ⟨_, rfl⟩
  rw [← hres]
  have HRes := hide hres
  clear hr hres
  go_enter Try.func31, Try.ntmps31
  go_wp2
  go_loopw [3] (fun a wr => ∃ k : Nat, k ≤ 5 ∧ a = .int .i64 k ∧ wr = w ∧ Hid (∀ j, j < k → inC (l.getD j 0))) (fun a _ => 5 - (intOf a).toNat)
  case atStart => exact ⟨0, Nat.zero_le _, rfl, rfl, hide (fun j h => by omega)⟩
  case round =>
    obtain ⟨k, hk, rfl, rfl, N⟩ := hrel
    by_cases hlt : k < 5
    · have hlt2 : (k : Int) ≤ 4 := by omega
      have B1 := hide (BK.out k _ HR.out (by omega))
      by_cases hi : inC (l.getD k 0)
      · have di := decide_eq_true hi
        have N2 := hide (show ∀ j, j < k + 1 → inC (l.getD j 0) from fun j hj => by
          by_cases e : j = k
          · rw [e]; exact hi
          · exact N.out j (by omega))
        generalize l.getD k 0 = z at *
        clear hi
        go_wp2_with (first | (go_at_call 36; refine B1.out.mono ?_; rintro e w' ⟨rfl, rfl⟩) | (go_at_call 28; refine (IC.out _ _).mono ?_; rintro e w' ⟨rfl, rfl⟩))
        go_roundw
        case rel => exact ⟨k + 1, by omega, by go_num, by first | rfl | trivial, N2⟩
        case measure => simp [intOf]; omega
      · have di := decide_eq_false hi
        have EE := hide (show decide (valL l) = false from decide_eq_false fun v => hi (v.at_ (by omega)))
        generalize l.getD k 0 = z at *
        clear hi
        go_wp2_with (first | (go_at_call 36; refine B1.out.mono ?_; rintro e w' ⟨rfl, rfl⟩) | (go_at_call 28; refine (IC.out _ _).mono ?_; rintro e w' ⟨rfl, rfl⟩))
        go_ret
        exact ⟨ret_bool (by rw [HRes.out, EE.out]), rfl⟩
    · obtain rfl : k = 5 := by omega
      have EE := hide (show decide (valL l) = true from decide_eq_true fun j h5 hl => N.out j h5)
      go_wp2
      go_ret
      exact ⟨ret_bool (by rw [HRes.out, EE.out]), rfl⟩
set_option maxHeartbeats 2000000 in
theorem rabove_any (A : Option Addr) (c : Nat) (l : Is) (o : Nat) (w : World) (hr : Bi w A l) (hn : l.length ≤ 9223372036854775807) (hv : valL l) (ho : o ≤ 5) : Calls Try.prog 32 #[.slice A l.length c, .int .i64 o] w fun e w' => e = .returned (.int .i64 (ab l o)) ∧ w = w' := by
  have BK := hide (fun (o : Nat) w1 (hr : Bi w1 A l) (ho : o ≤ 4) => blks_any A c l o w1 hr ho hn)
  have HR := hide hr
  have HV := hide hv
  obtain ⟨res, hres⟩ : ∃ r, r = ab l o := ⟨_, rfl⟩
  rw [← hres]
  have HRes := hide hres
  clear hr hres hv
  go_enter Try.func32, Try.ntmps32
  go_wp2
  go_loopw [5, 6] (fun s a wr => ∃ k : Nat, o ≤ k ∧ k ≤ 5 ∧ s = .int .i64 (abN l o k) ∧ a = .int .i64 k ∧ wr = w) (fun _ a _ => 5 - (intOf a).toNat)
  case atStart => exact ⟨o, Nat.le_refl _, by omega, by rw [abN_low (Nat.le_refl _)], rfl, rfl⟩
  case round =>
    obtain ⟨k, hk0, hk, rfl, rfl, rfl⟩ := hrel
    by_cases hlt : k < 5
    · have hlt2 : (k : Int) ≤ 4 := by omega
      have B1 := hide (BK.out k _ HR.out (by omega))
      have bd := abN_bd HV.out o k (by omega)
      obtain ⟨e1, e2, e3, e4⟩ := sh_eq HV.out hlt
      have ES := hide (show abN l o (k + 1) = abN l o k + l.getD k 0 * 2 ^ k by show abN l o k + (if o ≤ k then _ else _) = _; rw [if_pos hk0])
      obtain ⟨z, hz⟩ : ∃ z, z = l.getD k 0 := ⟨_, rfl⟩
      rw [← hz] at B1 e1 e2 e3 e4 ES
      obtain ⟨a, ha⟩ : ∃ a, a = abN l o k := ⟨_, rfl⟩
      rw [← ha] at bd ES ⊢
      obtain ⟨p, hp⟩ : ∃ p, p = z * 2 ^ k := ⟨_, rfl⟩
      have e5 : wrap64 (z * 2 ^ k) = p := by rw [e1, hp]
      have e6 : IntKind.i64.wrap (z * 2 ^ k) = p := by rw [e2, hp]
      rw [← hp] at e3 e4 ES
      clear e1 e2
      have e7 : wrap64 (a + p) = a + p := by unfold wrap64; omega
      have hk00 : (0 : Int) ≤ (k : Int) := by omega
      clear hp ha hz
      go_wp2_with (go_at_call 36; refine B1.out.mono ?_; rintro e w' ⟨rfl, rfl⟩)
      go_roundw
      case rel => exact ⟨k + 1, by omega, by omega, by rw [ES.out], by go_num, by first | rfl | trivial⟩
      case measure => simp [intOf]; omega
    · obtain rfl : k = 5 := by omega
      go_wp2
      go_ret
      exact ⟨ret_int HRes.out.symm, rfl⟩
end Go.Proofs.Ytiopfeleaifpbab.Bd
