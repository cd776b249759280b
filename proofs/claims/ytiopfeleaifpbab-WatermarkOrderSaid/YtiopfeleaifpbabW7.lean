import Derived.Test.YtiopfeleaifpbabW6
namespace Go.Proofs.Ytiopfeleaifpbab.Bd
open Go Go.RowKit
set_option linter.unusedVariables false
set_option linter.unusedSimpArgs false
theorem abN_none {l : Is} {o : Nat} (h : ∀ j, o ≤ j → j < 5 → l.getD j 0 ≤ 0) : ∀ n, n ≤ 5 → abN l o n ≤ 0
  | 0, _ => Int.le_refl _
  | k + 1, hk => by
    have ih := abN_none h k (by omega)
    have e : abN l o (k + 1) = abN l o k + if o ≤ k then l.getD k 0 * 2 ^ k else 0 := rfl
    rw [e]
    split
    · rename_i ho
      have h1 := h k ho (by omega)
      have h2 := pw_le (k := k) (by omega)
      have h3 : l.getD k 0 * 2 ^ k ≤ 0 := Int.mul_nonpos_of_nonpos_of_nonneg h1 (by omega)
      omega
    · omega
theorem ab_pos {l : Is} {o : Nat} (h : 0 < ab l o) : ∃ j, o ≤ j ∧ j < 5 ∧ j < l.length ∧ 0 < l.getD j 0 := by
  rcases Classical.em (∃ j, o ≤ j ∧ j < 5 ∧ j < l.length ∧ 0 < l.getD j 0) with h1 | h1
  · exact h1
  · exfalso
    have := abN_none (l := l) (o := o) (fun j hj hj5 => by
      rcases Nat.lt_or_ge j l.length with h2 | h2
      · rcases Int.lt_or_le 0 (l.getD j 0) with h3 | h3
        · exact absurd ⟨j, hj, hj5, h2, h3⟩ h1
        · exact h3
      · rw [getD_out h2]; omega) 5 (Nat.le_refl _)
    unfold ab at h
    omega
theorem ret_ib {fn : Func} {a : Act} {W : World} {k m : Nat} {t : Int} {b : Bool} {Q : Ending → World → Prop} (hr : fn.results = #[.tmp k, .tmp m]) (h2 : a.tmps.getD k undef = .int .i64 t) (h3 : a.tmps.getD m undef = .bool b) (hd : a.defers = [])
    (hq : Q (.returned (.tuple #[.int .i64 t, .bool b])) W) : bodyPost Try.prog fn Q .ret a W := by
  simp only [Array.getD_eq_getD_getElem?] at h2 h3
  exact bodyPost_ret (v := .tuple #[.int .i64 t, .bool b]) (by simp [results, hr, h2, h3, go_sem]; try rfl) hd hq
set_option maxHeartbeats 4000000 in
theorem valid_any (A : Option Addr) (c : Nat) (l : Is) (w : World) (hr : Bi w A l) (hn : l.length ≤ 9223372036854775807) : Calls Try.prog 21 #[.slice A l.length c] w fun e w' => (∃ t, e = .returned (.tuple #[.int .i64 t, .bool (decide (valL l))]) ∧ (valL l → t = ab l 0)) ∧ w = w' := by
  have HR := hide hr
  clear hr
  go_enter Try.func21, Try.ntmps21
  go_wp2
  go_loopw [4, 5] (fun s a wr => ∃ k : Nat, k ≤ l.length ∧ k ≤ 5 ∧ s = .int .i64 (abN l 0 k) ∧ a = .int .i64 k ∧ wr = w ∧ Hid (∀ j, j < k → inC (l.getD j 0))) (fun _ a _ => 5 - (intOf a).toNat)
  case atStart => exact ⟨0, Nat.zero_le _, by omega, rfl, rfl, rfl, hide (fun j h => by omega)⟩
  case round =>
    obtain ⟨k, hk, hk5, rfl, rfl, rfl, N⟩ := hrel
    by_cases hlt : k < l.length
    · have hl2 : (k : Int) < (l.length : Int) := by omega
      by_cases h4 : k ≤ 4
      · have h42 : (k : Int) ≤ 4 := by omega
        have hk0 : (0 : Int) ≤ (k : Int) := by omega
        obtain ⟨b, off, rfl, hb, c0⟩ := HR.out.at_ (brefl _) hlt
        by_cases hi : inC (l.getD k 0)
        · have N2 := hide (show ∀ j, j < k + 1 → inC (l.getD j 0) from fun j hj => by
            by_cases e : j = k
            · rw [e]; exact hi
            · exact N.out j (by omega))
          have ES := hide (show abN l 0 (k + 1) = abN l 0 k + l.getD k 0 * 2 ^ k by show abN l 0 k + (if 0 ≤ k then _ else _) = _; rw [if_pos (Nat.zero_le _)])
          have bd : 0 ≤ abN l 0 k ∧ abN l 0 k ≤ 400000 := by
            have := abN_bd (l := l.take k) (fun j h5 hj => by
              rw [List.length_take] at hj
              have := N.out j (by omega)
              rwa [List.getD_eq_getElem?_getD, List.getElem?_take_of_lt (by omega), ← List.getD_eq_getElem?_getD]) 0 k (by omega)
            have e : ∀ n, n ≤ k → abN (l.take k) 0 n = abN l 0 n := by
              intro n
              induction n with
              | zero => intro _; rfl
              | succ n ih =>
                intro hn
                have e1 : abN (l.take k) 0 (n + 1) = abN (l.take k) 0 n + if 0 ≤ n then (l.take k).getD n 0 * 2 ^ n else 0 := rfl
                have e2 : abN l 0 (n + 1) = abN l 0 n + if 0 ≤ n then l.getD n 0 * 2 ^ n else 0 := rfl
                rw [e1, e2, ih (by omega), List.getD_eq_getElem?_getD, List.getElem?_take_of_lt (by omega), ← List.getD_eq_getElem?_getD]
            rw [e k (Nat.le_refl _)] at this
            omega
          obtain ⟨p1, p2⟩ := pw_le (k := k) (by omega)
          obtain ⟨z, hz⟩ : ∃ z, z = l.getD k 0 := ⟨_, rfl⟩
          rw [← hz] at c0 ES hi
          unfold inC at hi
          obtain ⟨hi0, hi1⟩ := hi
          obtain ⟨a, ha⟩ : ∃ a, a = abN l 0 k := ⟨_, rfl⟩
          rw [← ha] at bd ES ⊢
          obtain ⟨p, hp⟩ : ∃ p, p = z * 2 ^ k := ⟨_, rfl⟩
          have e3 : 0 ≤ p := by rw [hp]; exact Int.mul_nonneg (by omega) (by omega)
          have e4 : p ≤ 65536 := by rw [hp]; exact Int.le_trans (Int.mul_le_mul hi1 p2 (by omega) (by omega)) (by omega)
          have e5 : wrap64 (z * 2 ^ k) = p := by rw [← hp]; unfold wrap64; omega
          have e6 : IntKind.i64.wrap (z * 2 ^ k) = p := by rw [← hp]; exact IntWalk.i64_in _ (by omega)
          rw [← hp] at ES
          have e7 : wrap64 (a + p) = a + p := by unfold wrap64; omega
          clear hp ha hz N
          go_wp2
          go_roundw
          case rel => exact ⟨k + 1, by omega, by omega, by rw [ES.out], by go_num, by first | rfl | trivial, N2⟩
          case measure => simp [intOf]; omega
        · have DV := hide (show decide (valL l) = false from decide_eq_false fun v => hi (v.at_ (by omega)))
          have NV := hide (show ¬ valL l from fun v => hi (v.at_ (by omega)))
          generalize l.getD k 0 = z at *
          have hz : z < 0 ∨ (0 ≤ z ∧ 4096 < z) := by unfold inC at hi; omega
          clear hi
          rcases hz with hz | ⟨hz, hz2⟩
          · go_wp2
            exact ret_ib Try.results21 rfl rfl rfl ⟨⟨0, by rw [DV.out], fun v => absurd v NV.out⟩, rfl⟩
          · go_wp2
            exact ret_ib Try.results21 rfl rfl rfl ⟨⟨0, by rw [DV.out], fun v => absurd v NV.out⟩, rfl⟩
      · have h42 : ¬ (k : Int) ≤ 4 := by omega
        obtain rfl : k = 5 := by omega
        have DV := hide (show decide (valL l) = true from decide_eq_true fun j h5 hl => N.out j h5)
        go_wp2
        exact ret_ib Try.results21 rfl rfl rfl ⟨⟨abN l 0 5, by rw [DV.out], fun v => rfl⟩, rfl⟩
    · have hl2 : ¬ (k : Int) < (l.length : Int) := by omega
      obtain rfl : k = l.length := by omega
      have DV := hide (show decide (valL l) = true from decide_eq_true fun j h5 hl => N.out j hl)
      have EA := hide (show abN l 0 l.length = ab l 0 by have := abN_min l 0; rwa [Nat.min_eq_left hk5] at this)
      go_wp2
      exact ret_ib Try.results21 rfl rfl rfl ⟨⟨_, by rw [DV.out], fun v => EA.out⟩, rfl⟩
theorem wk_ok {m : Mk} (h : okM m) (f : Int) (r : Bool) : wkM m f r = decide (f < m.md ∨ (r = true ∧ f < m.hi)) := by
  unfold wkM
  exact decide_eq_decide.2 ⟨fun x => x.2, fun x => ⟨h, x⟩⟩
end Go.Proofs.Ytiopfeleaifpbab.Bd
