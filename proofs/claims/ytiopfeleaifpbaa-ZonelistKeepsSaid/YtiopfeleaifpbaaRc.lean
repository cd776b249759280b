import Derived.Test.YtiopfeleaifpbaaZx
namespace Go.Proofs.Ytiopfeleaifpbaa.Bd
open Go Go.RowKit
set_option linter.unusedVariables false
set_option linter.unusedSimpArgs false
set_option maxRecDepth 100000 in
set_option maxHeartbeats 8000000 in
theorem rcheck_any (A : Option Addr) (cp : Nat) (Z : List Zo) (w : World) (hr : Zs w A Z) (hn : Z.length ≤ 9223372036854775807) : Calls Try.prog 14 #[.slice A Z.length cp] w fun e w' => e = .returned (.int .i64 (chE Z)) ∧ w = w' := by
  have HR := hide hr
  clear hr
  by_cases h6 : 6 < Z.length
  · have d6 : (6 : Int) < (Z.length : Int) := by omega
    have E := hide (chE_9 h6)
    go_enter Try.func14, Try.ntmps14
    go_wp2
    go_ret
    exact ⟨ret_int E.out.symm, rfl⟩
  · have d6 : ¬ (6 : Int) < (Z.length : Int) := by omega
    go_enter Try.func14, Try.ntmps14
    go_wp2
    go_loopw [3] (fun c wr => ∃ k : Nat, k ≤ Z.length ∧ c = .int .i64 k ∧ wr = w ∧ Hid (chF Z k = 0)) (fun c _ => Z.length - (intOf c).toNat)
    case atStart => exact ⟨0, Nat.zero_le _, rfl, rfl, hide rfl⟩
    case round =>
      obtain ⟨k, hk, rfl, rfl, N⟩ := hrel
      by_cases hlt : k < Z.length
      · have hl2 : (k : Int) < (Z.length : Int) := by omega
        have hk0 : (0 : Int) ≤ (k : Int) := by omega
        obtain ⟨b, off, rfl, hbl, hcs⟩ := HR.out.cells (brefl _) hlt
        have EX := hide (fun (e : Int) (g : zE (nd Z k) (kd Z k) = e) (h0 : e ≠ 0) => chE_at h6 hlt N.out g h0)
        have NX := hide (chF_next N.out)
        have y0 : wr.cell? ⟨b, off + k * 10, none⟩ = some (.int .i64 (nd Z k)) := hcs 0 (by omega)
        have y1 : wr.cell? ⟨b, off + k * 10 + 1, none⟩ = some (.int .i64 (kd Z k)) := hcs 1 (by omega)
        clear hcs N
        generalize nd Z k = nd at *
        generalize kd Z k = kd at *
        by_cases hi0 : nd < 0
        · have E := hide (EX.out 2 (zE_2 (by omega)) (by decide))
          go_wp2
          go_ret
          exact ⟨ret_int E.out.symm, rfl⟩
        · by_cases hi4 : 4 ≤ nd
          · have E := hide (EX.out 2 (zE_2 (by omega)) (by decide))
            go_wp2
            go_ret
            exact ⟨ret_int E.out.symm, rfl⟩
          · have hi : 0 ≤ nd ∧ nd < 4 := by omega
            by_cases hk0' : kd = 0
            · have NX2 := hide (NX.out.trans (zE_0 hi (Or.inl hk0')))
              subst hk0'
              clear hi
              go_wp2
              go_roundw
              case rel => exact ⟨k + 1, by omega, by go_num, trivial, NX2⟩
              case measure => simp [intOf]; omega
            · by_cases hk1 : kd = 1
              · have NX2 := hide (NX.out.trans (zE_0 hi (Or.inr hk1)))
                subst hk1
                clear hi hk0'
                go_wp2
                go_roundw
                case rel => exact ⟨k + 1, by omega, by go_num, trivial, NX2⟩
                case measure => simp [intOf]; omega
              · have dk : (kd != 0) = true := by simpa using hk0'
                have dk1 : (kd != 1) = true := by simpa using hk1
                have E := hide (EX.out 1 (zE_1 hi (by omega)) (by decide))
                clear hi
                go_wp2
                go_ret
                exact ⟨ret_int E.out.symm, rfl⟩
      · obtain rfl : k = Z.length := by omega
        have E := hide (chE_0 h6 N.out)
        go_wp2
        go_ret
        exact ⟨ret_int E.out.symm, rfl⟩
/-- a node has a zone -/
def hs (Z : List Zo) (n : Int) : Bool := decide (∃ k, k < Z.length ∧ nd Z k = n)
theorem hs_yes {Z : List Zo} {n : Int} {k : Nat} (hk : k < Z.length) (h : nd Z k = n) : hs Z n = true := decide_eq_true ⟨k, hk, h⟩
theorem hs_no {Z : List Zo} {n : Int} (h : ∀ k, k < Z.length → nd Z k ≠ n) : hs Z n = false := decide_eq_false fun ⟨k, hk, e⟩ => h k hk e
theorem no_next {Z : List Zo} {n : Int} {k : Nat} (h : ∀ j, j < k → nd Z j ≠ n) (h2 : nd Z k ≠ n) : ∀ j, j < k + 1 → nd Z j ≠ n := fun j hj => by
  by_cases e : j = k
  · rw [e]; exact h2
  · exact h j (by omega)
set_option maxHeartbeats 4000000 in
theorem has_any (A : Option Addr) (cp : Nat) (Z : List Zo) (n : Int) (w : World) (hr : Zs w A Z) (hn : Z.length ≤ 9223372036854775807) : Calls Try.prog 31 #[.slice A Z.length cp, .int .i64 n] w fun e w' => e = .returned (.bool (hs Z n)) ∧ w = w' := by
  have HR := hide hr
  clear hr
  go_enter Try.func31, Try.ntmps31
  go_wp2
  go_loopw [5] (fun c wr => ∃ k : Nat, k ≤ Z.length ∧ c = .int .i64 k ∧ wr = w ∧ Hid (∀ j, j < k → nd Z j ≠ n)) (fun c _ => Z.length - (intOf c).toNat)
  case atStart => exact ⟨0, Nat.zero_le _, rfl, rfl, hide (fun j h => by omega)⟩
  case round =>
    obtain ⟨k, hk, rfl, rfl, N⟩ := hrel
    by_cases hlt : k < Z.length
    · have hl2 : (k : Int) < (Z.length : Int) := by omega
      have hk0 : (0 : Int) ≤ (k : Int) := by omega
      obtain ⟨b, off, rfl, hbl, hcs⟩ := HR.out.cells (brefl _) hlt
      have y0 : wr.cell? ⟨b, off + k * 10, none⟩ = some (.int .i64 (nd Z k)) := hcs 0 (by omega)
      clear hcs
      by_cases he : nd Z k = n
      · have E := hide (hs_yes hlt he)
        rw [he] at y0
        clear he
        go_wp2
        go_ret
        exact ⟨ret_bool E.out.symm, rfl⟩
      · have N2 := hide (no_next N.out he)
        have de : (nd Z k == n) = false := by simpa using he
        clear he
        generalize nd Z k = m at *
        go_wp2
        go_roundw
        case rel => exact ⟨k + 1, by omega, by go_num, trivial, N2⟩
        case measure => simp [intOf]; omega
    · obtain rfl : k = Z.length := by omega
      have E := hide (hs_no N.out)
      go_wp2
      go_ret
      exact ⟨ret_bool E.out.symm, rfl⟩
end Go.Proofs.Ytiopfeleaifpbaa.Bd
