import Derived.Test.YtiopfeleaifpbaaNc
namespace Go.Proofs.Ytiopfeleaifpbaa.Bd
open Go Go.RowKit Go.Sort Go.Lib
set_option linter.unusedVariables false
set_option linter.unusedSimpArgs false
/-- the place of a number in a list, or -1 -/
def ix (l : Is) (x : Int) : Int := match l.findIdx? (fun y => y == x) with | some k => k | none => -1
theorem ix_hit {l : Is} {x : Int} {k : Nat} (hk : k < l.length) (h : l.getD k 0 = x) (hb : ∀ j, j < k → l.getD j 0 ≠ x) : ix l x = k := by
  have g : ∀ {j : Nat} (hj : j < l.length), l.getD j 0 = l[j] := fun hj => by simp [List.getD, List.getElem?_eq_getElem hj]
  have e : l.findIdx? (fun y => y == x) = some k := by
    rw [List.findIdx?_eq_some_iff_getElem]
    refine ⟨hk, by rw [← g hk]; simpa using h, fun j hj => ?_⟩
    have := hb j hj
    rw [g (show j < l.length by omega)] at this
    simpa using this
  unfold ix
  rw [e]
theorem ix_miss {l : Is} {x : Int} (hb : ∀ j, j < l.length → l.getD j 0 ≠ x) : ix l x = -1 := by
  have e : l.findIdx? (fun y => y == x) = none := by
    rw [List.findIdx?_eq_none_iff]
    intro y hy
    obtain ⟨j, hj, rfl⟩ := List.mem_iff_getElem.1 hy
    have := hb j hj
    simp [List.getD, List.getElem?_eq_getElem hj] at this
    simpa using this
  unfold ix
  rw [e]
set_option maxHeartbeats 2000000 in
theorem index_any (A : Option Addr) (c : Nat) (l : Is) (x : Int) (w : World) (h : Bi w A l) (hn : l.length ≤ 9223372036854775807) : Calls Try.prog 33 #[.slice A l.length c, .int .i64 x] w fun e w' => e = .returned (.int .i64 (ix l x)) ∧ w = w' := by
  have H := hide h
  clear h
  go_enter Try.func33, Try.ntmps33
  go_wp2
  go_loopw [5, 8] (fun _ i wr => ∃ k : Nat, k ≤ l.length ∧ i = .int .i64 k ∧ wr = w ∧ Hid (∀ j, j < k → l.getD j 0 ≠ x)) (fun _ i _ => l.length - (intOf i).toNat)
  case atStart => exact ⟨0, Nat.zero_le _, rfl, rfl, hide (fun j hj => by omega)⟩
  case round =>
    obtain ⟨k, hk, rfl, rfl, N⟩ := hrel
    by_cases hlt : k < l.length
    · have hl2 : (k : Int) < (l.length : Int) := by omega
      have hk0 : (0 : Int) ≤ (k : Int) := by omega
      obtain ⟨b, o, rfl, hb, xx⟩ := H.out.cells (brefl _) hlt
      by_cases he : l.getD k 0 = x
      · have E := hide (ix_hit hlt he N.out)
        rw [he] at xx
        clear he
        go_wp2
        go_ret
        exact ⟨ret_int E.out.symm, rfl⟩
      · have N2 := hide (show ∀ j, j < k + 1 → l.getD j 0 ≠ x from fun j hj => by
          by_cases e : j = k
          · rw [e]; exact he
          · exact N.out j (by omega))
        have de : (x == l.getD k 0) = false := by simpa using fun e => he e.symm
        clear he N
        generalize l.getD k 0 = y at *
        go_wp2
        go_roundw
        case rel => exact ⟨k + 1, by omega, by go_num, trivial, N2⟩
        case measure => simp [intOf]; omega
    · obtain rfl : k = l.length := by omega
      have E := hide (ix_miss N.out)
      go_wp2
      go_ret
      exact ⟨ret_int E.out.symm, rfl⟩
end Go.Proofs.Ytiopfeleaifpbaa.Bd
