import Derived.Test.YtncjicggolmofaaMath
import Derived.Deep.Cut
import Derived.Deep.DeepCutAuto
import Derived.BigQuiet
namespace Go.Proofs.Ytncjicggolmofaa.Sb
open Go Go.RowKit
set_option linter.unusedVariables false
set_option linter.unusedSimpArgs false
theorem isnum_any (n : Int) (w : World) : Calls Try.prog 33 #[.int .i64 n] w fun e w' => e = .returned (.bool (decide (1 ≤ n ∧ n ≤ 32))) ∧ w = w' := by
  by_cases h1 : 1 ≤ n
  · by_cases h2 : n ≤ 32
    · rw [decide_eq_true (show 1 ≤ n ∧ n ≤ 32 from ⟨h1, h2⟩)]
      go_enter Try.func33, Try.ntmps33
      go_wp2
      go_ret
      exact ⟨rfl, rfl⟩
    · rw [decide_eq_false (show ¬ (1 ≤ n ∧ n ≤ 32) from fun h => h2 h.2)]
      go_enter Try.func33, Try.ntmps33
      go_wp2
      go_ret
      exact ⟨rfl, rfl⟩
  · rw [decide_eq_false (show ¬ (1 ≤ n ∧ n ≤ 32) from fun h => h1 h.1)]
    go_enter Try.func33, Try.ntmps33
    go_wp2
    go_ret
    exact ⟨rfl, rfl⟩
theorem isfr_any (n : Int) (w : World) : Calls Try.prog 34 #[.int .i64 n] w fun e w' => e = .returned (.bool (decide (0 ≤ n ∧ n < 256))) ∧ w = w' := by
  by_cases h1 : 0 ≤ n
  · by_cases h2 : n < 256
    · rw [decide_eq_true (show 0 ≤ n ∧ n < 256 from ⟨h1, h2⟩)]
      go_enter Try.func34, Try.ntmps34
      go_wp2
      go_ret
      exact ⟨rfl, rfl⟩
    · rw [decide_eq_false (show ¬ (0 ≤ n ∧ n < 256) from fun h => h2 h.2)]
      go_enter Try.func34, Try.ntmps34
      go_wp2
      go_ret
      exact ⟨rfl, rfl⟩
  · rw [decide_eq_false (show ¬ (0 ≤ n ∧ n < 256) from fun h => h1 h.1)]
    go_enter Try.func34, Try.ntmps34
    go_wp2
    go_ret
    exact ⟨rfl, rfl⟩
/-- the place of the first flag that is set, or -1 -/
def fx (l : By) : Int := match l.findIdx? (fun y => y) with | some k => k | none => -1
theorem fx_hit {l : By} {k : Nat} (hk : k < l.length) (h : l.getD k false = true) (hb : ∀ j, j < k → l.getD j false = false) : fx l = k := by
  have g : ∀ {j : Nat} (hj : j < l.length), l.getD j false = l[j] := fun hj => by simp [List.getD, List.getElem?_eq_getElem hj]
  have e : l.findIdx? (fun y => y) = some k := by
    rw [List.findIdx?_eq_some_iff_getElem]
    refine ⟨hk, by rw [← g hk]; exact h, fun j hj => ?_⟩
    have := hb j hj
    rw [g (show j < l.length by omega)] at this
    simpa using this
  unfold fx
  rw [e]
theorem fx_miss {l : By} (hb : ∀ j, j < l.length → l.getD j false = false) : fx l = -1 := by
  have e : l.findIdx? (fun y => y) = none := by
    rw [List.findIdx?_eq_none_iff]
    intro y hy
    obtain ⟨j, hj, rfl⟩ := List.mem_iff_getElem.1 hy
    have := hb j hj
    simp [List.getD, List.getElem?_eq_getElem hj] at this
    simpa using this
  unfold fx
  rw [e]
theorem fx_cnt (l : By) : (0 ≤ fx l ∧ cnt l ≠ 0) ∨ (fx l = -1 ∧ cnt l = 0) := by
  unfold fx
  cases e : l.findIdx? (fun y => y) with
  | none =>
    rw [List.findIdx?_eq_none_iff] at e
    refine Or.inr ⟨rfl, cnt_zero fun k hk => ?_⟩
    rw [List.getD_eq_getElem?_getD, List.getElem?_eq_getElem hk]
    exact e _ (List.getElem_mem hk)
  | some k =>
    rw [List.findIdx?_eq_some_iff_getElem] at e
    obtain ⟨hk, h1, _⟩ := e
    refine Or.inl ⟨by show (0 : Int) ≤ (k : Int); omega, cnt_pos hk ?_⟩
    rw [List.getD_eq_getElem?_getD, List.getElem?_eq_getElem hk]
    exact h1
set_option maxHeartbeats 2000000 in
theorem index_any (A : Option Addr) (c : Nat) (l : By) (w : World) (h : Bs w A l) (hn : l.length ≤ 9223372036854775807) : Calls Try.prog 60 #[.slice A l.length c, .bool true] w fun e w' => e = .returned (.int .i64 (fx l)) ∧ w = w' := by
  have H := hide h
  clear h
  go_enter Try.func60, Try.ntmps60
  go_wp2
  go_loopw [5, 8] (fun _ i wr => ∃ k : Nat, k ≤ l.length ∧ i = .int .i64 k ∧ wr = w ∧ Hid (∀ j, j < k → l.getD j false = false)) (fun _ i _ => l.length - (intOf i).toNat)
  case atStart => exact ⟨0, Nat.zero_le _, rfl, rfl, hide (fun j hj => by omega)⟩
  case round =>
    obtain ⟨k, hk, rfl, rfl, N⟩ := hrel
    by_cases hlt : k < l.length
    · have hl2 : (k : Int) < (l.length : Int) := by omega
      have hk0 : (0 : Int) ≤ (k : Int) := by omega
      obtain ⟨b, o, rfl, hb, xx⟩ := H.out.cells (brefl _) hlt
      cases he : l.getD k false
      · have N2 := hide (show ∀ j, j < k + 1 → l.getD j false = false from fun j hj => by
          by_cases e : j = k
          · rw [e]; exact he
          · exact N.out j (by omega))
        rw [he] at xx
        clear he N
        go_wp2
        go_roundw
        case rel => exact ⟨k + 1, by omega, by go_num, trivial, N2⟩
        case measure => simp [intOf]; omega
      · have E := hide (fx_hit hlt he N.out)
        rw [he] at xx
        clear he
        go_wp2
        go_ret
        exact ⟨ret_int E.out.symm, rfl⟩
    · obtain rfl : k = l.length := by omega
      have E := hide (fx_miss N.out)
      go_wp2
      go_ret
      exact ⟨ret_int E.out.symm, rfl⟩
theorem contains_any (A : Option Addr) (c : Nat) (l : By) (w : World) (h : Bs w A l) (hn : l.length ≤ 9223372036854775807) : Calls Try.prog 49 #[.slice A l.length c, .bool true] w fun e w' => e = .returned (.bool (decide (cnt l ≠ 0))) ∧ w = w' := by
  have IX := hide (index_any A c l w h hn)
  clear h
  rcases fx_cnt l with ⟨h1, h2⟩ | ⟨h1, h2⟩
  · have E := hide (decide_eq_true h2)
    generalize fx l = x at *
    clear h2
    go_enter Try.func49, Try.ntmps49
    go_wp2_with (go_at_call 60; refine IX.out.mono ?_; rintro e w' ⟨rfl, rfl⟩)
    go_ret
    exact ⟨ret_bool E.out.symm, rfl⟩
  · have E := hide (show decide (cnt l ≠ 0) = false from decide_eq_false fun g => g h2)
    rw [h1] at IX
    clear h2 h1
    go_enter Try.func49, Try.ntmps49
    go_wp2_with (go_at_call 60; refine IX.out.mono ?_; rintro e w' ⟨rfl, rfl⟩)
    go_ret
    exact ⟨ret_bool E.out.symm, rfl⟩
theorem isempty_any (f : Int) (A : Option Addr) (c : Nat) (l : By) (w : World) (h : Bs w A l) (hn : l.length ≤ 9223372036854775807) : Calls Try.prog 35 #[.agg #[.int .i64 f, .slice A l.length c]] w fun e w' => e = .returned (.bool (decide (cnt l = 0))) ∧ Below w.heap.size w w' := by
  have K := hide (bal (brefl w) (.cells #[.int .i64 f, .slice A l.length c] 52))
  have CT := hide (fun w' (hb : Below w.heap.size w w') => contains_any A c l w' (h.below hb) hn)
  have E := hide (show decide (cnt l = 0) = !decide (cnt l ≠ 0) by by_cases h : cnt l = 0 <;> simp [h])
  clear h
  generalize decide (cnt l ≠ 0) = b at *
  go_enter Try.func35, Try.ntmps35
  go_wp2_with (go_at_call 49; refine (CT.out _ K.out).mono ?_; rintro e w' ⟨rfl, rfl⟩)
  go_ret
  exact ⟨ret_bool E.out.symm, K.out⟩
set_option maxHeartbeats 2000000 in
theorem used_any (f : Int) (A : Option Addr) (c : Nat) (l : By) (w : World) (h : Bs w A l) (hn : l.length ≤ 9223372036854775807) : Calls Try.prog 36 #[.agg #[.int .i64 f, .slice A l.length c]] w fun e w' => e = .returned (.int .i64 ((cnt l : Nat) : Int)) ∧ Below w.heap.size w w' := by
  have K := hide (bal (brefl w) (.cells #[.int .i64 f, .slice A l.length c] 52))
  have X := hide (Box.new w 52 #[.int .i64 f, .slice A l.length c])
  have H := hide (h.below (bal (brefl w) (.cells #[.int .i64 f, .slice A l.length c] 52)))
  obtain ⟨g, hg⟩ : ∃ g, g = w.heap.size := ⟨_, rfl⟩
  obtain ⟨W0, hW0⟩ : ∃ W0, W0 = (w.alloc (.cells #[.int .i64 f, .slice A l.length c] 52)) := ⟨_, rfl⟩
  rw [← hg, ← hW0] at X
  rw [← hW0] at K H
  have x1 := X.out.cell 1
  simp at x1
  clear h X
  go_enter Try.func36, Try.ntmps36
  go_upto_region 1 with fail
  rw [← hg, ← hW0]
  clear hg hW0
  go_wp2
  go_loopw [3, 4] (fun a i wr => ∃ k : Nat, k ≤ l.length ∧ i = .int .i64 k ∧ a = .int .i64 ((cnt (l.take k) : Nat) : Int) ∧ W0 = wr) (fun _ i _ => l.length - (intOf i).toNat)
  case atStart => exact ⟨0, Nat.zero_le _, rfl, rfl, rfl⟩
  case round =>
    obtain ⟨k, hk, rfl, rfl, rfl⟩ := hrel
    by_cases hlt : k < l.length
    · have hl2 : (k : Int) < (l.length : Int) := by omega
      have hk0 : (0 : Int) ≤ (k : Int) := by omega
      obtain ⟨b, o, rfl, hb, xx⟩ := H.out.cells (brefl _) hlt
      have EC := hide (cnt_next hlt)
      have hcl : cnt (l.take k) ≤ k := Nat.le_trans List.count_le_length (by rw [List.length_take]; omega)
      obtain ⟨q, hq⟩ : ∃ q, q = cnt (l.take k) := ⟨_, rfl⟩
      rw [← hq] at EC hcl ⊢
      clear hq
      cases he : l.getD k false
      · rw [he] at xx EC
        clear he
        go_wp2
        go_roundw
        case rel => exact ⟨k + 1, by omega, by go_num, by rw [EC.out]; simp, trivial⟩
        case measure => simp [intOf]; omega
      · rw [he] at xx EC
        clear he
        go_wp2
        go_roundw
        case rel => exact ⟨k + 1, by omega, by go_num, by rw [EC.out]; simp only [if_true]; go_num, trivial⟩
        case measure => simp [intOf]; omega
    · obtain rfl : k = l.length := by omega
      rw [List.take_length]
      go_wp2
      go_ret
      exact ⟨rfl, K.out⟩
end Go.Proofs.Ytncjicggolmofaa.Sb
