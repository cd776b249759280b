import Derived.Test.YtacehgcgkpolhaaDec
namespace Go.Proofs.Ytacehgcgkpolhaa.Pt
open Go Go.RowKit
set_option linter.unusedVariables false
def IdxEnd (x : Int) (l : List Int) (w : World) (e : Ending) (w' : World) : Prop := ∃ r : Int, e = .returned (.int .i64 r) ∧ (decide (0 ≤ r) = decide (x ∈ l)) ∧ w = w'
set_option maxHeartbeats 1000000 in
theorem index_any (g : Nat) (l : List Int) (x : Int) (w : World) (hl : l.length ≤ 100) (hc : ∀ k, k < l.length → w.cell? ⟨g, k, none⟩ = some (.int .i64 (l.getD k 0))) :
    Calls Try.prog 38 #[.slice (some ⟨g, 0, none⟩) l.length l.length, .int .i64 x] w (IdxEnd x l w) := by
  have HC := hide hc
  clear hc
  go_enter Try.func38, Try.ntmps38
  go_wp2
  go_loop [5, 8] (fun _ i => ∃ k : Nat, k ≤ l.length ∧ i = .int .i64 k ∧ Hid (∀ j, j < k → x ≠ l.getD j 0)) (fun _ i => l.length - (intOf i).toNat)
  case atStart => exact ⟨0, Nat.zero_le _, rfl, hide (fun j hj => absurd hj (by omega))⟩
  case round =>
    obtain ⟨k, hk, rfl, hno⟩ := hrel
    by_cases hlt : k < l.length
    · have hcell := HC.out k hlt
      by_cases he : x = l.getD k 0
      · have hb : (x == l.getD k 0) = true := by simpa using he
        have HE := hide he
        clear he
        obtain ⟨y, hy⟩ : ∃ y, y = l.getD k 0 := ⟨_, rfl⟩
        rw [← hy] at hcell hb
        have HY := hide hy
        clear hy
        go_wp2
        go_ret
        refine ⟨k, rfl, ?_, rfl⟩
        have hm : x ∈ l := by
          rw [HE.out, List.getD_eq_getElem?_getD, List.getElem?_eq_getElem hlt]
          exact List.getElem_mem hlt
        rw [decide_eq_true hm]
        exact decide_eq_true (by omega)
      · have hb : (x == l.getD k 0) = false := by simpa using he
        have HE := hide he
        clear he
        obtain ⟨y, hy⟩ : ∃ y, y = l.getD k 0 := ⟨_, rfl⟩
        rw [← hy] at hcell hb
        have HY := hide hy
        clear hy
        go_wp2
        go_round
        case rel =>
          refine ⟨k + 1, by omega, by go_num, hide fun j hj => ?_⟩
          rcases Nat.lt_or_ge j k with h1 | h1
          · exact hno.out j h1
          · obtain rfl : j = k := by omega
            exact HE.out
        case measure => simp [intOf]; omega
    · go_wp2
      go_ret
      refine ⟨-1, rfl, ?_, rfl⟩
      have hm : x ∉ l := fun h => by
        obtain ⟨j, hj, he⟩ := List.mem_iff_getElem.1 h
        refine hno.out j (by omega) ?_
        rw [List.getD_eq_getElem?_getD, List.getElem?_eq_getElem hj]
        exact he.symm
      rw [decide_eq_false hm]
      decide
theorem contains_any (g : Nat) (l : List Int) (x : Int) (w : World) (hl : l.length ≤ 100) (hc : ∀ k, k < l.length → w.cell? ⟨g, k, none⟩ = some (.int .i64 (l.getD k 0))) :
    Calls Try.prog 37 #[.slice (some ⟨g, 0, none⟩) l.length l.length, .int .i64 x] w fun e w' => e = .returned (.bool (decide (x ∈ l))) ∧ w = w' := by
  have H := hide (index_any g l x w hl hc)
  clear hc
  go_enter Try.func37, Try.ntmps37
  go_wp2_with fail
  refine H.out.mono ?_
  rintro e w' ⟨r, rfl, hr, rfl⟩
  have HR := hide hr
  clear hr
  go_wp2
  go_ret
  exact ⟨ret_bool HR.out, rfl⟩
theorem contains_1 (g : Nat) (a x : Int) (w : World) (h0 : w.cell? ⟨g, 0, none⟩ = some (.int .i64 a)) :
    Calls Try.prog 37 #[.slice (some ⟨g, 0, none⟩) 1 1, .int .i64 x] w fun e w' => e = .returned (.bool (x == a)) ∧ w = w' := by
  refine (contains_any g [a] x w (by simp) ?_).mono fun e w' ⟨he, hw⟩ => ⟨by rw [he]; exact ret_bool (by rw [Bool.eq_iff_iff]; simp), hw⟩
  intro k hk
  obtain rfl : k = 0 := by simp at hk; exact hk
  exact h0
theorem contains_2 (g : Nat) (a b x : Int) (w : World) (h0 : w.cell? ⟨g, 0, none⟩ = some (.int .i64 a)) (h1 : w.cell? ⟨g, 1, none⟩ = some (.int .i64 b)) :
    Calls Try.prog 37 #[.slice (some ⟨g, 0, none⟩) 2 2, .int .i64 x] w fun e w' => e = .returned (.bool (x == a || x == b)) ∧ w = w' := by
  refine (contains_any g [a, b] x w (by simp) ?_).mono fun e w' ⟨he, hw⟩ => ⟨by rw [he]; exact ret_bool (by rw [Bool.eq_iff_iff]; simp), hw⟩
  intro k hk
  rcases (by simp at hk; omega : k = 0 ∨ k = 1) with rfl | rfl
  · exact h0
  · exact h1
end Go.Proofs.Ytacehgcgkpolhaa.Pt
