import Derived.Test.YtdpdlbonlpdkjaaDoorSpan
namespace Go.Proofs.YtdpdlbonlpdkjaaDoor.Bs
open Go Go.RowKit
/-- A slice that reads as a list of words, nil let in. -/
def Wd (w : World) (A : Option Addr) (ws : List Nat) : Prop :=
  ws ≠ [] → ∃ b off, A = some ⟨b, off, none⟩ ∧ b < w.heap.size ∧ ∀ (j x : Nat), ws[j]? = some x → w.cell? ⟨b, off + j, none⟩ = some (.int .u64 (x : Int))
theorem Wd.below {w w' : World} {A : Option Addr} {ws : List Nat} (h : Wd w A ws) (hb : Below w.heap.size w w') : Wd w' A ws := fun hn => by
  obtain ⟨b, off, e, hlt, hc⟩ := h hn
  exact ⟨b, off, e, Nat.lt_of_lt_of_le hlt hb.size, fun j x hj => (hb.cell (p := ⟨b, off + j, none⟩) hlt).trans (hc j x hj)⟩
theorem below_drewN {B : Nat} {a w : World} (h : Below B a w) (n : Nat) : Below B a (w.drewN n) := ⟨h.os, h.tape, h.output, h.size, h.block⟩
theorem span_0 (k t : Nat) (w : World) (h0 : k ≤ 64) (h2 : t ≤ 8192) :
    Calls Tryd.prog 34 #[.int .i64 k, .int .i64 0, .int .i64 t] w fun e w' => e = .returned (.int .u64 (spanN k 0 t)) ∧ ∃ q, w' = w.drewN q := span_any k 0 t w h0 (by omega) h2
theorem wc_is (s : Int) (n : Nat) (w : World) (h0 : 0 ≤ s) (h1 : s ≤ 4096) (hn : (s + 63) / 64 = (n : Int)) :
    Calls Tryd.prog 33 #[.int .i64 s] w fun e w' => e = .returned (.int .i64 (n : Int)) ∧ w = w' := by
  rw [← hn]
  clear hn
  go_enter Tryd.func33, Tryd.ntmps33
  go_wp2
  go_ret
  exact ⟨ret_int (by omega), rfl⟩
theorem check_range (s : Int) (A : Option Addr) (n c : Nat) (w : World) (h : s < 0 ∨ 4096 < s) :
    Calls Tryd.prog 14 #[.agg #[.int .i64 s, .slice A n c]] w fun e w' => e = .returned (.int .i64 2) ∧ Below w.heap.size w w' := by
  rcases h with h | h
  · go_enter Tryd.func14, Tryd.ntmps14
    go_wp2
    go_ret
    exact ⟨rfl, (Below.refl _ _).alloc (Nat.le_refl _) _⟩
  · go_enter Tryd.func14, Tryd.ntmps14
    go_wp2
    go_ret
    exact ⟨rfl, (Below.refl _ _).alloc (Nat.le_refl _) _⟩
theorem check_len (s : Int) (A : Option Addr) (n c : Nat) (w : World) (h0 : 0 ≤ s) (h1 : s ≤ 4096) (_hn : n ≤ 9223372036854775807) (h : (n : Int) ≠ (s + 63) / 64) :
    Calls Tryd.prog 14 #[.agg #[.int .i64 s, .slice A n c]] w fun e w' => e = .returned (.int .i64 3) ∧ Below w.heap.size w w' := by
  obtain ⟨k, hk⟩ : ∃ k : Nat, (s + 63) / 64 = (k : Int) := ⟨((s + 63) / 64).toNat, by omega⟩
  rw [hk] at h
  have H := hide hk
  have h2 : ((n : Int) == (k : Int)) = false := by simpa using h
  have h3 : ((n : Int) != (k : Int)) = true := by simpa using h
  have h4 : (n == k) = false := by simp; omega
  have h5 : (n != k) = true := by simp; omega
  clear hk h
  go_enter Tryd.func14, Tryd.ntmps14
  go_wp2_with (go_at_call 33; refine (wc_is s k _ h0 h1 H.out).mono ?_; rintro e w' ⟨rfl, rfl⟩)
  go_ret
  exact ⟨rfl, (Below.refl _ _).alloc (Nat.le_refl _) _⟩
theorem check_nil (A : Option Addr) (c : Nat) (w : World) :
    Calls Tryd.prog 14 #[.agg #[.int .i64 0, .slice A 0 c]] w fun e w' => e = .returned (.int .i64 0) ∧ Below w.heap.size w w' := by
  go_enter Tryd.func14, Tryd.ntmps14
  go_wp2_with (go_at_call 33; refine (wc_is 0 0 _ (by omega) (by omega) (by omega)).mono ?_; rintro e w' ⟨rfl, rfl⟩)
  go_quiet (fail)
  go_wp2
  go_ret
  exact ⟨rfl, below_drewN ((Below.refl _ _).alloc (Nat.le_refl _) _) _⟩
theorem andn_ok (x y : Nat) (hx : x < 2 ^ 64) (hy : y < 2 ^ 64) (h : x &&& (2 ^ 64 - 1 - y) = 0) : (bits .andNot .u64 (x : Int) (y : Int) == 0) = true ∧ (bits .andNot .u64 (x : Int) (y : Int) != 0) = false := by
  have e : bits .andNot .u64 (x : Int) (y : Int) = 0 := by rw [u64_andNot_nat x y (by omega) (by omega)]; exact_mod_cast h
  rw [e]; exact ⟨rfl, rfl⟩
theorem andn_no (x y : Nat) (hx : x < 2 ^ 64) (hy : y < 2 ^ 64) (h : x &&& (2 ^ 64 - 1 - y) ≠ 0) : (bits .andNot .u64 (x : Int) (y : Int) == 0) = false ∧ (bits .andNot .u64 (x : Int) (y : Int) != 0) = true := by
  have e : bits .andNot .u64 (x : Int) (y : Int) ≠ 0 := by rw [u64_andNot_nat x y (by omega) (by omega)]; exact_mod_cast h
  exact ⟨by simpa using e, by simpa using e⟩
theorem check_good (S m : Nat) (b off : Nat) (x : Nat) (c : Nat) (w : World) (hS : S ≤ 4096) (hm : (S + 63) / 64 = m + 1) (hb : b < w.heap.size) (hc : w.cell? ⟨b, off + m, none⟩ = some (.int .u64 (x : Int)))
    (hx : x < 2 ^ 64) (hv : x &&& (2 ^ 64 - 1 - spanN m 0 S) = 0) :
    Calls Tryd.prog 14 #[.agg #[.int .i64 S, .slice (some ⟨b, off, none⟩) (m + 1) c]] w fun e w' => e = .returned (.int .i64 0) ∧ Below w.heap.size w w' := by
  obtain ⟨e1, e2⟩ := andn_ok x _ hx (spanN_lt m 0 S) hv
  clear hv
  have H := hide hm
  have h63 : m ≤ 63 := by omega
  clear hm
  go_enter Tryd.func14, Tryd.ntmps14
  go_wp2_with (go_at_call 33; refine (wc_is S (m + 1) _ (by omega) (by omega) (by have := H.out; omega)).mono ?_; rintro e w' ⟨rfl, rfl⟩)
  go_quiet ((go_at_call 34; exact Calls.quiet_of (span_0 m S _ (by omega) (by omega))))
  go_wp2
  go_ret
  exact ⟨rfl, below_drewN ((Below.refl _ _).alloc (Nat.le_refl _) _) _⟩
theorem check_bad (S m : Nat) (b off : Nat) (x : Nat) (c : Nat) (w : World) (hS : S ≤ 4096) (hm : (S + 63) / 64 = m + 1) (hb : b < w.heap.size) (hc : w.cell? ⟨b, off + m, none⟩ = some (.int .u64 (x : Int)))
    (hx : x < 2 ^ 64) (hv : x &&& (2 ^ 64 - 1 - spanN m 0 S) ≠ 0) :
    Calls Tryd.prog 14 #[.agg #[.int .i64 S, .slice (some ⟨b, off, none⟩) (m + 1) c]] w fun e w' => e = .returned (.int .i64 3) ∧ Below w.heap.size w w' := by
  obtain ⟨e1, e2⟩ := andn_no x _ hx (spanN_lt m 0 S) hv
  clear hv
  have H := hide hm
  have h63 : m ≤ 63 := by omega
  clear hm
  go_enter Tryd.func14, Tryd.ntmps14
  go_wp2_with (go_at_call 33; refine (wc_is S (m + 1) _ (by omega) (by omega) (by have := H.out; omega)).mono ?_; rintro e w' ⟨rfl, rfl⟩)
  go_quiet ((go_at_call 34; exact Calls.quiet_of (span_0 m S _ (by omega) (by omega))))
  go_wp2
  go_ret
  exact ⟨rfl, below_drewN ((Below.refl _ _).alloc (Nat.le_refl _) _) _⟩
theorem getD_of {ws : List Nat} {i : Nat} (h : i < ws.length) : ws[i]? = some (ws.getD i 0) := by
  rw [List.getD_eq_getElem?_getD, List.getElem?_eq_getElem h]; rfl
theorem getD_lt {ws : List Nat} (hw : ∀ x ∈ ws, x < 2 ^ 64) (i : Nat) : ws.getD i 0 < 2 ^ 64 := by
  rw [List.getD_eq_getElem?_getD]
  by_cases h : i < ws.length
  · rw [List.getElem?_eq_getElem h]; exact hw _ (List.getElem_mem h)
  · rw [List.getElem?_eq_none (by omega)]; decide
/-- CHECK. -/
theorem check_any (s : Int) (A : Option Addr) (ws : List Nat) (c : Nat) (w : World) (hr : Wd w A ws) (hw : ∀ x ∈ ws, x < 2 ^ 64) (hn : ws.length ≤ 9223372036854775807) :
    Calls Tryd.prog 14 #[.agg #[.int .i64 s, .slice A ws.length c]] w fun e w' => e = .returned (.int .i64 (chk s ws)) ∧ Below w.heap.size w w' := by
  by_cases h1 : s < 0 ∨ 4096 < s
  · have : chk s ws = 2 := by unfold chk; rw [if_pos h1]
    rw [this]; exact check_range s A _ c w h1
  · by_cases h2 : ws.length = nw s.toNat
    · obtain ⟨S, rfl⟩ : ∃ S : Nat, s = (S : Int) := ⟨s.toNat, by omega⟩
      simp only [Int.toNat_natCast] at h2
      unfold nw at h2
      have hk : chk (S : Int) ws = if hiClear S ws = true then 0 else 3 := by
        unfold chk
        rw [if_neg h1, if_neg (by simp; exact h2)]
        simp
      by_cases h3 : ws.length = 0
      · have hS : S = 0 := by omega
        subst hS
        have hk2 : chk ((0 : Nat) : Int) ws = 0 := by
          rw [hk, if_pos]
          refine hiClear_iff.2 fun i _ => ?_
          exact bitAt_far ws i (by omega)
        rw [hk2, h3]
        exact check_nil A c w
      · obtain ⟨m, hm⟩ : ∃ m, ws.length = m + 1 := ⟨ws.length - 1, by omega⟩
        obtain ⟨b, off, rfl, hb, hc⟩ := hr (by intro e; simp [e] at h3)
        have hx := getD_lt hw m
        have hcell := hc m _ (getD_of (by omega))
        have hlw := last_word (s := S) (ws := ws) (by unfold nw; exact h2) (by omega) hw
        rw [show ws.length - 1 = m by omega] at hlw
        rw [hm, hk]
        by_cases hv : ws.getD m 0 &&& (2 ^ 64 - 1 - spanN m 0 S) = 0
        · rw [if_pos (hiClear_iff.2 (hlw.1 hv))]
          exact check_good S m b off _ c w (by omega) (by omega) hb hcell hx hv
        · rw [if_neg (fun h => hv (hlw.2 (hiClear_iff.1 h)))]
          exact check_bad S m b off _ c w (by omega) (by omega) hb hcell hx hv
    · have : chk s ws = 3 := by unfold chk; rw [if_neg h1, if_pos h2]
      rw [this]
      exact check_len s A _ c w (by omega) (by omega) hn (by unfold nw at h2; omega)
end Go.Proofs.YtdpdlbonlpdkjaaDoor.Bs
