import Derived.Test.YtcndbehgklkiiaaAFn1
namespace Go.Proofs.Ytcndbehgklkiiaa.Ac
open Go Go.RowKit
set_option linter.unusedVariables false
set_option linter.unusedSimpArgs false
/-- the sums that kids computes are small -/
theorem kc_bd {L : List A5} {x : Int} {f : Nat → Int} (n : Nat) (h8 : n ≤ 8) (h : ∀ i, i < n → inr (f i)) : 0 ≤ kc L x f n ∧ kc L x f n ≤ 8388608 := by
  have h1 := kc_nonneg (L := L) (x := x) (f := f) n (fun i hi _ _ => (h i hi).1)
  have h2 := kc_le (L := L) (x := x) (f := f) 1048576 (by omega) n (fun i hi => (h i hi).2)
  omega
theorem kc_yes {L : List A5} {x : Int} {f : Nat → Int} {k : Nat} (h0 : 0 < k) (h : pa L k = x) : kc L x f (k + 1) = kc L x f k + f k := by show _ + (if _ then _ else _) = _; rw [if_pos ⟨h0, h⟩]
theorem kc_no {L : List A5} {x : Int} {f : Nat → Int} {k : Nat} (h : pa L k ≠ x) : kc L x f (k + 1) = kc L x f k := by show _ + (if _ then _ else _) = _; rw [if_neg (fun g => h g.2)]; omega
theorem kc_1 {L : List A5} {x : Int} {f : Nat → Int} : kc L x f 1 = 0 := by show (0 : Int) + (if _ then _ else _) = 0; rw [if_neg (fun h => Nat.lt_irrefl 0 h.1)]; rfl
set_option maxRecDepth 100000 in
set_option maxHeartbeats 4000000 in
theorem kids_any (A : Option Addr) (cp : Nat) (L : List A5) (x : Int) (w : World) (hr : As w A L) (h1 : 1 ≤ L.length) (h8 : L.length ≤ 8) (hu : ∀ i, i < L.length → inr (us L i)) :
    Calls Try.prog 46 #[.slice A L.length cp, .int .i64 x] w fun e w' => e = .returned (.int .i64 (kc L x (us L) L.length)) ∧ w = w' := by
  have HR := hide hr
  have HU := hide hu
  have K1 := hide (kc_1 (L := L) (x := x) (f := us L))
  clear hr hu
  go_enter Try.func46, Try.ntmps46
  go_wp2
  go_loopw [5, 6] (fun s c wr => ∃ k : Nat, 1 ≤ k ∧ k ≤ L.length ∧ c = .int .i64 k ∧ s = .int .i64 (kc L x (us L) k) ∧ wr = w) (fun _ c _ => L.length - (intOf c).toNat)
  case atStart => exact ⟨1, by omega, h1, rfl, by rw [K1.out], rfl⟩
  case round =>
    obtain ⟨k, hk1, hk, rfl, rfl, rfl⟩ := hrel
    by_cases hlt : k < L.length
    · have hl2 : (k : Int) < (L.length : Int) := by omega
      have hk0 : (0 : Int) ≤ (k : Int) := by omega
      have bd := kc_bd (L := L) (x := x) k (by omega) (fun i hi => HU.out i (by omega))
      have ub := HU.out k hlt
      unfold inr at ub
      obtain ⟨b, off, rfl, hbl, y0, y1, y2, y3, y4⟩ := HR.out.cells (brefl _) hlt
      clear y2 y3 y4
      by_cases he : pa L k = x
      · have E := hide (kc_yes (f := us L) (by omega) he)
        rw [he] at y0
        clear he
        generalize us L k = u at *
        generalize kc L x (us L) k = s at *
        go_wp2
        go_roundw
        case rel => exact ⟨k + 1, by omega, by omega, by go_num, by rw [E.out], trivial⟩
        case measure => simp [intOf]; omega
      · have E := hide (kc_no (f := us L) he)
        have de : (pa L k == x) = false := by simpa using he
        clear he
        generalize pa L k = p at *
        generalize us L k = u at *
        generalize kc L x (us L) k = s at *
        go_wp2
        go_roundw
        case rel => exact ⟨k + 1, by omega, by omega, by go_num, by rw [E.out], trivial⟩
        case measure => simp [intOf]; omega
    · obtain rfl : k = L.length := by omega
      go_wp2
      go_ret
      exact ⟨rfl, rfl⟩
/-- the least of some numbers, as far as its sign goes -/
def MinP (l : Is) (w : World) (e : Ending) (w' : World) : Prop := ∃ m : Int, e = .returned (.int .i64 m) ∧ ((0 ≤ m) ↔ ∀ j, j < l.length → 0 ≤ l.getD j 0) ∧ w = w'
theorem min_one (l : Is) : (0 ≤ l.getD 0 0) ↔ ∀ j, j < 1 → 0 ≤ l.getD j 0 :=
  ⟨fun h j hj => by
    obtain rfl : j = 0 := by omega
    exact h, fun h => h 0 (by omega)⟩
theorem min_next {l : Is} {k : Nat} {m : Int} (h : (0 ≤ m) ↔ ∀ j, j < k → 0 ≤ l.getD j 0) : (0 ≤ if l.getD k 0 < m then l.getD k 0 else m) ↔ ∀ j, j < k + 1 → 0 ≤ l.getD j 0 := by
  constructor
  · intro h0 j hj
    by_cases e : j = k
    · rw [e]; split at h0 <;> omega
    · exact h.1 (by split at h0 <;> omega) j (by omega)
  · intro h0
    have := h.2 (fun j hj => h0 j (by omega))
    have := h0 k (by omega)
    split <;> omega
set_option maxRecDepth 100000 in
set_option maxHeartbeats 4000000 in
theorem min_any (A : Option Addr) (cp : Nat) (l : Is) (w : World) (hr : Bi w A l) (h1 : 1 ≤ l.length) (h8 : l.length ≤ 1000) :
    Calls Try.prog 52 #[.slice A l.length cp] w (MinP l w) := by
  have HR := hide hr
  obtain ⟨b0, off0, hA, hbl0, z0⟩ := hr.cells (brefl w) (show 0 < l.length by omega)
  have h1' : ¬ (l.length : Int) < 1 := by omega
  have h1i : 1 ≤ (l.length : Int) := by omega
  have HA := hide hA
  subst hA
  clear hr
  have S := hide (min_one l)
  rw [Nat.add_zero] at z0
  generalize l.getD 0 0 = a at *
  go_enter Try.func52, Try.ntmps52
  go_wp2
  clear z0
  go_loopw [3, 4] (fun s c wr => ∃ (k : Nat) (m : Int), 1 ≤ k ∧ k ≤ l.length ∧ c = .int .i64 k ∧ s = .int .i64 m ∧ Hid ((0 ≤ m) ↔ ∀ j, j < k → 0 ≤ l.getD j 0) ∧ wr = w) (fun _ c _ => l.length - (intOf c).toNat)
  case atStart => exact ⟨1, a, by omega, h1, rfl, rfl, S, rfl⟩
  case round =>
    clear S
    obtain ⟨k, m, hk1, hk, rfl, rfl, S, rfl⟩ := hrel
    by_cases hlt : k < l.length
    · have hl2 : (k : Int) < (l.length : Int) := by omega
      have hk0 : (0 : Int) ≤ (k : Int) := by omega
      obtain ⟨b, off, eA, hbl, y0⟩ := HR.out.cells (brefl _) hlt
      injection eA with eA
      injection eA with e1 e2
      subst e1 e2
      have S2 := hide (min_next S.out)
      generalize l.getD k 0 = z at *
      go_wp2
      all_goals
        go_roundw
        case rel => exact ⟨k + 1, _, by omega, by omega, by go_num, rfl, S2, trivial⟩
        case measure => simp [intOf]; omega
    · obtain rfl : k = l.length := by omega
      go_wp2
      go_ret
      exact ⟨m, rfl, S.out, rfl⟩
end Go.Proofs.Ytcndbehgklkiiaa.Ac
