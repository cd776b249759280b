import Derived.Test.YtiopfeleaifpbaaRp
namespace Go.Proofs.Ytiopfeleaifpbaa.Bd
open Go Go.RowKit Go.Sort Go.Lib
set_option linter.unusedVariables false
set_option linter.unusedSimpArgs false
theorem few_any (A : Option Addr) (n c : Nat) (m : Int) (w : World) : Calls Try.prog 11 #[.slice A n c, .int .i64 m] w fun e w' => e = .returned (.bool (decide ((n : Int) ≤ m))) ∧ w = w' := by
  go_enter Try.func11, Try.ntmps11
  go_wp2
  go_ret
  exact ⟨rfl, rfl⟩
theorem eq_next {a b : Is} {k : Nat} (ha : k < a.length) (hb : k < b.length) (h : a.take k = b.take k) (he : a.getD k 0 = b.getD k 0) : a.take (k + 1) = b.take (k + 1) := by rw [take_next ha, take_next hb, h, he]
set_option maxHeartbeats 4000000 in
theorem same_any (A B : Option Addr) (c d : Nat) (a b : Is) (w : World) (h1 : Bi w A a) (h2 : Bi w B b) (hn : a.length ≤ 9223372036854775807) : Calls Try.prog 19 #[.slice A a.length c, .slice B b.length d] w fun e w' => e = .returned (.bool (decide (a = b))) ∧ Below w.heap.size w w' := by
  have H1 := hide h1
  have H2 := hide h2
  have K0 := hide (brefl w)
  clear h1 h2
  by_cases hl : a.length = b.length
  · have HL := hide hl
    rw [← hl]
    have hne : ((a.length : Int) != (a.length : Int)) = false := by simp
    clear hl
    go_enter Try.func19, Try.ntmps19
    go_wp2
    go_loopw [5] (fun i wr => ∃ k : Nat, k ≤ a.length ∧ i = .int .i64 k ∧ Hid (a.take k = b.take k) ∧ Hid (Below w.heap.size w wr)) (fun i _ => a.length - (intOf i).toNat)
    case atStart => exact ⟨0, Nat.zero_le _, rfl, hide rfl, K0⟩
    case round =>
      clear K0
      obtain ⟨k, hk, rfl, N, K⟩ := hrel
      by_cases hlt : k < a.length
      · have hl2 : (k : Int) < (a.length : Int) := by omega
        have hk0 : (0 : Int) ≤ (k : Int) := by omega
        obtain ⟨b1, o1, rfl, _, x1⟩ := H1.out.cells K.out hlt
        obtain ⟨b2, o2, rfl, _, x2⟩ := H2.out.cells K.out (show k < b.length by have := HL.out; omega)
        by_cases he : a.getD k 0 = b.getD k 0
        · have N2 := hide (eq_next hlt (by have := HL.out; omega) N.out he)
          rw [← he] at x2
          clear he N
          generalize a.getD k 0 = x at *
          go_wp2
          go_quiet (fail)
          go_wp2
          go_roundw
          case rel => exact ⟨k + 1, by omega, by go_num, N2, hide (below_drewN K.out _)⟩
          case measure => simp [intOf]; omega
        · have E := hide (show decide (a = b) = false from decide_eq_false (fun e => he (by rw [e])))
          have dn : (a.getD k 0 != b.getD k 0) = true := by simpa using he
          clear he N
          generalize a.getD k 0 = x at *
          generalize b.getD k 0 = y at *
          go_wp2
          go_quiet (fail)
          go_wp2
          go_ret
          exact ⟨ret_bool E.out.symm, below_drewN K.out _⟩
      · obtain rfl : k = a.length := by omega
        have E := hide (show decide (a = b) = true from decide_eq_true (by have e := N.out; rwa [List.take_length, HL.out, List.take_length] at e))
        go_wp2
        go_ret
        exact ⟨ret_bool E.out.symm, K.out⟩
  · have E := hide (show decide (a = b) = false from decide_eq_false (fun e => hl (by rw [e])))
    have hne : ((a.length : Int) != (b.length : Int)) = true := by simp only [bne_iff_ne, ne_eq]; omega
    clear hl
    go_enter Try.func19, Try.ntmps19
    go_wp2
    go_ret
    exact ⟨ret_bool E.out.symm, K0.out⟩
-- ZONES THAT ARE WRITTEN OUT
def zp (n k : Int) : Zo := ⟨⟨n, k, 0, 0, 0⟩, nv, nf⟩
def zcl (Z : List Zo) : List Value := Z.flatMap fun z => (znC z.p z.v).toList
theorem zcl_at : ∀ {Z : List Zo} {k j : Nat}, k < Z.length → j < 10 → (zcl Z)[k * 10 + j]? = (znC (zAt Z k).p (zAt Z k).v)[j]?
  | [], _, _, h, _ => absurd h (by simp)
  | z :: Z, 0, j, _, hj => by
    show ((znC z.p z.v).toList ++ zcl Z)[0 * 10 + j]? = _
    rw [Nat.zero_mul, Nat.zero_add, List.getElem?_append_left (by simpa [znC_size] using hj)]
    simp [zAt]
  | z :: Z, k + 1, j, h, hj => by
    show ((znC z.p z.v).toList ++ zcl Z)[(k + 1) * 10 + j]? = _
    have hs : (znC z.p z.v).toList.length = 10 := by simp [znC_size]
    rw [List.getElem?_append_right (by rw [hs]; omega), hs, show (k + 1) * 10 + j - 10 = k * 10 + j by omega, zcl_at (by simpa using h) hj]
    simp [zAt]
theorem zs_row {w : World} {g : Nat} {Z : List Zo} (h : Box w g 41 (zcl Z).toArray) : Zs w (some ⟨g, 0, none⟩) Z := fun _ => ⟨g, 0, rfl, h.lt, fun k hk j hj => by
  rw [Nat.zero_add, h.cell (k * 10 + j), List.getElem?_toArray]
  exact zcl_at hk hj⟩
theorem i64_0 : i64r 0 := by constructor <;> decide
theorem zin_plain (w : World) (n k : Int) (hn : i64r n) (hk : i64r k) : ZIn w ⟨n, k, 0, 0, 0⟩ nv nf := ⟨⟨hn, hk, i64_0, i64_0, i64_0⟩, fun _ _ => ⟨none, 0, rfl, Nat.le_refl _, Bi.nil _ _⟩, fun _ _ f hf => absurd hf (by simp [nf]), fun _ _ => by simp [nf]⟩
def Zw : List Zo := [zp 0 0, zp 0 1, zp 2 0, zp 1 1]
theorem zis_w (w : World) : ZIs w Zw := fun k hk => by
  have hk4 : k < 4 := hk
  rcases (by omega : k = 0 ∨ k = 1 ∨ k = 2 ∨ k = 3) with rfl | rfl | rfl | rfl <;> exact zin_plain w _ _ (by constructor <;> decide) (by constructor <;> decide)
theorem zis_4 (w : World) : ZIs w [zp 4 0] := fun k hk => by
  have hk4 : k < 1 := hk
  obtain rfl : k = 0 := by omega
  exact zin_plain w _ _ (by constructor <;> decide) (by constructor <;> decide)
theorem w_n : nE Zw 1 = 0 ∧ nR Zw 1 = [1, 0, 2] := by decide +kernel
theorem w_u : oR Zw 1 false = [3, 1, 0, 2] := by decide +kernel
theorem w_k : oR Zw 1 true = [0, 2] := by decide +kernel
theorem w_b : pkE Zw ⟨2, 5, 0⟩ 1 = 0 ∧ pR Zw ⟨2, 5, 0⟩ 1 false = [1, 0, 2] := by decide +kernel
theorem w_i : pkE Zw ⟨3, 6, 3⟩ 0 = 0 ∧ pR Zw ⟨3, 6, 3⟩ 0 false = [2, 3, 1, 0] := by decide +kernel
theorem w_c : chE [zp 4 0] = 2 := by decide +kernel
end Go.Proofs.Ytiopfeleaifpbaa.Bd
