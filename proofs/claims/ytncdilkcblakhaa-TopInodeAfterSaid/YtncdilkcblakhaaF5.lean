import Derived.Test.YtncdilkcblakhaaF4
import Derived.Laws.BytesArg
import Derived.Lib.Bytes
namespace Go.Proofs.Ytncdilkcblakhaa.In
open Go Go.RowKit
set_option linter.unusedVariables false
set_option linter.unusedSimpArgs false
theorem take_nextI {l : Is} {i : Nat} (h : i < l.length) : l.take (i + 1) = l.take i ++ [l.getD i 0] := by rw [List.take_succ_eq_append_getElem h, List.getD_eq_getElem?_getD, List.getElem?_eq_getElem h]; rfl
theorem eq_nextI {a b : Is} {k : Nat} (ha : k < a.length) (hb : k < b.length) (h : a.take k = b.take k) (he : a.getD k 0 = b.getD k 0) : a.take (k + 1) = b.take (k + 1) := by rw [take_nextI ha, take_nextI hb, h, he]
theorem take_nextF {l : Fs} {i : Nat} (h : i < l.length) : l.take (i + 1) = l.take i ++ [l.getD i false] := by rw [List.take_succ_eq_append_getElem h, List.getD_eq_getElem?_getD, List.getElem?_eq_getElem h]; rfl
theorem eq_nextF {a b : Fs} {k : Nat} (ha : k < a.length) (hb : k < b.length) (h : a.take k = b.take k) (he : a.getD k false = b.getD k false) : a.take (k + 1) = b.take (k + 1) := by rw [take_nextF ha, take_nextF hb, h, he]
set_option maxHeartbeats 4000000 in
theorem sameb_any (A B : Option Addr) (c d : Nat) (a b : By) (w : World) (h1 : BsB w A a) (h2 : BsB w B b) (hn : a.length ≤ 9223372036854775807) : Calls Try.prog 16 #[.slice A a.length c, .slice B b.length d] w fun e w' => e = .returned (.bool (decide (a = b))) ∧ Below w.heap.size w w' := by
  have H1 := hide h1
  have H2 := hide h2
  have K0 := hide (brefl w)
  clear h1 h2
  by_cases hl : a.length = b.length
  · have HL := hide hl
    rw [← hl]
    have hne : ((a.length : Int) != (a.length : Int)) = false := by simp
    clear hl
    go_enter Try.func16, Try.ntmps16
    go_wp2
    go_loopw [5] (fun i wr => ∃ k : Nat, k ≤ a.length ∧ i = .int .i64 k ∧ Hid (a.take k = b.take k) ∧ Hid (Below w.heap.size w wr)) (fun i _ => a.length - (intOf i).toNat)
    case atStart => exact ⟨0, Nat.zero_le _, rfl, hide rfl, K0⟩
    case round =>
      clear K0
      obtain ⟨k, hk, rfl, N, K⟩ := hrel
      by_cases hlt : k < a.length
      · have hl2 : (k : Int) < (a.length : Int) := by omega
        have hk0 : (0 : Int) ≤ (k : Int) := by omega
        obtain ⟨b1, o1, rfl, _, x1⟩ := H1.out.cells K.out hlt
        obtain ⟨b2, o2, rfl, _, x2⟩ := H2.out.cells K.out (show k < b.length by have := HL.out; omega)
        by_cases he : a.getD k 0 = b.getD k 0
        · have N2 := hide (eq_nextI hlt (by have := HL.out; omega) N.out he)
          rw [← he] at x2
          clear he N
          generalize a.getD k 0 = x at *
          go_wp2
          go_quiet (fail)
          go_wp2
          go_roundw
          case rel => exact ⟨k + 1, by omega, by go_num, N2, hide (below_drewN K.out _)⟩
          case measure => simp [intOf]; omega
        · have E := hide (show decide (a = b) = false from decide_eq_false (fun e => he (by rw [e])))
          have dn : (a.getD k 0 != b.getD k 0) = true := by simpa using he
          clear he N
          generalize a.getD k 0 = x at *
          generalize b.getD k 0 = y at *
          go_wp2
          go_quiet (fail)
          go_wp2
          go_ret
          exact ⟨ret_bool E.out.symm, below_drewN K.out _⟩
      · obtain rfl : k = a.length := by omega
        have E := hide (show decide (a = b) = true from decide_eq_true (by have e := N.out; rwa [List.take_length, HL.out, List.take_length] at e))
        go_wp2
        go_ret
        exact ⟨ret_bool E.out.symm, K.out⟩
  · have E := hide (show decide (a = b) = false from decide_eq_false (fun e => hl (by rw [e])))
    have hne : ((a.length : Int) != (b.length : Int)) = true := by simp only [bne_iff_ne, ne_eq]; omega
    clear hl
    go_enter Try.func16, Try.ntmps16
    go_wp2
    go_ret
    exact ⟨ret_bool E.out.symm, K0.out⟩
set_option maxHeartbeats 4000000 in
theorem samef_any (A B : Option Addr) (c d : Nat) (a b : Fs) (w : World) (h1 : BsF w A a) (h2 : BsF w B b) (hn : a.length ≤ 9223372036854775807) : Calls Try.prog 23 #[.slice A a.length c, .slice B b.length d] w fun e w' => e = .returned (.bool (decide (a = b))) ∧ Below w.heap.size w w' := by
  have H1 := hide h1
  have H2 := hide h2
  have K0 := hide (brefl w)
  clear h1 h2
  by_cases hl : a.length = b.length
  · have HL := hide hl
    rw [← hl]
    have hne : ((a.length : Int) != (a.length : Int)) = false := by simp
    clear hl
    go_enter Try.func23, Try.ntmps23
    go_wp2
    go_loopw [5] (fun i wr => ∃ k : Nat, k ≤ a.length ∧ i = .int .i64 k ∧ Hid (a.take k = b.take k) ∧ Hid (Below w.heap.size w wr)) (fun i _ => a.length - (intOf i).toNat)
    case atStart => exact ⟨0, Nat.zero_le _, rfl, hide rfl, K0⟩
    case round =>
      clear K0
      obtain ⟨k, hk, rfl, N, K⟩ := hrel
      by_cases hlt : k < a.length
      · have hl2 : (k : Int) < (a.length : Int) := by omega
        have hk0 : (0 : Int) ≤ (k : Int) := by omega
        obtain ⟨b1, o1, rfl, _, x1⟩ := H1.out.cells K.out hlt
        obtain ⟨b2, o2, rfl, _, x2⟩ := H2.out.cells K.out (show k < b.length by have := HL.out; omega)
        by_cases he : a.getD k false = b.getD k false
        · have N2 := hide (eq_nextF hlt (by have := HL.out; omega) N.out he)
          rw [← he] at x2
          clear he N
          generalize a.getD k false = x at *
          cases x
          all_goals
            go_wp2
            go_quiet (fail)
            go_wp2
            go_roundw
            case rel => exact ⟨k + 1, by omega, by go_num, N2, hide (below_drewN K.out _)⟩
            case measure => simp [intOf]; omega
        · have E := hide (show decide (a = b) = false from decide_eq_false (fun e => he (by rw [e])))
          have dn : (a.getD k false != b.getD k false) = true := by simpa using he
          clear he N
          generalize a.getD k false = x at *
          generalize b.getD k false = y at *
          cases x <;> cases y <;> simp at dn
          all_goals
            go_wp2
            go_quiet (fail)
            go_wp2
            go_ret
            exact ⟨ret_bool E.out.symm, below_drewN K.out _⟩
      · obtain rfl : k = a.length := by omega
        have E := hide (show decide (a = b) = true from decide_eq_true (by have e := N.out; rwa [List.take_length, HL.out, List.take_length] at e))
        go_wp2
        go_ret
        exact ⟨ret_bool E.out.symm, K.out⟩
  · have E := hide (show decide (a = b) = false from decide_eq_false (fun e => hl (by rw [e])))
    have hne : ((a.length : Int) != (b.length : Int)) = true := by simp only [bne_iff_ne, ne_eq]; omega
    clear hl
    go_enter Try.func23, Try.ntmps23
    go_wp2
    go_ret
    exact ⟨ret_bool E.out.symm, K0.out⟩
set_option maxHeartbeats 4000000 in
theorem samei_any (A B : Option Addr) (c d : Nat) (a b : Is) (w : World) (h1 : BsI w A a) (h2 : BsI w B b) (hn : a.length ≤ 9223372036854775807) : Calls Try.prog 26 #[.slice A a.length c, .slice B b.length d] w fun e w' => e = .returned (.bool (decide (a = b))) ∧ Below w.heap.size w w' := by
  have H1 := hide h1
  have H2 := hide h2
  have K0 := hide (brefl w)
  clear h1 h2
  by_cases hl : a.length = b.length
  · have HL := hide hl
    rw [← hl]
    have hne : ((a.length : Int) != (a.length : Int)) = false := by simp
    clear hl
    go_enter Try.func26, Try.ntmps26
    go_wp2
    go_loopw [5] (fun i wr => ∃ k : Nat, k ≤ a.length ∧ i = .int .i64 k ∧ Hid (a.take k = b.take k) ∧ Hid (Below w.heap.size w wr)) (fun i _ => a.length - (intOf i).toNat)
    case atStart => exact ⟨0, Nat.zero_le _, rfl, hide rfl, K0⟩
    case round =>
      clear K0
      obtain ⟨k, hk, rfl, N, K⟩ := hrel
      by_cases hlt : k < a.length
      · have hl2 : (k : Int) < (a.length : Int) := by omega
        have hk0 : (0 : Int) ≤ (k : Int) := by omega
        obtain ⟨b1, o1, rfl, _, x1⟩ := H1.out.cells K.out hlt
        obtain ⟨b2, o2, rfl, _, x2⟩ := H2.out.cells K.out (show k < b.length by have := HL.out; omega)
        by_cases he : a.getD k 0 = b.getD k 0
        · have N2 := hide (eq_nextI hlt (by have := HL.out; omega) N.out he)
          rw [← he] at x2
          clear he N
          generalize a.getD k 0 = x at *
          go_wp2
          go_quiet (fail)
          go_wp2
          go_roundw
          case rel => exact ⟨k + 1, by omega, by go_num, N2, hide (below_drewN K.out _)⟩
          case measure => simp [intOf]; omega
        · have E := hide (show decide (a = b) = false from decide_eq_false (fun e => he (by rw [e])))
          have dn : (a.getD k 0 != b.getD k 0) = true := by simpa using he
          clear he N
          generalize a.getD k 0 = x at *
          generalize b.getD k 0 = y at *
          go_wp2
          go_quiet (fail)
          go_wp2
          go_ret
          exact ⟨ret_bool E.out.symm, below_drewN K.out _⟩
      · obtain rfl : k = a.length := by omega
        have E := hide (show decide (a = b) = true from decide_eq_true (by have e := N.out; rwa [List.take_length, HL.out, List.take_length] at e))
        go_wp2
        go_ret
        exact ⟨ret_bool E.out.symm, K.out⟩
  · have E := hide (show decide (a = b) = false from decide_eq_false (fun e => hl (by rw [e])))
    have hne : ((a.length : Int) != (b.length : Int)) = true := by simp only [bne_iff_ne, ne_eq]; omega
    clear hl
    go_enter Try.func26, Try.ntmps26
    go_wp2
    go_ret
    exact ⟨ret_bool E.out.symm, K0.out⟩
theorem u8_inj {x y : Int} (hx : 0 ≤ x ∧ x < 256) (hy : 0 ≤ y ∧ y < 256) (h : UInt8.ofNat x.toNat = UInt8.ofNat y.toNat) : x = y := by
  have := congrArg UInt8.toNat h
  simp at this
  omega
theorem bytes_inj : ∀ {a b : By}, Byt a → Byt b → (a.map fun n => UInt8.ofNat n.toNat) = (b.map fun n => UInt8.ofNat n.toNat) → a = b
  | [], [], _, _, _ => rfl
  | [], y :: b, _, _, h => by simp at h
  | x :: a, [], _, _, h => by simp at h
  | x :: a, y :: b, ha, hb, h => by
    simp only [List.map_cons, List.cons.injEq] at h
    rw [u8_inj (ha x (by simp)) (hb y (by simp)) h.1, bytes_inj (fun z hz => ha z (by simp [hz])) (fun z hz => hb z (by simp [hz])) h.2]
theorem str_inj {a b : By} (ha : Byt a) (hb : Byt b) (h : strOfNums a = strOfNums b) : a = b := by
  refine bytes_inj ha hb ?_
  have := congrArg (fun x : ByteArray => x.data.toList) h
  simpa [strOfNums_data] using this
theorem conv_bs {w : World} {A : Option Addr} {l : By} (h : BsB w A l) (c : Nat) : (convert 23 9 (.slice A l.length c)).run Try.prog w = .ok (.string (strOfNums l)) w := by
  by_cases hn : l = []
  · subst hn
    rw [show ([] : By).length = 0 from rfl, run_convert_bytes_string w 23 9 5 _ 0 c Try.underlying23 Try.underlying5 Try.underlying9]
    cases A <;> simp [Conv.bytesToString, loadCells]
    all_goals rfl
  · obtain ⟨b, o, rfl, _, hc⟩ := h hn
    exact run_convert_bytes_arg (P := Try.prog) w 23 5 Try.underlying23 Try.underlying5 b o l.length c l rfl hc 9 Try.underlying9
theorem equal_any (A B : Option Addr) (c d : Nat) (a b : By) (w : World) (h1 : BsB w A a) (h2 : BsB w B b) (ha : Byt a) (hb : Byt b) : Calls Try.prog 35 #[.slice A a.length c, .slice B b.length d] w fun e w' => e = .returned (.bool (decide (a = b))) ∧ w = w' := by
  have c1 := conv_bs h1 c
  have c2 := conv_bs h2 d
  have hh : ((strOfNums a).toList == (strOfNums b).toList) = decide (a = b) := by
    by_cases e : a = b
    · subst e; simp
    · have : ¬ (strOfNums a).toList = (strOfNums b).toList := fun h => e (by
        refine bytes_inj ha hb ?_
        rw [Lib.strOfNums_toList, Lib.strOfNums_toList] at h
        exact h)
      simp [e, this]
  have E := hide hh
  clear h1 h2 ha hb hh
  go_enter Try.func35, Try.ntmps35
  go_wp2
  go_ret
  exact ⟨ret_bool E.out, rfl⟩
end Go.Proofs.Ytncdilkcblakhaa.In
