import Derived.Test.YthoeolaleeogbaaRow
namespace Go.Proofs.Ythoeolaleeogbaa.Tb
open Go Go.RowKit Go.Proofs.Ythoeolaleeogbaa.Pt
set_option linter.unusedVariables false
/-- how far a DeleteFunc is -/
structure DelInv (p : Te → Bool) (L M : List Te) (i j : Nat) : Prop where
  len : M.length = L.length
  lt : i < j
  le : j ≤ L.length
  lo : M.take i = (L.take j).filter fun x => !p x
  hi : ∀ k, j ≤ k → teAt M k = teAt L k
theorem filter_all {p : Te → Bool} : ∀ {L : List Te}, (∀ j, j < L.length → p (teAt L j) = false) → (L.filter fun x => !p x) = L
  | [], _ => rfl
  | x :: l, h => by
    have h0 := h 0 (by simp)
    have h1 : p x = false := h0
    rw [List.filter_cons, h1]
    simp only [Bool.not_false, if_true]
    rw [filter_all (L := l) fun j hj => h (j + 1) (by simpa using hj)]
theorem DelInv.start {p : Te → Bool} {L : List Te} {k : Nat} (hk : k < L.length) (h : p (teAt L k) = true) (hb : ∀ j, j < k → p (teAt L j) = false) : DelInv p L L k (k + 1) := by
  refine ⟨rfl, by omega, by omega, ?_, fun _ _ => rfl⟩
  have e : ((L.take k).filter fun x => !p x) = L.take k := filter_all fun j hj => by
    rw [List.length_take] at hj
    rw [teAt_take (by omega)]; exact hb j (by omega)
  rw [take_snoc L hk, List.filter_append, e, List.filter_cons, h]
  simp
theorem DelInv.skip {p : Te → Bool} {L M : List Te} {i j : Nat} (h : DelInv p L M i j) (hj : j < L.length) (hp : p (teAt L j) = true) : DelInv p L M i (j + 1) := by
  refine ⟨h.len, by have := h.lt; omega, by omega, ?_, fun k hk => h.hi k (by omega)⟩
  rw [h.lo, take_snoc L hj, List.filter_append, List.filter_cons, hp]
  simp
theorem teAt_set_ne {M : List Te} {i k : Nat} {e : Te} (h : i ≠ k) : teAt (M.set i e) k = teAt M k := by
  unfold teAt
  rw [List.getD_eq_getElem?_getD, List.getD_eq_getElem?_getD, List.getElem?_set_ne h]
theorem DelInv.keep {p : Te → Bool} {L M : List Te} {i j : Nat} (h : DelInv p L M i j) (hj : j < L.length) (hp : p (teAt L j) = false) : DelInv p L (M.set i (teAt L j)) (i + 1) (j + 1) := by
  have hlt := h.lt
  have hlen := h.len
  refine ⟨by rw [List.length_set]; exact h.len, by omega, by omega, ?_, fun k hk => ?_⟩
  · have hi : i < (M.set i (teAt L j)).length := by rw [List.length_set]; omega
    rw [List.take_succ_eq_append_getElem hi, List.getElem_set_self, List.take_set_of_le (Nat.le_refl _), h.lo, take_snoc L hj, List.filter_append, List.filter_cons, hp]
    simp
  · rw [teAt_set_ne (by omega)]; exact h.hi k (by omega)
theorem DelInv.fin {p : Te → Bool} {L M : List Te} {i : Nat} (h : DelInv p L M i L.length) : M.take i = L.filter fun x => !p x := by
  have := h.lo
  rwa [List.take_length] at this
set_option maxHeartbeats 4000000 in
theorem del_any (g : Nat) (lb : Array Value) (p : Te → Bool) (A : Option Addr) (L : List Te) (c : Nat) (w0 w : World) (eg : Enters g) (hp : PredT g lb p w0 L) (hb0 : Below w0.heap.size w0 w) (hown : OwnR w0.heap.size L A c w) (hn : L.length ≤ 1000) :
    Calls Try.prog 56 #[.slice A L.length c, .func (.func g) #[] lb] w fun e w' => ∃ c', e = .returned (.slice A (L.filter fun x => !p x).length c') ∧ OwnR w0.heap.size (L.filter fun x => !p x) A c' w' ∧ Below w0.heap.size w0 w' := by
  have H := hide (index_any g lb p A L c w0 w eg hp hb0 hown.mine.ts hn)
  rcases idxT_cases p L with ⟨h1, h2⟩ | ⟨k0, hk0, h1, h2, h3⟩
  · rw [h1] at H
    have F := hide (filter_all h2)
    have O := hide hown
    have B0 := hide hb0
    clear hp hown hb0 h1 h2 eg
    go_enter Try.func56, Try.ntmps56
    go_wp2_with fail
    refine H.out.mono ?_
    rintro e w1 ⟨rfl, hb1⟩
    have K := hide hb1
    clear hb1
    go_wp2
    go_ret
    rw [F.out]
    exact ⟨c, rfl, O.out.below K.out, btrans B0.out K.out⟩
  · rw [h1] at H
    obtain ⟨b, rfl, hB, hc, hm, hrow⟩ := hown.row (by rintro rfl; simp at hk0)
    have hne1 : ((k0 : Int) == -1) = false := beq_eq_false_iff_ne.2 (by omega)
    have I0 := hide (DelInv.start hk0 h2 h3)
    have R0 := hide hrow
    have B0 := hide hb0
    have P0 := hide hp
    unfold maxLen at hm
    unfold Enters at eg
    clear hp hown hb0 h1 h2 h3 hrow
    go_enter Try.func56, Try.ntmps56
    go_wp2_with fail
    refine H.out.mono ?_
    rintro e w1 ⟨rfl, hb1⟩
    have K1 := hide (btrans B0.out hb1)
    have R1 := hide (R0.out.below hb1)
    clear hb1
    go_wp2
    go_loopw [5, 6] (fun s5 s6 wr => ∃ (i j : Nat) (M : List Te), s5 = .int .i64 i ∧ s6 = .int .i64 j ∧ j ≤ L.length ∧ Hid (DelInv p L M i j) ∧ Hid (RowT wr b c M) ∧ Hid (Below w0.heap.size w0 wr)) (fun _ s6 _ => L.length - (intOf s6).toNat)
    case atStart => exact ⟨k0, k0 + 1, L, rfl, by go_num, by omega, I0, R1, K1⟩
    case round =>
      obtain ⟨i, j, M, rfl, rfl, hjl, I, R, K⟩ := hrel
      have hij := I.out.lt
      have hbl := R.out.lt
      by_cases hlt : j < L.length
      · have hjM : j < M.length := by rw [I.out.len]; exact hlt
        obtain ⟨c0, c1, c2⟩ := R.out.cells hjM
        rw [I.out.hi j (Nat.le_refl _)] at c0 c1 c2
        have hmem := teAt_mem hlt
        have K5 := hide (fun o => btrans K.out (bal (brefl wr) o))
        have CP := hide (fun o => P0.out (wr.alloc o) (teAt L j) hmem (K5.out o))
        have R5 := hide (fun o => R.out.below (bal (brefl wr) o))
        have X5 := hide (Box.new wr 47 #[.int .i64 (teAt L j).1, .int .i64 (teAt L j).2.1, .int .u64 (teAt L j).2.2])
        have hiM : i < M.length := by omega
        unfold tv at CP
        cases hq : p (teAt L j)
        · have IK := hide (I.out.keep hlt hq)
          rw [hq] at CP
          obtain ⟨⟨x0, x1, x2⟩, hx⟩ : ∃ x, x = teAt L j := ⟨_, rfl⟩
          rw [← hx] at c0 c1 c2 CP IK X5
          simp only at c0 c1 c2 CP X5
          have HI := hide hiM
          clear hx hq hmem I hiM hjM
          go_wp2_with fail
          refine (CP.out _).mono ?_
          rintro e w5 ⟨rfl, hb5⟩
          replace R5 := hide ((R5.out _).below hb5)
          replace X5 := hide (X5.out.below hb5)
          replace K5 := hide (btrans (K5.out _) hb5)
          have y0 := X5.out.cell 0
          have y1 := X5.out.cell 1
          have y2 := X5.out.cell 2
          simp at y0 y1 y2
          clear hb5 c0 c1 c2 CP
          obtain ⟨d0, d1, d2⟩ := R5.out.cells HI.out
          have f0 := R5.out.frozen (i * 3)
          have f1 := R5.out.frozen (i * 3 + 1)
          have f2 := R5.out.frozen (i * 3 + 2)
          have hic : i < L.length := by omega
          generalize (teAt M i).1 = z0 at *
          generalize (teAt M i).2.1 = z1 at *
          generalize (teAt M i).2.2 = z2 at *
          go_wp2
          go_roundw
          case rel => exact ⟨i + 1, j + 1, _, by go_num, by go_num, by omega, IK, hide (R5.out.put (x0, x1, x2)), hide (bset (bset (bset K5.out (by exact hB) _) (by exact hB) _) (by exact hB) _)⟩
          case measure => simp [intOf]; omega
        · have IK := hide (I.out.skip hlt hq)
          rw [hq] at CP
          obtain ⟨⟨x0, x1, x2⟩, hx⟩ : ∃ x, x = teAt L j := ⟨_, rfl⟩
          rw [← hx] at c0 c1 c2 CP X5
          simp only at c0 c1 c2 CP X5
          clear hx hq hmem I hiM hjM
          go_wp2_with fail
          refine (CP.out _).mono ?_
          rintro e w5 ⟨rfl, hb5⟩
          replace R5 := hide ((R5.out _).below hb5)
          replace K5 := hide (btrans (K5.out _) hb5)
          clear hb5 c0 c1 c2 CP
          go_wp2
          go_roundw
          case rel => exact ⟨i, j + 1, M, by go_num, by go_num, by omega, IK, R5, K5⟩
          case measure => simp [intOf]; omega
      · obtain rfl : j = L.length := by omega
        have hML := I.out.len
        obtain ⟨w6, hrun, hr6, hbb⟩ := run_clear_row wr b c i M R.out (by omega) (by omega)
        rw [hML] at hrun
        have F := hide I.out.fin
        have R6 := hide hr6
        have K6 := hide (K.out.trans (grown_below hbb hB K.out.size))
        have hcl := fun ty => hrun ty (c - i)
        have hic : i < c := by omega
        have hTL := hide (show (M.take i).length = i by rw [List.length_take]; omega)
        clear hrun hr6 hbb hML I R K
        go_wp2
        go_ret
        rw [← F.out, hTL.out]
        exact ⟨c, rfl, R6.out.own hB (by rw [hTL.out]; omega) (by unfold maxLen; omega), K6.out⟩
end Go.Proofs.Ythoeolaleeogbaa.Tb
