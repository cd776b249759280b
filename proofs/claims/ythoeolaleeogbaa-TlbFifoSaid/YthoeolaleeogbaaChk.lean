import Derived.Test.YthoeolaleeogbaaCEnt
namespace Go.Proofs.Ythoeolaleeogbaa.Tb
open Go Go.RowKit Go.Proofs.Ythoeolaleeogbaa.Pt
set_option linter.unusedVariables false
theorem teAt_take {L : List Te} {k j : Nat} (h : j < k) : teAt (L.take k) j = teAt L j := by
  unfold teAt
  rw [List.getD_eq_getElem?_getD, List.getD_eq_getElem?_getD, List.getElem?_take_of_lt h]
theorem Ts.take {w : World} {A : Option Addr} {L : List Te} (h : Ts w A L) (k : Nat) : Ts w A (L.take k) := fun hn => by
  obtain ⟨b, off, e, hlt, hc⟩ := h (by rintro rfl; simp at hn)
  refine ⟨b, off, e, hlt, fun j hj => ?_⟩
  rw [List.length_take] at hj
  rw [teAt_take (by omega)]
  exact hc j (by omega)
theorem chk_next {L : List Te} {k : Nat} (h : k < L.length) : chkL (L.take k) (L.drop k) = if entE (teAt L k) (L.take k) ≠ 0 then entE (teAt L k) (L.take k) else chkL (L.take (k + 1)) (L.drop (k + 1)) := by
  rw [chkL_step h, teAt_get h]
theorem take_ok {L : List Te} {k : Nat} (h : k < L.length) (h1 : ∀ o ∈ L.take k, okE o = true) (h2 : entE (teAt L k) (L.take k) = 0) : ∀ o ∈ L.take (k + 1), okE o = true := by
  intro o ho
  rw [take_snoc L h] at ho
  rcases List.mem_append.1 ho with ho | ho
  · exact h1 o ho
  · rw [List.mem_singleton.1 ho]; exact (entE_ok.1 h2).1
theorem Box.setc {w : World} {g : Nat} {t : TypeId} {cs : Array Value} (h : Box w g t cs) : g < w.heap.size := h.lt
set_option maxHeartbeats 4000000 in
theorem check_any (size : Int) (A : Option Addr) (L : List Te) (c : Nat) (w : World) (hr : Ts w A L) (hc : L.length ≤ c) (hn : L.length ≤ 9223372036854775807) (hT : ∀ o ∈ L, inW o.2.2) :
    Calls Try.prog 16 #[.agg #[.int .i64 size, .slice A L.length c]] w fun e w' => e = .returned (.int .i64 (chkT size L)) ∧ Below w.heap.size w w' := by
  have S1 := hide (fun w => size_any size w)
  have X := hide (Box.new w 24 #[.int .i64 size, .slice A L.length c])
  have K0 := hide (bal (brefl w) (.cells #[.int .i64 size, .slice A L.length c] 24))
  have R0 := hide (hr.below K0.out)
  cases hs : szB size
  · have E := hide (show chkT size L = 1 by unfold szB at hs; unfold chkT; rw [if_pos (by simp at hs; omega)])
    rw [hs] at S1
    clear hr hT hs R0
    go_enter Try.func16, Try.ntmps16
    go_wp2_with (go_at_call 30; refine (S1.out _).mono ?_; rintro e w' ⟨rfl, rfl⟩)
    go_ret
    exact ⟨ret_int E.out.symm, K0.out⟩
  rw [hs] at S1
  unfold szB at hs
  simp only [decide_eq_true_eq] at hs
  by_cases hf : size < (L.length : Int)
  · have E := hide (show chkT size L = 8 by unfold chkT; rw [if_neg (by omega), if_pos hf])
    clear hr hT hs R0
    go_enter Try.func16, Try.ntmps16
    go_wp2_with (go_at_call 30; refine (S1.out _).mono ?_; rintro e w' ⟨rfl, rfl⟩)
    go_ret
    exact ⟨ret_int E.out.symm, K0.out⟩
  have E := hide (show chkT size L = chkL [] L by unfold chkT; rw [if_neg (by omega), if_neg hf])
  have hl : L.length ≤ 16 := by omega
  have CE := hide (fun (k : Nat) (hk : k < L.length) (W : World) (hb : Below (w.alloc (.cells #[.int .i64 size, .slice A L.length c] 24)).heap.size (w.alloc (.cells #[.int .i64 size, .slice A L.length c] 24)) W) (ho : ∀ o ∈ L.take k, okE o = true) =>
    centry_any (teAt L k) A (L.take k) c W ((R0.out.below hb).take k) (by rw [List.length_take]; omega) (hT _ (teAt_mem hk)) (fun o h => ⟨ho o h, hT o (List.mem_of_mem_take h)⟩))
  clear hr hT hs
  go_enter Try.func16, Try.ntmps16
  go_wp2_with (go_at_call 30; refine (S1.out _).mono ?_; rintro e w' ⟨rfl, rfl⟩)
  obtain ⟨wb, hwb⟩ : ∃ wb, wb = w.alloc (.cells #[.int .i64 size, .slice A L.length c] 24) := ⟨_, rfl⟩
  have hsz : w.heap.size + 1 = wb.heap.size := by rw [hwb, alloc_size]
  rw [← hwb] at X K0 R0 CE ⊢
  have HS := hide hsz
  have HF := hide hf
  clear hwb hsz hf
  go_loopw [21] (fun i wr => ∃ k : Nat, k ≤ L.length ∧ i = .int .i64 k ∧ Hid (chkL [] L = chkL (L.take k) (L.drop k)) ∧ Hid (∀ o ∈ L.take k, okE o = true) ∧ Below wb.heap.size wb wr) (fun i _ => L.length - (intOf i).toNat)
  case atStart => exact ⟨0, Nat.zero_le _, rfl, hide rfl, hide (fun o ho => by simp at ho), brefl _⟩
  case round =>
    obtain ⟨k, hk, rfl, HC, HO, hb⟩ := hrel
    have HB := hide hb
    by_cases hlt : k < L.length
    · obtain ⟨b, off, rfl, hbl, hcs⟩ := R0.out.cells hb hlt
      obtain ⟨c0, c1, c2⟩ := hcs k hlt
      have hlen : (L.take k).length = k := by rw [List.length_take]; omega
      have N1 := hide (chk_next hlt)
      have N2 := hide (fun h => take_ok hlt HO.out h)
      have CC := hide (fun W (h : Below wr.heap.size wr W) => CE.out k hlt W (btrans HB.out h) HO.out)
      rw [hlen] at CC
      have Q := hide ((X.out.below hb).cell 0)
      have q0 := (X.out.below hb).cell 0
      have q1 := (X.out.below hb).cell 1
      unfold tv at CC
      generalize entE (teAt L k) (L.take k) = er at *
      generalize (teAt L k).1 = x0 at *
      generalize (teAt L k).2.1 = x1 at *
      generalize (teAt L k).2.2 = x2 at *
      have hkc : k ≤ c := by omega
      have hlb := Nat.lt_of_lt_of_le X.out.lt hb.size
      simp at q0 q1
      clear hcs hb hlen Q
      by_cases he : er = 0
      · subst he
        have NC := hide (HC.out.trans (N1.out.trans (if_neg (by simp))))
        have NO := hide (N2.out rfl)
        clear N1 N2
        go_wp2
        have K := hide (bal (brefl wr) (.cells #[.int .i64 x0, .int .i64 x1, .int .u64 x2] 47))
        go_region_with (go_at_call 31; refine (CC.out _ (by first | exact K.out | exact below_drewN K.out _)).mono ?_; rintro e wk ⟨rfl, hbk⟩; replace K := hide (by first | exact btrans K.out hbk | exact btrans (below_drewN K.out _) hbk); clear hbk)
        all_goals
          go_wp2
          go_roundw
          case rel => exact ⟨k + 1, by omega, by go_num, NC, NO, btrans HB.out (by first | exact K.out | exact below_drewN K.out _)⟩
          case measure => simp [intOf]; omega
      · have NC := hide (HC.out.trans (N1.out.trans (if_pos he)))
        have he2 : (er != 0) = true := by simpa using he
        clear N1 N2 he
        go_wp2
        have K := hide (bal (brefl wr) (.cells #[.int .i64 x0, .int .i64 x1, .int .u64 x2] 47))
        go_region_with (go_at_call 31; refine (CC.out _ (by first | exact K.out | exact below_drewN K.out _)).mono ?_; rintro e wk ⟨rfl, hbk⟩; replace K := hide (by first | exact btrans K.out hbk | exact btrans (below_drewN K.out _) hbk); clear hbk)
        all_goals
          go_wp2
          go_ret
          exact ⟨ret_int (E.out.trans NC.out).symm, btrans K0.out (btrans HB.out (by first | exact K.out | exact below_drewN K.out _))⟩
    · have NC := hide (show chkL [] L = 0 by rw [HC.out, show k = L.length by omega, List.drop_length]; rfl)
      clear hb
      go_wp2
      go_ret
      exact ⟨ret_int (E.out.trans NC.out).symm, btrans K0.out HB.out⟩
end Go.Proofs.Ythoeolaleeogbaa.Tb
