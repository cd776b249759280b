import Derived.Test.YtdpdlbonlpdkjabMem
namespace Go.Proofs.Ytdpdlbonlpdkjab.Iv
open Go Go.RowKit
set_option linter.unusedVariables false
theorem drop_pair {L : IL} {k : Nat} (h : k < L.length) : L.drop k = pairAt L k :: L.drop (k + 1) := by
  rw [List.drop_eq_getElem_cons h]
  congr 1
  unfold pairAt
  rw [List.getD_eq_getElem?_getD, List.getElem?_eq_getElem h]; rfl
theorem chk_step {L : IL} {k : Nat} (h : k < L.length) : chkFrom (prevAt L k) (L.drop k) = if (pairAt L k).2 ≤ (pairAt L k).1 then 2 else if (decide (0 < k) && decide ((pairAt L k).1 ≤ (pairAt L (k - 1)).2)) = true then 10 else chkFrom (prevAt L (k + 1)) (L.drop (k + 1)) := by
  rw [drop_pair h]
  generalize hp : pairAt L k = p
  obtain ⟨f, t⟩ := p
  rw [chkFrom_cons]
  have e2 : prevAt L (k + 1) = some t := by unfold prevAt; simp [hp]
  rw [e2]
  have e1 : low (prevAt L k) f = (decide (0 < k) && decide (f ≤ (pairAt L (k - 1)).2)) := by
    unfold prevAt
    by_cases c : k = 0
    · simp [c, low]
    · rw [if_neg c]; simp [show 0 < k by omega, low]
  rw [e1]
theorem Iv.cells {w w' : World} {A : Option Addr} {L : IL} (h : Iv w A L) (hb : Below w.heap.size w w') {k : Nat} (hk : k < L.length) : ∃ b off, A = some ⟨b, off, none⟩ ∧ b < w.heap.size ∧ ∀ k, k < L.length → w'.cell? ⟨b, off + k * 2, none⟩ = some (.int .i64 (pairAt L k).1) ∧ w'.cell? ⟨b, off + k * 2 + 1, none⟩ = some (.int .i64 (pairAt L k).2) := by
  obtain ⟨b, off, e, hl, hc⟩ := h (by rintro rfl; simp at hk)
  exact ⟨b, off, e, hl, fun k hk => ⟨(hb.cell (p := ⟨b, off + k * 2, none⟩) hl).trans (hc k hk).1, (hb.cell (p := ⟨b, off + k * 2 + 1, none⟩) hl).trans (hc k hk).2⟩⟩
set_option maxHeartbeats 1000000 in
theorem check_any (A : Option Addr) (L : IL) (c : Nat) (w : World) (hr : Iv w A L) (hn : L.length ≤ 3000) :
    Calls Try.prog 13 #[.slice A L.length c] w fun e w' => e = .returned (.int .i64 (chk L)) ∧ Below w.heap.size w w' := by
  have HR := hide hr
  clear hr
  go_enter Try.func13, Try.ntmps13
  go_wp2
  go_loopw [7] (fun i wr => ∃ k : Nat, k ≤ L.length ∧ i = .int .i64 k ∧ chk L = chkFrom (prevAt L k) (L.drop k) ∧ Below w.heap.size w wr) (fun i _ => L.length - (intOf i).toNat)
  case atStart => exact ⟨0, Nat.zero_le _, rfl, rfl, brefl _⟩
  case round =>
    obtain ⟨k, hk, rfl, hch, hb⟩ := hrel
    by_cases hlt : k < L.length
    · obtain ⟨b, off, rfl, hbl, hcs⟩ := HR.out.cells hb hlt
      rw [chk_step hlt] at hch
      obtain ⟨c0, c1⟩ := hcs k hlt
      have hbl2 : b < wr.heap.size := Nat.lt_of_lt_of_le hbl hb.size
      have HB := hide hb
      by_cases t1 : (pairAt L k).2 ≤ (pairAt L k).1
      · rw [if_pos t1] at hch
        have HC := hide hch
        generalize (pairAt L k).1 = f at *
        generalize (pairAt L k).2 = t at *
        clear hcs hch hb
        go_wp2
        go_ret
        exact ⟨ret_int HC.out.symm, bal HB.out _⟩
      · rw [if_neg t1] at hch
        rcases Nat.eq_zero_or_pos k with hk0 | hkp
        · rw [hk0, if_neg (by simp), ← hk0] at hch
          have hd : decide (0 < k) = false := by rw [hk0]; rfl
          have HC := hide hch
          have HK := hide hk0
          generalize (pairAt L k).1 = f at *
          generalize (pairAt L k).2 = t at *
          clear hcs hch hb hk0
          go_wp2
          go_quiet (fail)
          go_wp2
          go_roundw
          case rel => exact ⟨k + 1, by omega, by go_num, HC.out, below_drewN (bal HB.out _) _⟩
          case measure => simp [intOf]; omega
        · obtain ⟨m, rfl⟩ : ∃ m, k = m + 1 := ⟨k - 1, by omega⟩
          obtain ⟨d0, d1⟩ := hcs m (by omega)
          rw [Nat.add_sub_cancel] at hch
          have hd : decide (0 < m + 1) = true := by simp
          have hlm : m < L.length := by omega
          have hw1 : IntKind.i64.wrap (((m + 1 : Nat) : Int) - 1) = (m : Int) := by rw [IntKind.wrap_i64]; omega
          by_cases t2 : (pairAt L (m + 1)).1 ≤ (pairAt L m).2
          · rw [if_pos (by simpa using t2)] at hch
            have HC := hide hch
            generalize (pairAt L (m + 1)).1 = f at *
            generalize (pairAt L (m + 1)).2 = t at *
            generalize (pairAt L m).2 = q at *
            clear hcs hch hb d0 hkp
            go_wp2
            go_quiet (fail)
            go_wp2
            go_ret
            exact ⟨ret_int HC.out.symm, below_drewN (bal HB.out _) _⟩
          · rw [if_neg (by simpa using t2)] at hch
            have HC := hide hch
            generalize (pairAt L (m + 1)).1 = f at *
            generalize (pairAt L (m + 1)).2 = t at *
            generalize (pairAt L m).2 = q at *
            clear hcs hch hb d0 hkp
            go_wp2
            go_quiet (fail)
            go_wp2
            go_roundw
            case rel => exact ⟨m + 1 + 1, by omega, by go_num, HC.out, below_drewN (bal HB.out _) _⟩
            case measure => simp [intOf]; omega
    · have e1 : k = L.length := by omega
      have e2 : chk L = 0 := by rw [hch, e1, List.drop_length]; rfl
      have HC := hide e2
      clear hch e2 e1
      go_wp2
      go_ret
      exact ⟨ret_int HC.out.symm, hb⟩
end Go.Proofs.Ytdpdlbonlpdkjab.Iv
