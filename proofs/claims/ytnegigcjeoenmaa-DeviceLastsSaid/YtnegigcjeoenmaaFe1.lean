import Derived.Test.YtnegigcjeoenmaaRow
import Derived.Test.YtnegigcjeoenmaaFrame
import Derived.Test.YtnegigcjeoenmaaRd6
import Derived.Test.YtnegigcjeoenmaaCl1
import Derived.Deep.DeepCutAuto
namespace Go.Proofs.Ytnegigcjeoenmaa.Dv
open Go Go.RowKit
set_option linter.unusedVariables false
/-- a device that is small enough -/
structure Fw (D : Dev) : Prop where
  bl : D.bl.length ≤ 40
  ca : D.ca.length ≤ 40
  qu : D.qu.length ≤ 40
  bb : ∀ b ∈ D.bl, b.length ≤ 100
  cb : ∀ c ∈ D.ca, c.2.length ≤ 100
  qb : ∀ q ∈ D.qu, q.2.2.2.length ≤ 100
def FewR (D : Dev) (w : World) (e : Ending) (w' : World) : Prop := ∃ b, e = .returned (.bool b) ∧ (b = true → Fw D) ∧ Below w.heap.size w w'
theorem fw_of {D : Dev} (h1 : D.bl.length ≤ 40) (h2 : D.ca.length ≤ 40) (h3 : D.qu.length ≤ 40) (b1 : ∀ j, j < D.bl.length → (bAt D.bl j).length ≤ 100) (b2 : ∀ j, j < D.ca.length → (cAt D.ca j).2.length ≤ 100) (b3 : ∀ j, j < D.qu.length → (qAt D.qu j).2.2.2.length ≤ 100) : Fw D :=
  ⟨h1, h2, h3, fun b hb => by
    obtain ⟨j, hj, rfl⟩ := List.mem_iff_getElem.1 hb
    have := b1 j hj
    rw [bAt_get hj] at this
    exact this, fun b hb => by
    obtain ⟨j, hj, rfl⟩ := List.mem_iff_getElem.1 hb
    have := b2 j hj
    rw [cAt_get hj] at this
    exact this, fun b hb => by
    obtain ⟨j, hj, rfl⟩ := List.mem_iff_getElem.1 hb
    have := b3 j hj
    rw [qAt_get hj] at this
    exact this⟩
theorem at_le {D : Dev} (hB : Big D) : (∀ k, k < D.bl.length → (bAt D.bl k).length ≤ 9223372036854775807) ∧ (∀ k, k < D.ca.length → (cAt D.ca k).2.length ≤ 9223372036854775807) ∧ (∀ k, k < D.qu.length → (qAt D.qu k).2.2.2.length ≤ 9223372036854775807) := by
  refine ⟨fun k hk => ?_, fun k hk => ?_, fun k hk => ?_⟩
  · rw [bAt_get hk]; exact hB.bb _ (List.getElem_mem _)
  · rw [cAt_get hk]; exact hB.cb _ (List.getElem_mem _)
  · rw [qAt_get hk]; exact hB.qb _ (List.getElem_mem _)
set_option maxHeartbeats 2000000 in
theorem few_any (v : Value) (D : Dev) (w : World) (h : DevIn w v D) (hB : Big D) : Calls Try.prog 12 #[v] w (FewR D w) := by
  obtain ⟨Ab, cb, Ac, cc, Aq, cq, rfl, h1, h2, h3, rb, rc, rq⟩ := h
  obtain ⟨W0, hW0⟩ : ∃ W0, W0 = w.alloc (.cells #[.int .i64 D.dep, .int .i64 D.nxt, .slice Ab D.bl.length cb, .slice Ac D.ca.length cc, .slice Aq D.qu.length cq] 28) := ⟨_, rfl⟩
  have K0 := hide (show Below w.heap.size w W0 by rw [hW0]; exact bal (brefl w) _)
  have X := hide (show Box W0 w.heap.size 28 #[.int .i64 D.dep, .int .i64 D.nxt, .slice Ab D.bl.length cb, .slice Ac D.ca.length cc, .slice Aq D.qu.length cq] by rw [hW0]; exact Box.new w 28 _)
  have RB := hide (rb.below K0.out)
  have RC := hide (rc.below K0.out)
  have RQ := hide (rq.below K0.out)
  have HB0 := hide (at_le hB).1
  have HB1 := hide (at_le hB).2.1
  have HB2 := hide (at_le hB).2.2
  have l1 := hB.bl
  have l2 := hB.ca
  have l3 := hB.qu
  have HW := hide hW0
  clear rb rc rq hW0
  obtain ⟨x0, x1, x2, x3, x4⟩ := box5_cells (W' := W0) X.out
  by_cases gg0 : 40 < D.bl.length
  · have hd0 : decide ((40 : Int) < (D.bl.length : Int)) = true := decide_eq_true (by omega)
    go_enter Try.func12, Try.ntmps12
    go_upto_region 1 with fail
    rw [← HW.out]
    go_wp2
    go_ret
    exact ⟨false, rfl, fun h => absurd h (by decide), K0.out⟩
  have hd0 : decide ((40 : Int) < (D.bl.length : Int)) = false := decide_eq_false (by omega)
  by_cases gg1 : 40 < D.ca.length
  · have hd1 : decide ((40 : Int) < (D.ca.length : Int)) = true := decide_eq_true (by omega)
    go_enter Try.func12, Try.ntmps12
    go_upto_region 1 with fail
    rw [← HW.out]
    go_wp2
    go_ret
    exact ⟨false, rfl, fun h => absurd h (by decide), K0.out⟩
  have hd1 : decide ((40 : Int) < (D.ca.length : Int)) = false := decide_eq_false (by omega)
  by_cases gg2 : 40 < D.qu.length
  · have hd2 : decide ((40 : Int) < (D.qu.length : Int)) = true := decide_eq_true (by omega)
    go_enter Try.func12, Try.ntmps12
    go_upto_region 1 with fail
    rw [← HW.out]
    go_wp2
    go_ret
    exact ⟨false, rfl, fun h => absurd h (by decide), K0.out⟩
  have hd2 : decide ((40 : Int) < (D.qu.length : Int)) = false := decide_eq_false (by omega)
  go_enter Try.func12, Try.ntmps12
  go_upto_region 1 with fail
  rw [← HW.out]
  clear HW
  go_wp2
  go_loopw [3] (fun i wr => ∃ k : Nat, k ≤ D.bl.length ∧ i = .int .i64 k ∧ (∀ j, j < k → (bAt D.bl j).length ≤ 100) ∧ W0 = wr) (fun i _ => D.bl.length - (intOf i).toNat)
  case atStart => exact ⟨0, Nat.zero_le _, rfl, fun j hj => absurd hj (Nat.not_lt_zero _), rfl⟩
  case round =>
    obtain ⟨k, hk, rfl, HJ0, rfl⟩ := hrel
    by_cases hlt : k < D.bl.length
    · have hlt1 : (k : Int) < (D.bl.length : Int) := by omega
      have hlt2 : ¬ (D.bl.length : Int) ≤ (k : Int) := by omega
      have hk0 : (0 : Int) ≤ (k : Int) := by omega
      obtain ⟨b, off, u, rfl, hbl, c0, hv⟩ := RB.out.cells (brefl W0) hlt
      obtain ⟨A', c', rfl, _, _⟩ := hv
      have hle : (bAt D.bl k).length ≤ 9223372036854775807 := HB0.out k hlt
      by_cases hbig : 100 < (bAt D.bl k).length
      · have hd : decide ((100 : Int) < ((bAt D.bl k).length : Int)) = true := decide_eq_true (by omega)
        go_wp2
        go_ret
        exact ⟨false, rfl, fun h => absurd h (by decide), K0.out⟩
      · have hd : decide ((100 : Int) < ((bAt D.bl k).length : Int)) = false := decide_eq_false (by omega)
        go_wp2
        go_roundw
        case rel => exact ⟨k + 1, by omega, by go_num, fun j hj => by rcases Nat.lt_succ_iff_lt_or_eq.1 hj with h | rfl; exact HJ0 j h; omega, by first | trivial | rfl⟩
        case measure => simp [intOf]; omega
    · obtain rfl : k = D.bl.length := by omega
      go_wp2
      go_loopw [4] (fun i wr => ∃ k : Nat, k ≤ D.ca.length ∧ i = .int .i64 k ∧ (∀ j, j < k → ((cAt D.ca j).2).length ≤ 100) ∧ W0 = wr) (fun i _ => D.ca.length - (intOf i).toNat)
      case atStart => exact ⟨0, Nat.zero_le _, rfl, fun j hj => absurd hj (Nat.not_lt_zero _), rfl⟩
      case round =>
        obtain ⟨k, hk, rfl, HJ1, rfl⟩ := hrel
        by_cases hlt : k < D.ca.length
        · have hlt1 : (k : Int) < (D.ca.length : Int) := by omega
          have hlt2 : ¬ (D.ca.length : Int) ≤ (k : Int) := by omega
          have hk0 : (0 : Int) ≤ (k : Int) := by omega
          obtain ⟨b, off, u, rfl, hbl, c0, c1, hv⟩ := RC.out.cells (brefl W0) hlt
          obtain ⟨A', c', rfl, _, _⟩ := hv
          have hle : ((cAt D.ca k).2).length ≤ 9223372036854775807 := HB1.out k hlt
          by_cases hbig : 100 < ((cAt D.ca k).2).length
          · have hd : decide ((100 : Int) < (((cAt D.ca k).2).length : Int)) = true := decide_eq_true (by omega)
            go_wp2
            go_ret
            exact ⟨false, rfl, fun h => absurd h (by decide), K0.out⟩
          · have hd : decide ((100 : Int) < (((cAt D.ca k).2).length : Int)) = false := decide_eq_false (by omega)
            go_wp2
            go_roundw
            case rel => exact ⟨k + 1, by omega, by go_num, fun j hj => by rcases Nat.lt_succ_iff_lt_or_eq.1 hj with h | rfl; exact HJ1 j h; omega, by first | trivial | rfl⟩
            case measure => simp [intOf]; omega
        · obtain rfl : k = D.ca.length := by omega
          go_wp2
          go_loopw [5] (fun i wr => ∃ k : Nat, k ≤ D.qu.length ∧ i = .int .i64 k ∧ (∀ j, j < k → ((qAt D.qu j).2.2.2).length ≤ 100) ∧ W0 = wr) (fun i _ => D.qu.length - (intOf i).toNat)
          case atStart => exact ⟨0, Nat.zero_le _, rfl, fun j hj => absurd hj (Nat.not_lt_zero _), rfl⟩
          case round =>
            obtain ⟨k, hk, rfl, HJ2, rfl⟩ := hrel
            by_cases hlt : k < D.qu.length
            · have hlt1 : (k : Int) < (D.qu.length : Int) := by omega
              have hlt2 : ¬ (D.qu.length : Int) ≤ (k : Int) := by omega
              have hk0 : (0 : Int) ≤ (k : Int) := by omega
              obtain ⟨b, off, u, rfl, hbl, c0, c1, c2, c3, hv⟩ := RQ.out.cells (brefl W0) hlt
              obtain ⟨A', c', rfl, _, _⟩ := hv
              have hle : ((qAt D.qu k).2.2.2).length ≤ 9223372036854775807 := HB2.out k hlt
              by_cases hbig : 100 < ((qAt D.qu k).2.2.2).length
              · have hd : decide ((100 : Int) < (((qAt D.qu k).2.2.2).length : Int)) = true := decide_eq_true (by omega)
                go_wp2
                go_ret
                exact ⟨false, rfl, fun h => absurd h (by decide), K0.out⟩
              · have hd : decide ((100 : Int) < (((qAt D.qu k).2.2.2).length : Int)) = false := decide_eq_false (by omega)
                go_wp2
                go_roundw
                case rel => exact ⟨k + 1, by omega, by go_num, fun j hj => by rcases Nat.lt_succ_iff_lt_or_eq.1 hj with h | rfl; exact HJ2 j h; omega, by first | trivial | rfl⟩
                case measure => simp [intOf]; omega
            · obtain rfl : k = D.qu.length := by omega
              go_wp2
              go_ret
              exact ⟨true, rfl, fun _ => fw_of (by omega) (by omega) (by omega) HJ0 HJ1 HJ2, K0.out⟩
end Go.Proofs.Ytnegigcjeoenmaa.Dv
