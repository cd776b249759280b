import Derived.Test.YtncjicggolmofaaNx
import Derived.Test.YtncjicggolmofaaSrt
import Derived.Sort.OwnSortedInts
import Derived.RangeFuncNested
import Derived.RangeFuncBound
import Derived.RangeFuncCalls
import Derived.RangeFuncLeaves
import Derived.RangeFuncBox
import Derived.Shelf.RegionOpen
import Derived.OwnWalkIn
import Derived.TacticsInMore
import Derived.LoopNIn
import Derived.LoopIn
namespace Go.Proofs.Ytncjicggolmofaa.Sb
open Go Go.RowKit Go.Shelf
set_option linter.unusedVariables false
set_option linter.unusedSimpArgs false
attribute [local go_sem] Oper.semAt_some
theorem cell_box1 {w : World} {g : Nat} {t : TypeId} {v : Value} (h : Box w g t #[v]) : w.cell? ⟨g, 0, none⟩ = some v := h.cell 0
theorem take_snocI {l : Is} {k : Nat} (h : k < l.length) : l.take (k + 1) = l.take k ++ [l.getD k 0] := by
  rw [List.take_succ_eq_append_getElem h, List.getD_eq_getElem?_getD, List.getElem?_eq_getElem h]; rfl
set_option maxRecDepth 100000 in
set_option maxHeartbeats 2000000 in
/-- the iterator of slices.Values -/
theorem vals1_in (n l B n₀ c : Nat) (hn : 1 ≤ n) (A : Option Addr) (fs : Is) (w0 : World) (hreach : fs.length ≤ 100000) (hq : Bi w0 A fs) (hB : Box w0 B 35 #[.slice A fs.length c]) (hn₀ : n₀ = w0.heap.size) (J Jx : Is → World → Prop)
    (hY : ∀ pre x W, J pre W → pre.length < fs.length → YieldAt Fence.wide (n - 1) Try.prog l #[.int .i64 x] W fun e W' =>
      (e = .returned (.bool true) ∧ J (pre ++ [x]) W' ∧ Below n₀ W W') ∨ (e = .returned (.bool false) ∧ Jx (pre ++ [x]) W'))
    (W : World) (hb : Below n₀ w0 W) (h0 : J [] W) :
    CallsIn Fence.wide n Try.prog 54 #[.func (.yield l) #[] #[], .pointer (some ⟨B, 0, none⟩)] W fun e W' => (∃ v, e = .returned v) ∧
      ((∃ ys, ys = fs ∧ J ys W') ∨ (∃ pre, True ∧ Jx pre W')) := by
  have s1 := cell_box1 (show Box W B 35 #[.slice A fs.length c] from hB.below (hn₀ ▸ hb))
  have Q := hide hq
  have HBW := hide hb
  have HN := hide hn₀
  clear hB hq hb hn₀
  refine callsIn_of_wp Try.func54 rfl trivial ?_ rfl
  simp only [Try.ntmps54, List.size_toArray, List.length_cons, List.length_nil, Nat.reduceAdd, Nat.reduceSub, Array.replicate_succ, Array.replicate_zero, List.push_toArray, List.append_toArray, List.nil_append, List.cons_append]
  gi_wp2
  clear s1
  gi_loopw [7] (fun i wr => ∃ k : Nat, k ≤ fs.length ∧ i = .int .i64 k ∧ J (fs.take k) wr ∧ Hid (Below n₀ w0 wr)) (fun i _ => fs.length - (intOf i).toNat)
  case atStart => exact ⟨0, Nat.zero_le _, rfl, h0, HBW⟩
  case round =>
    obtain ⟨k, hk, rfl, hJs, K⟩ := hrel
    by_cases hlt : k < fs.length
    · obtain ⟨fn, tmps, assign, body, hy, hR⟩ := hY _ (fs.getD k 0) wr hJs (by rw [List.length_take]; omega)
      obtain ⟨b2, o2, rfl, hl2, x2⟩ := Q.out.cells (HN.out ▸ K.out) hlt
      have TS := hide (take_snocI hlt)
      generalize fs.getD k 0 = z at *
      have RR := hide hR
      have hki : (k : Int) < fs.length := by omega
      clear hR
      gi_wp2
      refine RR.out.mono ?_
      rintro e W3 (⟨rfl, hJ3, hk3⟩ | ⟨rfl, hJx3⟩)
      · gi_wp2
        go_roundw
        case rel => exact ⟨k + 1, by omega, by go_num, by rw [TS.out]; exact hJ3, hide (K.out.trans hk3)⟩
        case measure => simp [intOf]; omega
      · gi_wp2
        refine bodyPost_ret (results_none rfl _ _ _) rfl ?_
        exact ⟨⟨_, rfl⟩, .inr ⟨_, trivial, hJx3⟩⟩
    · obtain rfl : k = fs.length := by omega
      rw [List.take_length] at hJs
      gi_wp2
      go_end0
      exact ⟨⟨_, rfl⟩, .inl ⟨_, rfl, hJs⟩⟩
theorem vals_any (A : Option Addr) (m c : Nat) (w : World) : Calls Try.prog 43 #[.slice A m c] w fun e w' => e = .returned (.func (.func 54) #[] #[.pointer (some ⟨w.heap.size, 0, none⟩)]) ∧ w.alloc (.cells #[.slice A m c] 35) = w' := by
  go_enter Try.func43, Try.ntmps43
  go_wp2
  go_ret
  exact ⟨rfl, rfl⟩
theorem vals_stops (n B n₀ c : Nat) (hn : 1 ≤ n) (A : Option Addr) (fs : Is) (w0 w : World) (hreach : fs.length ≤ 100000) (hq : Bi w0 A fs) (hB : Box w0 B 35 #[.slice A fs.length c]) (hn₀ : n₀ = w0.heap.size) (hb : Below n₀ w0 w) :
    SeqStopsK Fence.wide n Try.prog 54 #[.pointer (some ⟨B, 0, none⟩)] (fun x : Int => #[Value.int .i64 x]) (Below n₀) (fun ys => ys = fs) (fun _ => True) fs.length w := fun l J Jx W hW _ _ hY h0 =>
  vals1_in n l B n₀ c hn A fs w0 hreach hq hB hn₀ J Jx hY W (hb.trans (hW.mono (by rw [hn₀]; rw [hn₀] at hb; exact hb.size))) h0
end Go.Proofs.Ytncjicggolmofaa.Sb
