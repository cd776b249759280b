import Derived.Test.YtnegigcjeoenmaaSb2
namespace Go.Proofs.Ytnegigcjeoenmaa.Dv
open Go Go.RowKit
set_option linter.unusedVariables false
def pg (z : Int) : By := List.replicate 32 z
theorem pg_len (z : Int) : (pg z).length = 32 := by simp [pg]
theorem row_by {w : World} {g : Nat} {z : Int} (h : w.rowIs g 5 32 (fun _ => .int .u8 z)) : OwnBy w (.slice (some ⟨g, 0, none⟩) 32 32) (pg z) := by
  obtain ⟨c, hb, hn, hc⟩ := h
  refine ⟨some ⟨g, 0, none⟩, 32, by rw [pg_len], by rw [pg_len]; omega, fun _ => ⟨g, 0, c, rfl, hb, ?_⟩⟩
  rw [pg_len]
  apply List.ext_getElem?
  intro i
  by_cases hi : i < 32
  · rw [List.getElem?_take_of_lt hi, List.drop_zero, List.getElem?_map]
    have e1 : (pg z)[i]? = some z := by unfold pg; rw [List.getElem?_replicate]; simp [hi]
    rw [e1]
    have := hc i hi
    simpa [bc] using this
  · rw [List.getElem?_eq_none (by rw [List.length_take]; omega), List.getElem?_eq_none (by simp [pg]; omega)]
theorem rowIs_below {w w' : World} {g : Nat} {t : TypeId} {n : Nat} {f : Nat → Value} (h : w.rowIs g t n f) (hb : Below w.heap.size w w') : w'.rowIs g t n f := h.of_block (hb.block g h.lt)
theorem zeros32 : (List.replicate 32 (Value.int .u8 0)).toArray.size = 32 := by simp
set_option maxHeartbeats 1000000 in
theorem page_any (z : Int) (w : World) : Calls Try.prog 33 #[.int .u8 z] w (ByR (pg z) w) := by
  obtain ⟨zz, hzz⟩ : ∃ zz : Array Value, zz = madeCells #[.int .u8 0] 32 := ⟨_, rfl⟩
  have hmk : ∀ w, (Instr.makeSlice 35 (.int .i64 32) (.int .i64 32)).run Try.prog w = .ok (.slice (some ⟨w.heap.size, 0, none⟩) 32 32) (w.alloc (.cells zz 5)) := fun w => by
    have := run_make_row' (P := Try.prog) 35 5 (.int .u8 0) 1 Try.underlying35 info5 rfl .i64 .i64 32 (by omega) (by omega) w
    rw [hzz]; exact this
  have RI := hide (show (w.alloc (.cells zz 5)).rowIs w.heap.size 5 32 (fun j => if j < 0 then .int .u8 z else .int .u8 0) by
    rw [hzz]; exact (World.rowIs_made w (.int .u8 0) 32 5).congr fun i _ => by simp)
  have K0 := hide (bal (brefl w) (.cells zz 5))
  clear hzz
  go_enter Try.func33, Try.ntmps33
  go_wp2
  generalize w.alloc (.cells zz 5) = w0 at *
  clear hmk
  go_loopw [4, 8] (fun _ i wr => ∃ k : Nat, k ≤ 32 ∧ i = .int .i64 k ∧ Hid (wr.rowIs w.heap.size 5 32 (fun j => if j < k then .int .u8 z else .int .u8 0)) ∧ Hid (Below w.heap.size w wr)) (fun _ i _ => 32 - (intOf i).toNat)
  case atStart => exact ⟨0, Nat.zero_le _, rfl, RI, K0⟩
  case round =>
    obtain ⟨k, hk, rfl, R, K⟩ := hrel
    by_cases hlt : k < 32
    · have c0 := R.out.cell hlt
      rw [if_neg (by omega)] at c0
      have f0 := R.out.frozen k
      have hk0 : (0 : Int) ≤ (k : Int) := by omega
      have hk1 : (k : Int) < 32 := by omega
      go_wp2
      go_roundw
      case rel => exact ⟨k + 1, by omega, by go_num, hide ((R.out.set k (.int .u8 z)).congr fun j _ => by by_cases e : j = k <;> by_cases e2 : j < k <;> simp [e, e2] <;> omega), hide (bset K.out (Nat.le_refl _) _)⟩
      case measure => simp [intOf]; omega
    · obtain rfl : k = 32 := by omega
      go_wp2
      go_ret
      exact ⟨_, rfl, row_by (R.out.congr fun j hj => by simp [hj]), K.out⟩
end Go.Proofs.Ytnegigcjeoenmaa.Dv
