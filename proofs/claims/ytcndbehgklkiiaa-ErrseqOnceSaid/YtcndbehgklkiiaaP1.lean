import Derived.Test.YtcndbehgklkiiaaP0
namespace Go.Proofs.Ytcndbehgklkiiaa.Es
open Go Go.RowKit
set_option linter.unusedVariables false
set_option linter.unusedSimpArgs false
theorem info3 : (Try.prog.info? 3).map (fun i => (i.zero, i.size, i.bytes)) = some (some (.int .i64 0), 1, 8) := by kernel_rfl
theorem info4 : (Try.prog.info? 4).map (fun i => (i.zero, i.size, i.bytes)) = some (some (.bool false), 1, 1) := by kernel_rfl
theorem make3 (w : World) : (Instr.makeSlice 56 (.int .i64 4) (.int .i64 4)).run Try.prog w = .ok (.slice (some ⟨w.heap.size, 0, none⟩) 4 4) (w.alloc (.cells (madeCells #[.int .i64 0] 4) 3)) :=
  run_make_row' (P := Try.prog) 56 3 (.int .i64 0) 8 Try.underlying56 info3 rfl .i64 .i64 4 (by omega) (by omega) w
theorem make4 (w : World) : (Instr.makeSlice 35 (.int .i64 4) (.int .i64 4)).run Try.prog w = .ok (.slice (some ⟨w.heap.size, 0, none⟩) 4 4) (w.alloc (.cells (madeCells #[.bool false] 4) 4)) :=
  run_make_row' (P := Try.prog) 35 4 (.bool false) 1 Try.underlying35 info4 rfl .i64 .i64 4 (by omega) (by omega) w
theorem Rw.made3 (w : World) : Rw (w.alloc (.cells (madeCells #[.int .i64 0] 4) 3)) w.heap.size 3 (fun _ => .int .i64 0) := World.rowIs_made w (.int .i64 0) 4 3
theorem Rw.made4 (w : World) : Rw (w.alloc (.cells (madeCells #[.bool false] 4) 4)) w.heap.size 4 (fun _ => .bool false) := World.rowIs_made w (.bool false) 4 4
/-- what Start answers -/
def StR (w : World) (e : Ending) (w' : World) : Prop := ∃ p gk gb, e = .returned (.pointer (some ⟨p, 0, none⟩)) ∧ w.heap.size ≤ p ∧ w.heap.size ≤ gk ∧ w.heap.size ≤ gb ∧ Wd w' p gk gb 0 0 (fun _ => 0) (fun _ => false) ∧ Below w.heap.size w w'
set_option maxRecDepth 100000 in
set_option maxHeartbeats 2000000 in
theorem start_any (w : World) : Calls Try.prog 37 #[.int .i64 4] w fun e w' => StR w e w' := by
  obtain ⟨z3, hz3⟩ : ∃ z : Array Value, z = madeCells #[.int .i64 0] 4 := ⟨_, rfl⟩
  obtain ⟨z4, hz4⟩ : ∃ z : Array Value, z = madeCells #[.bool false] 4 := ⟨_, rfl⟩
  have hm3 : ∀ w, (Instr.makeSlice 56 (.int .i64 4) (.int .i64 4)).run Try.prog w = .ok (.slice (some ⟨w.heap.size, 0, none⟩) 4 4) (w.alloc (.cells z3 3)) := fun w => by rw [hz3]; exact make3 w
  have hm4 : ∀ w, (Instr.makeSlice 35 (.int .i64 4) (.int .i64 4)).run Try.prog w = .ok (.slice (some ⟨w.heap.size, 0, none⟩) 4 4) (w.alloc (.cells z4 4)) := fun w => by rw [hz4]; exact make4 w
  have R3 := hide (fun (w : World) => show Rw (w.alloc (.cells z3 3)) w.heap.size 3 (fun _ => .int .i64 0) by rw [hz3]; exact Rw.made3 w)
  have R4 := hide (fun (w : World) => show Rw (w.alloc (.cells z4 4)) w.heap.size 4 (fun _ => .bool false) by rw [hz4]; exact Rw.made4 w)
  clear hz3 hz4
  go_enter Try.func37, Try.ntmps37
  go_upto_region 1 with fail
  go_region
  · go_wp2
    go_ret
    have BX := Box.new ((w.alloc (.cells z3 3)).alloc (.cells z4 4)) 67 #[.int .i64 0, .int .i64 0, .slice (some ⟨w.heap.size, 0, none⟩) 4 4, .slice (some ⟨w.heap.size + 1, 0, none⟩) 4 4]
    rw [alloc_size', alloc_size'] at BX
    have RA := R3.out w
    have RB := R4.out (w.alloc (.cells z3 3))
    rw [alloc_size'] at RB
    have e1 := (bal (brefl (w.alloc (.cells z3 3))) (.cells z4 4)).block (w.heap.size) (by rw [alloc_size']; omega)
    have e2 := (bal (brefl ((w.alloc (.cells z3 3)).alloc (.cells z4 4))) (.cells #[.int .i64 0, .int .i64 0, .slice (some ⟨w.heap.size, 0, none⟩) 4 4, .slice (some ⟨w.heap.size + 1, 0, none⟩) 4 4] 67)).block (w.heap.size) (by rw [alloc_size', alloc_size']; omega)
    have e3 := (bal (brefl ((w.alloc (.cells z3 3)).alloc (.cells z4 4))) (.cells #[.int .i64 0, .int .i64 0, .slice (some ⟨w.heap.size, 0, none⟩) 4 4, .slice (some ⟨w.heap.size + 1, 0, none⟩) 4 4] 67)).block (w.heap.size + 1) (by rw [alloc_size', alloc_size']; omega)
    exact ⟨w.heap.size + 1 + 1, w.heap.size, w.heap.size + 1, rfl, by omega, by omega, by omega, ⟨BX.drew, RA.blk (e2.trans e1), RB.blk e3, by omega, by omega, by omega⟩, below_drew (bal (bal (bal (brefl w) _) _) _)⟩
  · go_wp2
    go_ret
    have BX := Box.new ((w.alloc (.cells z4 4)).alloc (.cells z3 3)) 67 #[.int .i64 0, .int .i64 0, .slice (some ⟨w.heap.size + 1, 0, none⟩) 4 4, .slice (some ⟨w.heap.size, 0, none⟩) 4 4]
    rw [alloc_size', alloc_size'] at BX
    have RA := R4.out w
    have RB := R3.out (w.alloc (.cells z4 4))
    rw [alloc_size'] at RB
    have e1 := (bal (brefl (w.alloc (.cells z4 4))) (.cells z3 3)).block (w.heap.size) (by rw [alloc_size']; omega)
    have e2 := (bal (brefl ((w.alloc (.cells z4 4)).alloc (.cells z3 3))) (.cells #[.int .i64 0, .int .i64 0, .slice (some ⟨w.heap.size + 1, 0, none⟩) 4 4, .slice (some ⟨w.heap.size, 0, none⟩) 4 4] 67)).block (w.heap.size) (by rw [alloc_size', alloc_size']; omega)
    have e3 := (bal (brefl ((w.alloc (.cells z4 4)).alloc (.cells z3 3))) (.cells #[.int .i64 0, .int .i64 0, .slice (some ⟨w.heap.size + 1, 0, none⟩) 4 4, .slice (some ⟨w.heap.size, 0, none⟩) 4 4] 67)).block (w.heap.size + 1) (by rw [alloc_size', alloc_size']; omega)
    exact ⟨w.heap.size + 1 + 1, w.heap.size + 1, w.heap.size, rfl, by omega, by omega, by omega, ⟨BX.drew, RB.blk e3, RA.blk (e2.trans e1), by omega, by omega, by omega⟩, below_drew (bal (bal (bal (brefl w) _) _) _)⟩
end Go.Proofs.Ytcndbehgklkiiaa.Es
