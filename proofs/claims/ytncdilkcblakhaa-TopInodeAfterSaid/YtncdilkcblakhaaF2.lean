import Derived.Test.YtncdilkcblakhaaF1
namespace Go.Proofs.Ytncdilkcblakhaa.In
open Go Go.RowKit
set_option linter.unusedVariables false
set_option linter.unusedSimpArgs false
def sm (l : By) (k : Nat) : Int := (l.take k).sum
theorem sm_succ {l : By} {k : Nat} (h : k < l.length) : sm l (k + 1) = sm l k + l.getD k 0 := by
  unfold sm
  rw [List.take_succ_eq_append_getElem h, List.sum_append, List.getD_eq_getElem?_getD, List.getElem?_eq_getElem h]; simp
theorem sm_bd {l : By} (hb : Byt l) : ∀ k, k ≤ l.length → 0 ≤ sm l k ∧ sm l k ≤ 255 * k
  | 0, _ => by simp [sm]
  | k + 1, h => by
    have a := sm_bd hb k (by omega)
    have b := hb.at (show k < l.length by omega)
    rw [sm_succ (by omega)]
    omega
set_option maxHeartbeats 2000000 in
theorem check_any (A : Option Addr) (c : Nat) (l : By) (w : World) (h : BsB w A l) (hn : l.length ≤ 1000) (hb : Byt l) : Calls Try.prog 38 #[.slice A l.length c] w fun e w' => e = .returned (.int .u8 (sm l l.length % 251)) ∧ w = w' := by
  have H := hide h
  have HB := hide (fun k (hk : k ≤ l.length) => sm_bd hb k hk)
  have HY := hide hb
  clear h hb
  go_enter Try.func38, Try.ntmps38
  go_wp2
  go_loopw [3, 8] (fun a i wr => ∃ k : Nat, k ≤ l.length ∧ i = .int .i64 k ∧ a = .int .i64 (sm l k) ∧ wr = w) (fun _ i _ => l.length - (intOf i).toNat)
  case atStart => exact ⟨0, Nat.zero_le _, rfl, rfl, rfl⟩
  case round =>
    obtain ⟨k, hk, rfl, rfl, rfl⟩ := hrel
    have hs := HB.out k hk
    by_cases hlt : k < l.length
    · have hl2 : (k : Int) < (l.length : Int) := by omega
      have hk0 : (0 : Int) ≤ (k : Int) := by omega
      obtain ⟨b, o, rfl, hb, xx⟩ := H.out.cells (brefl _) hlt
      have hy := HY.out.at hlt
      have E := hide (sm_succ hlt)
      generalize l.getD k 0 = x at *
      generalize sm l k = s at *
      have w1 : IntKind.i64.wrap x = x := by rw [IntKind.wrap_i64]; omega
      have w2 : IntKind.i64.wrap (s + x) = s + x := by rw [IntKind.wrap_i64]; omega
      go_wp2
      go_roundw
      case rel => exact ⟨k + 1, by omega, by go_num, by rw [E.out], trivial⟩
      case measure => simp [intOf]; omega
    · obtain rfl : k = l.length := by omega
      obtain ⟨s, hs2⟩ : ∃ s, s = sm l l.length := ⟨_, rfl⟩
      have E := hide hs2
      rw [← hs2] at hs ⊢
      clear hs2
      have w1 : s.tmod 251 = s % 251 := Int.tmod_eq_emod_of_nonneg hs.1
      have w2 : IntKind.u8.wrap (s % 251) = s % 251 := by rw [IntKind.wrap_u8']; omega
      go_wp2
      go_ret
      exact ⟨ret_int (by rw [E.out]), rfl⟩
theorem made_eq5 (m : Nat) : madeCells #[.int .u8 0] m = ((List.replicate m (0 : Int)).map bc).toArray := by
  apply Array.ext'
  apply List.ext_getElem
  · simp [madeCells]
  · intro i h1 h2
    simp [madeCells, Nat.mod_one, bc]
def Z32 : Array Value := ((List.replicate 32 (0 : Int)).map bc).toArray
theorem makeB (w : World) : (Instr.makeSlice 23 (.int .i64 32) (.int .i64 32)).run Try.prog w = .ok (.slice (some ⟨w.heap.size, 0, none⟩) 32 32) (w.alloc (.cells Z32 5)) := by
  have := run_make_row' (P := Try.prog) 23 5 (.int .u8 0) 1 Try.underlying23 info5 rfl .i64 .i64 32 (by omega) (by omega) w
  rw [made_eq5] at this
  exact this
-- A BLOCK OF BYTES
def Bk (w : World) (g : Nat) (l : By) : Prop := Box w g 5 ((l.map bc).toArray)
section
variable {w w' : World} {g : Nat} {l : By}
theorem Bk.below (h : Bk w g l) (hb : Below w.heap.size w w') : Bk w' g l := Box.below h hb
theorem Bk.put (h : Bk w g l) (i : Nat) (v : Int) : Bk (w.setCell ⟨g, i, none⟩ (.int .u8 v)) g (l.set i v) := by
  have := Box.put h i (bc v)
  unfold Bk
  rw [List.map_set, ← List.setIfInBounds_toArray]
  exact this
theorem Bk.cell (h : Bk w g l) {i : Nat} (hi : i < l.length) : w.cell? ⟨g, i, none⟩ = some (.int .u8 (l.getD i 0)) := by
  rw [Box.cell h i]
  simp [bc, List.getD, List.getElem?_eq_getElem hi]
theorem Bk.frozen (h : Bk w g l) (i : Nat) : w.frozen? ⟨g, i, none⟩ = false := Box.frozen h i
theorem Bk.bs (h : Bk w g l) (n : Nat) : BsB w (some ⟨g, 0, none⟩) (l.take n) := fun hn => by
  refine ⟨g, 0, rfl, Box.lt h, fun k hk => ?_⟩
  rw [List.length_take] at hk
  rw [Nat.zero_add, h.cell (by omega)]
  simp [List.getD, List.getElem?_take, show k < n by omega]
theorem Bk.own (h : Bk w g l) {B : Nat} (hB : B ≤ g) (hn : l.length ≤ 1000000) : OwB B w (.slice (some ⟨g, 0, none⟩) l.length l.length) l := by
  have := own_new (xs := l.map bc) h hB (by rw [List.length_map]; exact hn)
  rwa [List.length_map] at this
end
def z32 : By := List.replicate 32 0
def c32 : By := [73, 78, 79, 68] ++ List.replicate 28 0
theorem bk_new (w : World) : Bk (w.alloc (.cells Z32 5)) w.heap.size z32 := Box.new w 5 Z32
set_option maxRecDepth 100000 in
theorem copy_run {w : World} {g : Nat} (h : Bk w g z32) : (Builtin.copy_ #[23, 9] 3 #[.slice (some ⟨g, 0, none⟩) 32 32, .string { data := #[73, 78, 79, 68] }]).run Try.prog w = .ok (goInt 4) (w.setRow g ((c32.map bc).toArray)) := by
  have hst := run_storeCells_at Try.prog g 0 5 [.int .u8 73, .int .u8 78, .int .u8 79, .int .u8 68] 0 _ w h (by simp [z32]) (by intro v hv; simp at hv; rcases hv with rfl | rfl | rfl | rfl <;> rfl)
  obtain ⟨i0, hi0, hz0, hz1, hz2⟩ := info_parts info5
  have hs : (({ data := #[73, 78, 79, 68] } : ByteArray)).size = 4 := rfl
  have he : ((({ data := #[73, 78, 79, 68] } : ByteArray).extract 0 4).data.map fun b => Value.int .u8 b.toNat) = #[.int .u8 73, .int .u8 78, .int .u8 79, .int .u8 68] := by kernel_rfl
  simp [Builtin.copy_, run_underlying Try.underlying23, Builtin.lenOf, Builtin.firstCells, sizeOf, typeInfo, hi0, hz1, hs, he]
  rw [hst]
  rfl
end Go.Proofs.Ytncdilkcblakhaa.In
