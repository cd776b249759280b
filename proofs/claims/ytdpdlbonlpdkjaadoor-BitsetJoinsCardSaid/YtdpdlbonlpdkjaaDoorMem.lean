import Derived.Test.YtdpdlbonlpdkjaaDoorCheck
import Derived.LoopTactic
import Derived.Laws.MakeOwn
import Derived.Deep.OwnRows
import Derived.Laws.OwnMore
namespace Go.Proofs.YtdpdlbonlpdkjaaDoor.Bs
open Go Go.RowKit
set_option linter.unusedVariables false
theorem bal {a w : World} (h : Below a.heap.size a w) (o : Obj) : Below a.heap.size a (w.alloc o) := h.alloc h.size o
theorem bset {a w : World} (h : Below a.heap.size a w) {p : Addr} (hp : a.heap.size ≤ p.block) (v : Value) : Below a.heap.size a (w.setCell p v) := h.setCell hp v
theorem brefl (a : World) : Below a.heap.size a a := Below.refl _ _
theorem btrans {a b c : World} (h : Below a.heap.size a b) (k : Below b.heap.size b c) : Below a.heap.size a c := h.trans (k.mono h.size)
theorem testBit_form (x j : Nat) (hx : x < 2 ^ 64) : (bits .and .u64 ((x : Int) / 2 ^ j) 1 == 1) = x.testBit j := by
  have e : ((2 : Int) ^ j) = ((2 ^ j : Nat) : Int) := by rw [Int.natCast_pow]; rfl
  have e1 : ((x : Int) / 2 ^ j) = ((x / 2 ^ j : Nat) : Int) := by rw [e, Int.natCast_ediv]
  have hl : x / 2 ^ j < 18446744073709551616 := Nat.lt_of_le_of_lt (Nat.div_le_self _ _) (by omega)
  have h := u64_and_nat (x / 2 ^ j) 1 hl (by omega)
  rw [e1, show (1 : Int) = ((1 : Nat) : Int) from rfl, h, Nat.testBit, Nat.shiftRight_eq_div_pow]
  rw [Nat.and_comm]
  have h01 : 1 &&& (x / 2 ^ j) = 0 ∨ 1 &&& (x / 2 ^ j) = 1 := by
    rw [Nat.one_and_eq_mod_two]; omega
  rcases h01 with h | h <;> rw [h] <;> rfl
theorem bit_any (s : Int) (A : Option Addr) (ws : List Nat) (c i : Nat) (w : World) (hr : Wd w A ws) (hw : ∀ x ∈ ws, x < 2 ^ 64) (hn : ws.length ≤ 64) (hi : i < 64 * ws.length) :
    Calls Tryd.prog 35 #[.agg #[.int .i64 s, .slice A ws.length c], .int .i64 (i : Int)] w fun e w' => e = .returned (.bool (bitAt ws i)) ∧ Below w.heap.size w w' := by
  obtain ⟨b, off, rfl, hb, hc⟩ := hr (by intro e; simp [e] at hi)
  have hx := getD_lt hw (i / 64)
  have hcell := hc _ _ (getD_of (ws := ws) (i := i / 64) (by omega))
  have hlt : i / 64 < ws.length := by omega
  unfold bitAt
  clear hc hw
  generalize ws.getD (i / 64) 0 = x at *
  generalize ws.length = n at *
  go_enter Tryd.func35, Tryd.ntmps35
  go_wp2
  go_ret
  exact ⟨ret_bool (testBit_form x (i % 64) hx), bal (brefl _) _⟩
theorem same_size (s t : Int) (A B : Option Addr) (n m c d : Nat) (w : World) (h : (s == t) = false) :
    Calls Tryd.prog 16 #[.agg #[.int .i64 s, .slice A n c], .agg #[.int .i64 t, .slice B m d]] w fun e w' => e = .returned (.bool false) ∧ Below w.heap.size w w' := by
  go_enter Tryd.func16, Tryd.ntmps16
  go_wp2
  all_goals go_ret
  all_goals exact ⟨rfl, bal (bal (brefl _) _) _⟩
theorem same_len (s : Int) (A B : Option Addr) (n m c d : Nat) (w : World) (h : n ≠ m) :
    Calls Tryd.prog 16 #[.agg #[.int .i64 s, .slice A n c], .agg #[.int .i64 s, .slice B m d]] w fun e w' => e = .returned (.bool false) ∧ Below w.heap.size w w' := by
  go_enter Tryd.func16, Tryd.ntmps16
  go_wp2
  all_goals go_ret
  all_goals exact ⟨rfl, bal (bal (brefl _) _) _⟩
theorem new_bad (s : Int) (w : World) (h : s < 0 ∨ 4096 < s) :
    Calls Tryd.prog 12 #[.int .i64 s] w fun e w' => e = .returned (.tuple #[.agg #[.int .i64 0, .slice none 0 0], .int .i64 2]) ∧ Below w.heap.size w w' := by
  rcases h with h | h
  all_goals
    go_enter Tryd.func12, Tryd.ntmps12
    go_wp2
    refine bodyPost_ret (v := .tuple #[.agg #[.int .i64 0, .slice none 0 0], .int .i64 2]) (by simp [results, Tryd.results12, go_sem]) rfl ⟨rfl, ?_⟩
    exact bal (brefl _) _
def uv (x : Nat) : Value := .int .u64 (x : Int)
/-- A block of the call's own whose first cells hold a list of words. -/
def Own (w : World) (g : Nat) (ws : List Nat) : Prop := ∃ cur : Array Value, w.heap[g]? = some (.cells cur 42 (0, 0)) ∧ cur.toList.take ws.length = ws.map uv
theorem Own.lt {w : World} {g : Nat} {ws : List Nat} (h : Own w g ws) : g < w.heap.size := by
  obtain ⟨cur, h, _⟩ := h
  rcases Nat.lt_or_ge g w.heap.size with h1 | h1
  · exact h1
  · rw [Array.getElem?_eq_none h1] at h; cases h
theorem Own.cell {w : World} {g : Nat} {ws : List Nat} (h : Own w g ws) (j x : Nat) (hj : ws[j]? = some x) : w.cell? ⟨g, j, none⟩ = some (.int .u64 (x : Int)) := by
  obtain ⟨cur, h, ht⟩ := h
  have e : cur[j]? = some (uv x) := by
    have hlt : j < ws.length := by
      rcases Nat.lt_or_ge j ws.length with h1 | h1
      · exact h1
      · rw [List.getElem?_eq_none h1] at hj; cases hj
    have h1 : (cur.toList.take ws.length)[j]? = (ws.map uv)[j]? := by rw [ht]
    rw [List.getElem?_take_of_lt hlt, List.getElem?_map, hj] at h1
    simpa using h1
  simp [World.cell?, h, e, uv]
theorem Own.free {w : World} {g : Nat} {ws : List Nat} (h : Own w g ws) (j : Nat) : w.frozen? ⟨g, j, none⟩ = false := by
  obtain ⟨cur, h, _⟩ := h
  simp [World.frozen?, h]
theorem Own.wd {w : World} {g : Nat} {ws : List Nat} (h : Own w g ws) : Wd w (some ⟨g, 0, none⟩) ws := fun _ =>
  ⟨g, 0, rfl, h.lt, fun j x hj => by rw [Nat.zero_add, h.cell j x hj]⟩
theorem Own.new (w : World) (ws : List Nat) : Own (w.alloc (.cells (ws.map uv).toArray 42)) w.heap.size ws := by
  refine ⟨(ws.map uv).toArray, ?_, List.take_of_length_le (by simp)⟩
  show (w.heap.push _)[w.heap.size]? = _
  simp
theorem Own.below {w w' : World} {g B : Nat} {ws : List Nat} (h : Own w g ws) (hb : Below B w w') (hg : g < B) : Own w' g ws := by
  obtain ⟨cur, h, ht⟩ := h
  exact ⟨cur, (hb.block g hg).trans h, ht⟩
theorem Own.far {w : World} {g : Nat} {ws : List Nat} (h : Own w g ws) {p : Addr} (hp : g ≠ p.block) (u : Value) : Own (w.setCell p u) g ws := by
  obtain ⟨cur, h, ht⟩ := h
  exact ⟨cur, (Below.heap_setCell w p u g hp).trans h, ht⟩
theorem Own.drewN {w : World} {g : Nat} {ws : List Nat} (h : Own w g ws) (n : Nat) : Own (w.drewN n) g ws := h
theorem Own.drew {w : World} {g : Nat} {ws : List Nat} (h : Own w g ws) : Own w.drew g ws := h
theorem Own.alloc {w : World} {g : Nat} {ws : List Nat} (h : Own w g ws) (o : Obj) : Own (w.alloc o) g ws := by
  have hl := h.lt
  obtain ⟨cur, h, ht⟩ := h
  exact ⟨cur, (Below.heap_alloc w o g hl).trans h, ht⟩
theorem Own.set_ {w : World} {g : Nat} {ws : List Nat} (h : Own w g ws) (j x : Nat) : Own (w.setCell ⟨g, j, none⟩ (.int .u64 (x : Int))) g (ws.set j x) := by
  obtain ⟨cur, h, ht⟩ := h
  refine ⟨cur.setIfInBounds j (uv x), ?_, ?_⟩
  · simp [World.setCell, Array.getElem?_modify, h, uv]
  · rw [Array.toList_setIfInBounds, List.length_set, List.take_set, ht, List.map_set]
/-- A slice of the call's own, nil let in, that reads as a list of words. -/
def Mine (base : Nat) (w : World) (A : Option Addr) (ws : List Nat) : Prop := ws ≠ [] → ∃ g, A = some ⟨g, 0, none⟩ ∧ base ≤ g ∧ Own w g ws
theorem Mine.wd {base : Nat} {w : World} {A : Option Addr} {ws : List Nat} (h : Mine base w A ws) : Wd w A ws := fun hn => by
  obtain ⟨g, e, _, h⟩ := h hn
  rw [e]
  exact h.wd hn
theorem Mine.of_row {base n : Nat} {w : World} {A : Option Addr} {ws : List Nat} {c : Nat} (h : w.ownsRow base 42 1 (.slice A n c) n (ws.map uv)) : Mine base w A ws := fun hn => by
  obtain ⟨hl, h | ⟨g, cap, cur, e, hg, hh, _, _, _, ht⟩⟩ := h
  · exfalso
    have : ws.length = 0 := by simpa [h.2] using hl
    exact hn (List.eq_nil_of_length_eq_zero this)
  · have hA : A = some ⟨g, 0, none⟩ := by injection e
    have hn : ws.length = n * 1 := by simpa using hl
    exact ⟨g, hA, hg, cur, hh, by rw [hn]; exact ht⟩
theorem own_made (w : World) (n : Nat) : Own (w.alloc (.cells (madeCells #[.int .u64 0] n) 42)) w.heap.size (List.replicate n 0) := by
  have e : madeCells #[.int .u64 0] n = ((List.replicate n 0).map uv).toArray := by
    apply Array.ext'
    rw [toList_madeCells_one]
    simp [uv]
  rw [e]
  exact Own.new w _
theorem info42 : (Tryd.prog.info? 42).map (fun i => (i.zero, i.size, i.bytes)) = some (some (.int .u64 0), 1, 8) := by kernel_rfl
theorem new_good (s : Int) (n : Nat) (w : World) (h : 0 ≤ s) (h' : s ≤ 4096) (hn : (s + 63) / 64 = (n : Int)) :
    Calls Tryd.prog 12 #[.int .i64 s] w fun e w' => ∃ A, e = .returned (.tuple #[.agg #[.int .i64 s, .slice A n n], .int .i64 0]) ∧ Wd w' A (List.replicate n 0) ∧ Below w.heap.size w w' := by
  have hmk := fun W => run_make_row' (P := Tryd.prog) 22 42 (.int .u64 0) 8 Tryd.underlying22 info42 rfl .i64 .i64 n (by omega) (by omega) W
  have H := hide hn
  clear hn
  go_enter Tryd.func12, Tryd.ntmps12
  go_wp2_with (go_at_call 33; refine (wc_is s n _ h h' H.out).mono ?_; rintro e w' ⟨rfl, rfl⟩)
  refine bodyPost_ret (v := .tuple #[.agg #[.int .i64 s, .slice (some ⟨w.heap.size + 1, 0, none⟩) n n], .int .i64 0]) (by simp [results, Tryd.results12, go_sem]) rfl ⟨_, rfl, ?_, ?_⟩
  · have h0 := own_made (w.alloc (Obj.cells #[Value.int IntKind.i64 s, Value.slice (some { block := w.heap.size + 1, off := 0 }) n n] 24)) n
    simpa using h0.wd
  · exact bal (bal (brefl _) _) _
theorem rnew_bad (s : Int) (w : World) (h : s < 0 ∨ 4096 < s) :
    Calls Tryd.prog 13 #[.int .i64 s] w fun e w' => e = .returned (.tuple #[.agg #[.int .i64 0, .slice none 0 0], .int .i64 2]) ∧ Below w.heap.size w w' := by
  rcases h with h | h
  all_goals
    go_enter Tryd.func13, Tryd.ntmps13
    go_wp2
    refine bodyPost_ret (v := .tuple #[.agg #[.int .i64 0, .slice none 0 0], .int .i64 2]) (by simp [results, Tryd.results13, go_sem]) rfl ⟨rfl, ?_⟩
    exact bal (brefl _) _
theorem rnew_good (s : Int) (n : Nat) (w : World) (h : 0 ≤ s) (h' : s ≤ 4096) (hn : (s + 63) / 64 = (n : Int)) :
    Calls Tryd.prog 13 #[.int .i64 s] w fun e w' => ∃ A, e = .returned (.tuple #[.agg #[.int .i64 s, .slice A n n], .int .i64 0]) ∧ Wd w' A (List.replicate n 0) ∧ Below w.heap.size w w' := by
  have hmk := fun W => run_make_row' (P := Tryd.prog) 22 42 (.int .u64 0) 8 Tryd.underlying22 info42 rfl .i64 .i64 n (by omega) (by omega) W
  go_enter Tryd.func13, Tryd.ntmps13
  go_wp2
  refine bodyPost_ret (v := .tuple #[.agg #[.int .i64 s, .slice (some ⟨w.heap.size + 1, 0, none⟩) n n], .int .i64 0]) (by simp [results, Tryd.results13, go_sem]) rfl ⟨_, rfl, ?_, ?_⟩
  · have h0 := own_made (w.alloc (Obj.cells #[Value.int IntKind.i64 s, Value.slice (some { block := w.heap.size + 1, off := 0 }) n n] 24)) n
    simpa using h0.wd
  · exact bal (bal (brefl _) _) _
end Go.Proofs.YtdpdlbonlpdkjaaDoor.Bs
