import Derived.Test.YtflplldamefhoaaFn5
import Derived.Laws.Tables
namespace Go.Proofs.Ytflplldamefhoaa.Bd
open Go Go.RowKit
set_option linter.unusedVariables false
def p0 : Pm := ⟨0, 0, 0, 0, 0⟩
def nv : Nat → Value := fun _ => .slice none 0 0
def nf : Fl := fun _ => []
theorem znC0 : (#[.int .i64 0, .int .i64 0, .int .i64 0, .int .i64 0, .int .i64 0, .slice none 0 0, .slice none 0 0, .slice none 0 0, .slice none 0 0, .slice none 0 0] : Array Value) = znC p0 nv := rfl
theorem OwZ.zero (B : Nat) (w : World) : OwZ B w nv nf := OwZ.nil B w
theorem box_row {w : World} {g : Nat} {cs old : Array Value} (h : Box w g 25 old) : Box (w.setRow g cs) g 25 cs := setRow_heap w g old cs 25 (0, 0) h
theorem kp_row {B g : Nat} {w : World} {cs old : Array Value} (h : Box w g 25 old) (hB : B ≤ g) : Kp B 25 w (w.setRow g cs) := by
  refine ⟨⟨rfl, rfl, rfl, by simp, fun k hk => ?_⟩, fun k hk hn => ?_⟩
  · exact setRow_other w g k cs (by omega)
  · by_cases e : k = g
    · subst e; exact absurd h (hn old)
    · exact setRow_other w g k cs e
theorem box_row_far {w : World} {g b : Nat} {T : TypeId} {cs ds : Array Value} (h : Box w b T ds) (hne : b ≠ g) : Box (w.setRow g cs) b T ds := (setRow_other w g b cs hne).trans h
theorem one_zone {w : World} {p : Pm} {v : Nat → Value} {L : Fl} (h : RdZ w v L) : (znC p v).all (·.oneCell') = true := by
  obtain ⟨A0, c0, e0, _⟩ := h 0 (by omega)
  obtain ⟨A1, c1, e1, _⟩ := h 1 (by omega)
  obtain ⟨A2, c2, e2, _⟩ := h 2 (by omega)
  obtain ⟨A3, c3, e3, _⟩ := h 3 (by omega)
  obtain ⟨A4, c4, e4, _⟩ := h 4 (by omega)
  unfold znC
  rw [e0, e1, e2, e3, e4]
  simp [Value.oneCell']
theorem index_any (v : Nat → Value) {k : Nat} (hk : k < 5) (w : World) : (Instr.index 23 (.agg #[v 0, v 1, v 2, v 3, v 4]) (.int .i64 (k : Int))).run Try.prog w = .ok (v k) w := by
  have h := Try.underlying23
  rcases cases5 hk with rfl | rfl | rfl | rfl | rfl <;> simp [Instr.index, run_underlying h, asIntOf, go_sem]
theorem ret_z1 {fn : Func} {a : Act} {W : World} {g k : Nat} {p : Pm} {v : Nat → Value} {Q : Ending → World → Prop} (hr : fn.results = #[.cell k 25]) (h2 : a.tmps.getD k undef = .pointer (some ⟨g, 0, none⟩)) (hd : a.defers = [])
    (hE : Box W g 25 (znC p v)) (hq : Q (.returned (.agg (znC p v))) W) : bodyPost Try.prog fn Q .ret a W := by
  obtain ⟨c0, c1, c2, c3, c4, c5, c6, c7, c8, c9⟩ := box_all hE
  simp only [Array.getD_eq_getD_getElem?] at h2
  exact bodyPost_ret (v := .agg (znC p v)) (by simp [results, hr, h2, go_sem, c0, c1, c2, c3, c4, c5, c6, c7, c8, c9]; rfl) hd hq
theorem ret_z2 {fn : Func} {a : Act} {W : World} {g k m : Nat} {er : Int} {p : Pm} {v : Nat → Value} {Q : Ending → World → Prop} (hr : fn.results = #[.cell k 25, .tmp m]) (h2 : a.tmps.getD k undef = .pointer (some ⟨g, 0, none⟩)) (h3 : a.tmps.getD m undef = .int .i64 er) (hd : a.defers = [])
    (hE : Box W g 25 (znC p v)) (hq : Q (.returned (.tuple #[.agg (znC p v), .int .i64 er])) W) : bodyPost Try.prog fn Q .ret a W := by
  obtain ⟨c0, c1, c2, c3, c4, c5, c6, c7, c8, c9⟩ := box_all hE
  simp only [Array.getD_eq_getD_getElem?] at h2 h3
  exact bodyPost_ret (v := .tuple #[.agg (znC p v), .int .i64 er]) (by simp [results, hr, h2, h3, go_sem, c0, c1, c2, c3, c4, c5, c6, c7, c8, c9]; rfl) hd hq
theorem ret_z3 {fn : Func} {a : Act} {W : World} {g k m m2 : Nat} {er er2 : Int} {p : Pm} {v : Nat → Value} {Q : Ending → World → Prop} (hr : fn.results = #[.cell k 25, .tmp m, .tmp m2]) (h2 : a.tmps.getD k undef = .pointer (some ⟨g, 0, none⟩)) (h3 : a.tmps.getD m undef = .int .i64 er) (h4 : a.tmps.getD m2 undef = .int .i64 er2) (hd : a.defers = [])
    (hE : Box W g 25 (znC p v)) (hq : Q (.returned (.tuple #[.agg (znC p v), .int .i64 er, .int .i64 er2])) W) : bodyPost Try.prog fn Q .ret a W := by
  obtain ⟨c0, c1, c2, c3, c4, c5, c6, c7, c8, c9⟩ := box_all hE
  simp only [Array.getD_eq_getD_getElem?] at h2 h3 h4
  exact bodyPost_ret (v := .tuple #[.agg (znC p v), .int .i64 er, .int .i64 er2]) (by simp [results, hr, h2, h3, h4, go_sem, c0, c1, c2, c3, c4, c5, c6, c7, c8, c9]; rfl) hd hq
/-- while the lists of a zone are copied: the first k are copies, the others are as they were -/
structure ClS (B : Nat) (w : World) (v v' : Nat → Value) (L : Fl) (k : Nat) : Prop where
  own : ∀ j, j < k → OwI B w (v' j) (L j)
  dis : ∀ i j, i < k → j < k → i ≠ j → (v' i).ownBlock = none ∨ (v' i).ownBlock ≠ (v' j).ownBlock
  rest : ∀ j, k ≤ j → v' j = v j
theorem ClS.kp {B B' : Nat} {T : TypeId} {w w' : World} {v v' : Nat → Value} {L : Fl} {k : Nat} (h : ClS B w v v' L k) (hk : Kp B' T w w') (hne : (3 : TypeId) ≠ T) : ClS B w' v v' L k := ⟨fun j hj => row_kp (h.own j hj) hk hne, h.dis, h.rest⟩
theorem ClS.below {B : Nat} {w w' : World} {v v' : Nat → Value} {L : Fl} {k : Nat} (h : ClS B w v v' L k) (hb : Below w.heap.size w w') : ClS B w' v v' L k := ⟨fun j hj => row_below (h.own j hj) hb, h.dis, h.rest⟩
theorem ClS.step {B : Nat} {w w' : World} {v v' : Nat → Value} {L : Fl} {k : Nat} {u : Value} (h : ClS B w v v' L k) (hB : B ≤ w.heap.size) (hb : Below w.heap.size w w') (hu : OwI w.heap.size w' u (L k)) : ClS B w' v (vset v' k u) L (k + 1) := by
  have hnew : ∀ b, u.ownBlock = some b → w.heap.size ≤ b := by
    intro b e
    obtain ⟨_, ⟨rfl, _⟩ | ⟨g, cap, cur, rfl, hg, _⟩⟩ := hu
    · cases e
    · have : g = b := by simpa [Value.ownBlock] using e
      omega
  refine ⟨fun j hj => ?_, fun i j hi hj hne => ?_, fun j hj => ?_⟩
  · unfold vset
    by_cases e : j = k
    · rw [if_pos e, e]; exact row_mono hu hB
    · rw [if_neg e]; exact row_below (h.own j (by omega)) hb
  · unfold vset
    by_cases e : i = k
    · rw [if_pos e, if_neg (by omega)]
      rcases hx : u.ownBlock with _ | b
      · exact .inl rfl
      · right
        intro e2
        have := own_lt (h.own j (by omega)) e2.symm
        have := hnew b hx
        omega
    · rw [if_neg e]
      by_cases e2 : j = k
      · rw [if_pos e2]
        rcases hx : (v' i).ownBlock with _ | b
        · exact .inl rfl
        · right
          intro e3
          have := own_lt (h.own i (by omega)) hx
          have := hnew b e3.symm
          omega
      · rw [if_neg e2]; exact h.dis i j (by omega) (by omega) hne
  · unfold vset
    rw [if_neg (by omega)]; exact h.rest j (by omega)
theorem ClS.done {B : Nat} {w : World} {v v' : Nat → Value} {L : Fl} (h : ClS B w v v' L 5) : OwZ B w v' L := ⟨h.own, h.dis⟩
end Go.Proofs.Ytflplldamefhoaa.Bd
