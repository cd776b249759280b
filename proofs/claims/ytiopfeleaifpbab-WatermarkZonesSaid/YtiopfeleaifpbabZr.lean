import Derived.Test.YtiopfeleaifpbabFn1
import Derived.Laws.Tables
namespace Go.Proofs.Ytiopfeleaifpbab.Bd
open Go Go.RowKit
set_option linter.unusedVariables false
def p0 : Pm := ⟨0, 0, 0, 0, 0⟩
def nv : Nat → Value := fun _ => .slice none 0 0
def nf : Fl := fun _ => []
theorem znC0 : (#[.int .i64 0, .int .i64 0, .int .i64 0, .int .i64 0, .int .i64 0, .slice none 0 0, .slice none 0 0, .slice none 0 0, .slice none 0 0, .slice none 0 0] : Array Value) = znC p0 nv := rfl
theorem OwZ.zero (B : Nat) (w : World) : OwZ B w nv nf := OwZ.nil B w
theorem box_row {w : World} {g : Nat} {cs old : Array Value} (h : Box w g 44 old) : Box (w.setRow g cs) g 44 cs := setRow_heap w g old cs 44 (0, 0) h
theorem kp_row {B g : Nat} {w : World} {cs old : Array Value} (h : Box w g 44 old) (hB : B ≤ g) : Kp B 44 w (w.setRow g cs) := by
  refine ⟨⟨rfl, rfl, rfl, by simp, fun k hk => ?_⟩, fun k hk hn => ?_⟩
  · exact setRow_other w g k cs (by omega)
  · by_cases e : k = g
    · subst e; exact absurd h (hn old)
    · exact setRow_other w g k cs e
theorem box_row_far {w : World} {g b : Nat} {T : TypeId} {cs ds : Array Value} (h : Box w b T ds) (hne : b ≠ g) : Box (w.setRow g cs) b T ds := (setRow_other w g b cs hne).trans h
theorem one_zone {w : World} {p : Pm} {v : Nat → Value} {L : Fl} (h : RdZ w v L) : (znC p v).all (·.oneCell') = true := by
  obtain ⟨A0, c0, e0, _⟩ := h 0 (by omega)
  obtain ⟨A1, c1, e1, _⟩ := h 1 (by omega)
  obtain ⟨A2, c2, e2, _⟩ := h 2 (by omega)
  obtain ⟨A3, c3, e3, _⟩ := h 3 (by omega)
  obtain ⟨A4, c4, e4, _⟩ := h 4 (by omega)
  unfold znC
  rw [e0, e1, e2, e3, e4]
  simp [Value.oneCell']
theorem index_any (v : Nat → Value) {k : Nat} (hk : k < 5) (w : World) : (Instr.index 42 (.agg #[v 0, v 1, v 2, v 3, v 4]) (.int .i64 (k : Int))).run Try.prog w = .ok (v k) w := by
  have h := Try.underlying42
  rcases cases5 hk with rfl | rfl | rfl | rfl | rfl <;> simp [Instr.index, run_underlying h, asIntOf, go_sem]
theorem ret_z1 {fn : Func} {a : Act} {W : World} {g k : Nat} {p : Pm} {v : Nat → Value} {Q : Ending → World → Prop} (hr : fn.results = #[.cell k 44]) (h2 : a.tmps.getD k undef = .pointer (some ⟨g, 0, none⟩)) (hd : a.defers = [])
    (hE : Box W g 44 (znC p v)) (hq : Q (.returned (.agg (znC p v))) W) : bodyPost Try.prog fn Q .ret a W := by
  obtain ⟨c0, c1, c2, c3, c4, c5, c6, c7, c8, c9⟩ := box_all hE
  simp only [Array.getD_eq_getD_getElem?] at h2
  exact bodyPost_ret (v := .agg (znC p v)) (by simp [results, hr, h2, go_sem, c0, c1, c2, c3, c4, c5, c6, c7, c8, c9]; rfl) hd hq
theorem ret_z2 {fn : Func} {a : Act} {W : World} {g k m : Nat} {er : Int} {p : Pm} {v : Nat → Value} {Q : Ending → World → Prop} (hr : fn.results = #[.cell k 44, .tmp m]) (h2 : a.tmps.getD k undef = .pointer (some ⟨g, 0, none⟩)) (h3 : a.tmps.getD m undef = .int .i64 er) (hd : a.defers = [])
    (hE : Box W g 44 (znC p v)) (hq : Q (.returned (.tuple #[.agg (znC p v), .int .i64 er])) W) : bodyPost Try.prog fn Q .ret a W := by
  obtain ⟨c0, c1, c2, c3, c4, c5, c6, c7, c8, c9⟩ := box_all hE
  simp only [Array.getD_eq_getD_getElem?] at h2 h3
  exact bodyPost_ret (v := .tuple #[.agg (znC p v), .int .i64 er]) (by simp [results, hr, h2, h3, go_sem, c0, c1, c2, c3, c4, c5, c6, c7, c8, c9]; rfl) hd hq
theorem ret_z3 {fn : Func} {a : Act} {W : World} {g k m m2 : Nat} {er er2 : Int} {p : Pm} {v : Nat → Value} {Q : Ending → World → Prop} (hr : fn.results = #[.cell k 44, .tmp m, .tmp m2]) (h2 : a.tmps.getD k undef = .pointer (some ⟨g, 0, none⟩)) (h3 : a.tmps.getD m undef = .int .i64 er) (h4 : a.tmps.getD m2 undef = .int .i64 er2) (hd : a.defers = [])
    (hE : Box W g 44 (znC p v)) (hq : Q (.returned (.tuple #[.agg (znC p v), .int .i64 er, .int .i64 er2])) W) : bodyPost Try.prog fn Q .ret a W := by
  obtain ⟨c0, c1, c2, c3, c4, c5, c6, c7, c8, c9⟩ := box_all hE
  simp only [Array.getD_eq_getD_getElem?] at h2 h3 h4
  exact bodyPost_ret (v := .tuple #[.agg (znC p v), .int .i64 er, .int .i64 er2]) (by simp [results, hr, h2, h3, h4, go_sem, c0, c1, c2, c3, c4, c5, c6, c7, c8, c9]; rfl) hd hq
end Go.Proofs.Ytiopfeleaifpbab.Bd
