import Derived.Test.YtkcopcmoaloecaaT3
namespace Go.Proofs.Ytkcopcmoaloecaa.Fp
open Go Go.RowKit
set_option linter.unusedVariables false
set_option linter.unusedSimpArgs false
/-- a plan as a value -/
def pV (p : P5) : Value := .agg #[.int .i64 p.ac, .int .i64 p.er, .int .i64 p.wa, .int .i64 p.ke, .int .i64 p.us]
def pC (p : P5) : Array Value := #[.int .i64 p.ac, .int .i64 p.er, .int .i64 p.wa, .int .i64 p.ke, .int .i64 p.us]
def PB (w : World) (g : Nat) (p : P5) : Prop := Box w g 28 (pC p)
theorem PB.cells {w : World} {g : Nat} {ac er wa ke us : Int} (h : PB w g ⟨ac, er, wa, ke, us⟩) : w.cell? ⟨g, 0, none⟩ = some (.int .i64 ac) ∧ w.cell? ⟨g, 1, none⟩ = some (.int .i64 er) ∧ w.cell? ⟨g, 2, none⟩ = some (.int .i64 wa) ∧ w.cell? ⟨g, 3, none⟩ = some (.int .i64 ke) ∧ w.cell? ⟨g, 4, none⟩ = some (.int .i64 us) :=
  ⟨Box.cell h 0, Box.cell h 1, Box.cell h 2, Box.cell h 3, Box.cell h 4⟩
theorem PB.free {w : World} {g : Nat} {p : P5} (h : PB w g p) : w.frozen? ⟨g, 0, none⟩ = false ∧ w.frozen? ⟨g, 1, none⟩ = false ∧ w.frozen? ⟨g, 2, none⟩ = false ∧ w.frozen? ⟨g, 3, none⟩ = false ∧ w.frozen? ⟨g, 4, none⟩ = false :=
  ⟨Box.frozen h 0, Box.frozen h 1, Box.frozen h 2, Box.frozen h 3, Box.frozen h 4⟩
theorem PB.below {w w' : World} {g : Nat} {p : P5} (h : PB w g p) (hb : Below w.heap.size w w') : PB w' g p := Box.below h hb
theorem box_row {w : World} {g : Nat} {t : TypeId} {cs old : Array Value} (h : Box w g t old) : Box (w.setRow g cs) g t cs := setRow_heap w g old cs t (0, 0) h
theorem box_row_far {w : World} {g b : Nat} {T : TypeId} {cs ds : Array Value} (h : Box w b T ds) (hne : b ≠ g) : Box (w.setRow g cs) b T ds := (setRow_other w g b cs hne).trans h
theorem row_below2 {B g : Nat} {a w : World} {cs : Array Value} (h : Below B a w) (hB : B ≤ g) : Below B a (w.setRow g cs) :=
  h.trans ⟨rfl, rfl, rfl, by simp, fun k hk => setRow_other w g k cs (by omega)⟩
theorem ret_p1 {fn : Func} {a : Act} {W : World} {g k : Nat} {ac er wa ke us : Int} {Q : Ending → World → Prop} (hr : fn.results = #[.cell k 28]) (h2 : a.tmps.getD k undef = .pointer (some ⟨g, 0, none⟩)) (hd : a.defers = [])
    (hE : PB W g ⟨ac, er, wa, ke, us⟩) (hq : Q (.returned (.agg #[.int .i64 ac, .int .i64 er, .int .i64 wa, .int .i64 ke, .int .i64 us])) W) : bodyPost Try.prog fn Q .ret a W :=
  bodyPost_ret (results_cell_row hr _ W g 28 _ (0, 0) _ h2 hE Try.underlying28 rfl (by kernel_rfl)) hd hq
theorem ret_p2 {fn : Func} {a : Act} {W : World} {g k m : Nat} {ac er wa ke us e : Int} {Q : Ending → World → Prop} (hr : fn.results = #[.cell k 28, .tmp m]) (h2 : a.tmps.getD k undef = .pointer (some ⟨g, 0, none⟩)) (h3 : a.tmps.getD m undef = .int .i64 e) (hd : a.defers = [])
    (hE : PB W g ⟨ac, er, wa, ke, us⟩) (hq : Q (.returned (.tuple #[.agg #[.int .i64 ac, .int .i64 er, .int .i64 wa, .int .i64 ke, .int .i64 us], .int .i64 e])) W) : bodyPost Try.prog fn Q .ret a W := by
  obtain ⟨c0, c1, c2, c3, c4⟩ := PB.cells hE
  simp only [Array.getD_eq_getD_getElem?] at h2 h3
  exact bodyPost_ret (v := .tuple #[.agg #[.int .i64 ac, .int .i64 er, .int .i64 wa, .int .i64 ke, .int .i64 us], .int .i64 e]) (by simp [results, hr, h2, h3, go_sem, c0, c1, c2, c3, c4]) hd hq
set_option maxHeartbeats 4000000 in
theorem refuse_any (x : Int) (w : World) : Calls Try.prog 34 #[.int .i64 x] w fun e w' => e = .returned (.agg #[.int .i64 1, .int .i64 x, .int .i64 0, .int .i64 0, .int .i64 0]) ∧ Below w.heap.size w w' := by
  have K := hide (bal (brefl w) (.cells #[.int .i64 1, .int .i64 x, .int .i64 0, .int .i64 0, .int .i64 0] 28))
  go_enter Try.func34, Try.ntmps34
  go_wp2
  exact ret_p1 rfl rfl rfl (Box.new w 28 _) ⟨rfl, K.out⟩
set_option maxHeartbeats 4000000 in
theorem wait_any (x : Int) (w : World) : Calls Try.prog 40 #[.int .i64 x] w fun e w' => e = .returned (.agg #[.int .i64 2, .int .i64 0, .int .i64 x, .int .i64 0, .int .i64 0]) ∧ Below w.heap.size w w' := by
  have K := hide (bal (brefl w) (.cells #[.int .i64 2, .int .i64 0, .int .i64 x, .int .i64 0, .int .i64 0] 28))
  go_enter Try.func40, Try.ntmps40
  go_wp2
  exact ret_p1 rfl rfl rfl (Box.new w 28 _) ⟨rfl, K.out⟩
set_option maxHeartbeats 4000000 in
theorem rrefuse_any (x : Int) (w : World) : Calls Try.prog 24 #[.int .i64 x] w fun e w' => e = .returned (.tuple #[.agg #[.int .i64 1, .int .i64 x, .int .i64 0, .int .i64 0, .int .i64 0], .int .i64 0]) ∧ Below w.heap.size w w' := by
  have K := hide (bal (brefl w) (.cells #[.int .i64 1, .int .i64 x, .int .i64 0, .int .i64 0, .int .i64 0] 28))
  go_enter Try.func24, Try.ntmps24
  go_wp2
  exact ret_p2 rfl rfl rfl rfl (Box.new w 28 _) ⟨rfl, K.out⟩
set_option maxHeartbeats 4000000 in
theorem rwait_any (x : Int) (w : World) : Calls Try.prog 27 #[.int .i64 x] w fun e w' => e = .returned (.tuple #[.agg #[.int .i64 2, .int .i64 0, .int .i64 x, .int .i64 0, .int .i64 0], .int .i64 0]) ∧ Below w.heap.size w w' := by
  have K := hide (bal (brefl w) (.cells #[.int .i64 2, .int .i64 0, .int .i64 x, .int .i64 0, .int .i64 0] 28))
  go_enter Try.func27, Try.ntmps27
  go_wp2
  exact ret_p2 rfl rfl rfl rfl (Box.new w 28 _) ⟨rfl, K.out⟩
set_option maxHeartbeats 4000000 in
theorem rplan_any (x y z : Int) (w : World) : Calls Try.prog 26 #[.int .i64 x, .int .i64 y, .int .i64 z] w fun e w' => e = .returned (.tuple #[.agg #[.int .i64 x, .int .i64 0, .int .i64 0, .int .i64 y, .int .i64 z], .int .i64 0]) ∧ Below w.heap.size w w' := by
  have K := hide (bal (brefl w) (.cells #[.int .i64 x, .int .i64 0, .int .i64 0, .int .i64 y, .int .i64 z] 28))
  go_enter Try.func26, Try.ntmps26
  go_wp2
  exact ret_p2 rfl rfl rfl rfl (Box.new w 28 _) ⟨rfl, K.out⟩
end Go.Proofs.Ytkcopcmoaloecaa.Fp
