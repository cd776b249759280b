import Derived.Test.YtinoddpdfknkbabCl2
namespace Go.Proofs.Ytinoddpdfknkbab.Pc
open Go Go.RowKit
set_option linter.unusedVariables false
/-- rows that can be read, in a block of rows of one's own -/
structure OwnR (B : Nat) (w : World) (v : Value) (C : Ls) (vs : List Value) : Prop where
  len : vs.length = C.length
  row : w.ownsRow B 34 1 v C.length vs
  inn : ∀ (k : Nat) (u : Value), vs[k]? = some u → OwnI w u (lAt C k)
section
variable {B B' : Nat} {w w' : World} {v : Value} {C : Ls} {vs : List Value} {z : Nat} {T : TypeId}
theorem OwnR.below (h : OwnR B w v C vs) (hb : Below w.heap.size w w') : OwnR B w' v C vs := ⟨h.len, row_below h.row hb, fun k u hu => (h.inn k u hu).below hb⟩
theorem OwnR.kp (h : OwnR B w v C vs) (hk : Kp B' T w w') (h1 : (34 : TypeId) ≠ T) (h2 : (3 : TypeId) ≠ T) : OwnR B w' v C vs := ⟨h.len, row_kp h.row hk h1, fun k u hu => (h.inn k u hu).kp hk h2⟩
theorem OwnR.mono (h : OwnR B w v C vs) (hB : B' ≤ B) : OwnR B' w v C vs := ⟨h.len, row_mono h.row hB, h.inn⟩
theorem OwnV.r (h : OwnV B w v C vs) : OwnR B w v C vs := ⟨h.len, h.row, fun k u hu => OwnI.of_row' (h.inn k u hu)⟩
theorem OwnX.putR {g n c : Nat} {u : Value} {l : Is} (h : OwnX B w (.slice (some ⟨g, 0, none⟩) n c) C vs z) (hz : z < C.length) (hu : OwnI w u l) : OwnR B (w.setCell ⟨g, z, none⟩ u) (.slice (some ⟨g, 0, none⟩) n c) (C.set z l) (vs.set z u) := by
  have hn := h.fit
  subst hn
  obtain ⟨cur, hX, hB⟩ := row_set_box h.row
  have hk : Kp B 34 w (w.setCell ⟨g, z, none⟩ u) := Kp.boxset hX hB z u
  refine ⟨by simp [h.len], by rw [List.length_set]; exact row_set h.row z u, fun k u' hk' => ?_⟩
  rw [lAt_set hz]
  rcases set_at hk' with ⟨rfl, rfl⟩ | ⟨hne, h1⟩
  · rw [if_pos rfl]; exact hu.kp hk (by decide)
  · rw [if_neg hne]; exact (OwnI.of_row' (h.inn k u' hne h1)).kp hk (by decide)
theorem OwnR.rd {A : Option Addr} {n c : Nat} (h : OwnR B w (.slice A n c) C vs) : RdL w A C := fun hn => by
  obtain ⟨_, _, e, _⟩ := row_form h.row
  injection e with e1 e2 e3
  subst e1 e2 e3
  obtain ⟨g, rfl, hg, _, hc, _⟩ := row_cell h.row (fun h0 => hn (List.eq_nil_of_length_eq_zero h0))
  refine ⟨g, 0, rfl, hg, fun k hk => ?_⟩
  have hl : k < vs.length := by rw [h.len]; exact hk
  exact ⟨vs[k], by rw [Nat.zero_add]; exact hc k _ (List.getElem?_eq_getElem hl), (h.inn k _ (List.getElem?_eq_getElem hl)).is⟩
end
/-- a cache that reads so, behind whatever is stored in boxes -/
def RdO (w : World) (A : Option Addr) (c : Nat) (C : Ls) : Prop := ∃ vs, OwnR 0 w (.slice A C.length c) C vs
theorem RdO.rd {w : World} {A : Option Addr} {c : Nat} {C : Ls} (h : RdO w A c C) : RdL w A C := by
  obtain ⟨vs, h⟩ := h
  exact h.rd
theorem RdO.below {w w' : World} {A : Option Addr} {c : Nat} {C : Ls} (h : RdO w A c C) (hb : Below w.heap.size w w') : RdO w' A c C := by
  obtain ⟨vs, h⟩ := h
  exact ⟨vs, h.below hb⟩
theorem RdO.kp {B : Nat} {w w' : World} {A : Option Addr} {c : Nat} {C : Ls} (h : RdO w A c C) (hk : Kp B 24 w w') : RdO w' A c C := by
  obtain ⟨vs, h⟩ := h
  exact ⟨vs, h.kp hk (by decide) (by decide)⟩
theorem RdO.nil (w : World) : RdO w none 0 [] := ⟨[], (OwnV.nil 0 w).r⟩
theorem RdL.nil (w : World) (A : Option Addr) : RdL w A [] := fun h => absurd rfl h
-- results
section
variable {fn : Func} {a : Act} {W : World} {g k m m2 : Nat} {x y z : Value} {Q : Ending → World → Prop}
theorem ret_c2 (hr : fn.results = #[.cell k 24, .tmp m]) (h2 : a.tmps.getD k undef = .pointer (some ⟨g, 0, none⟩)) (h3 : a.tmps.getD m undef = y) (hd : a.defers = [])
    (hE : Box W g 24 #[x]) (hq : Q (.returned (.tuple #[.agg #[x], y])) W) : bodyPost Try.prog fn Q .ret a W := by
  have c0 := hE.cell 0
  simp at c0
  simp only [Array.getD_eq_getD_getElem?] at h2 h3
  exact bodyPost_ret (v := .tuple #[.agg #[x], y]) (by simp [results, hr, h2, h3, go_sem, c0]) hd hq
theorem ret_c3 (hr : fn.results = #[.cell k 24, .tmp m, .tmp m2]) (h2 : a.tmps.getD k undef = .pointer (some ⟨g, 0, none⟩)) (h3 : a.tmps.getD m undef = y) (h4 : a.tmps.getD m2 undef = z) (hd : a.defers = [])
    (hE : Box W g 24 #[x]) (hq : Q (.returned (.tuple #[.agg #[x], y, z])) W) : bodyPost Try.prog fn Q .ret a W := by
  have c0 := hE.cell 0
  simp at c0
  simp only [Array.getD_eq_getD_getElem?] at h2 h3 h4
  exact bodyPost_ret (v := .tuple #[.agg #[x], y, z]) (by simp [results, hr, h2, h3, h4, go_sem, c0]) hd hq
end
def R2 (C : Ls) (er : Int) (w : World) (e : Ending) (w' : World) : Prop := ∃ A c, e = .returned (.tuple #[.agg #[.slice A C.length c], .int .i64 er]) ∧ C.length ≤ c ∧ RdO w' A c C ∧ Below w.heap.size w w'
def R3 (C : Ls) (f er : Int) (w : World) (e : Ending) (w' : World) : Prop := ∃ A c, e = .returned (.tuple #[.agg #[.slice A C.length c], .int .i64 f, .int .i64 er]) ∧ C.length ≤ c ∧ RdO w' A c C ∧ Below w.heap.size w w'
def RB (C : Ls) (l : Is) (er : Int) (w : World) (e : Ending) (w' : World) : Prop := ∃ A c D d, e = .returned (.tuple #[.agg #[.slice A C.length c], .slice D l.length d, .int .i64 er]) ∧ C.length ≤ c ∧ l.length ≤ d ∧ RdO w' A c C ∧ OwnI w' (.slice D l.length d) l ∧ Below w.heap.size w w'
set_option maxHeartbeats 1000000 in
theorem new_any (z : Int) (w : World) : Calls Try.prog 11 #[.int .i64 z] w (R2 (nwC z) (nwE0 z) w) := by
  have K0 := hide (bal (brefl w) (.cells #[.slice none 0 0] 24))
  have X := hide (Box.new w 24 #[.slice none 0 0])
  have ZC := hide (fun w => zc_any z w)
  unfold nwC nwE0
  by_cases h1 : z < 1 ∨ 6 < z
  · rw [if_pos h1, if_pos h1]
    rw [zc_false h1] at ZC
    have s1 := cell_box1 X.out
    have f1 := X.out.frozen 0
    clear h1
    go_enter Try.func11, Try.ntmps11
    go_wp2_with fail
    refine (ZC.out _).mono ?_
    rintro e w1 ⟨rfl, rfl⟩
    go_wp2
    exact ret_c2 Try.results11 rfl rfl rfl X.out ⟨none, 0, rfl, Nat.le_refl _, RdO.nil _, K0.out⟩
  · rw [if_neg h1, if_neg h1]
    rw [zc_true h1] at ZC
    obtain ⟨n, rfl⟩ : ∃ n : Nat, z = n := ⟨z.toNat, by omega⟩
    rw [Int.toNat_natCast]
    have ln : n ≤ 6 := by omega
    have hmk : ∀ w, (Instr.makeSlice 22 (.int .i64 n) (.int .i64 n)).run Try.prog w = .ok (.slice (some ⟨w.heap.size, 0, none⟩) n n) (w.alloc (.cells (madeCells #[.slice none 0 0] n) 34)) := fun w =>
      run_make_row' (P := Try.prog) 22 34 (.slice none 0 0) 24 Try.underlying22 info34 rfl .i64 .i64 n (by omega) (by omega) w
    have X2 := hide ((Box.new w 24 #[.slice none 0 0]).more (.cells (madeCells #[.slice none 0 0] n) 34))
    have s1 := cell_box1 X2.out
    have f1 := X2.out.frozen 0
    have ON := hide (own_nils (w.alloc (.cells #[.slice none 0 0] 24)) n (by simp only [maxLen]; omega))
    have K2 := hide (bal K0.out (.cells (madeCells #[.slice none 0 0] n) 34))
    have hne : ¬ (w.heap.size = w.heap.size + 1) := by omega
    clear h1
    go_enter Try.func11, Try.ntmps11
    go_wp2_with fail
    refine (ZC.out _).mono ?_
    rintro e w1 ⟨rfl, rfl⟩
    go_wp2
    have RN := hide (show OwnR (w.heap.size + 1) ((w.alloc (Obj.cells #[Value.slice (some ⟨w.heap.size + 1, 0, none⟩) n n] 24)).alloc (Obj.cells (madeCells #[Value.slice none 0 0] n) 34)) (.slice (some ⟨w.heap.size + 1, 0, none⟩) n n) (List.replicate n []) (List.replicate n (.slice none 0 0)) by
      have := (own_nils (w.alloc (.cells #[Value.slice (some ⟨w.heap.size + 1, 0, none⟩) n n] 24)) n (by simp only [maxLen]; omega)).r
      rwa [alloc_size'] at this)
    exact ret_c2 Try.results11 rfl rfl rfl ((Box.new w 24 _).more _) ⟨some ⟨w.heap.size + 1, 0, none⟩, n, congrArg (fun m => Ending.returned (.tuple #[.agg #[.slice (some ⟨w.heap.size + 1, 0, none⟩) m n], .int .i64 0])) (List.length_replicate).symm, by rw [List.length_replicate]; exact Nat.le_refl _, ⟨_, by rw [List.length_replicate]; exact RN.out.mono (Nat.zero_le _)⟩, bal (bal (brefl w) _) _⟩
set_option maxHeartbeats 1000000 in
theorem rnew_any (z : Int) (w : World) : Calls Try.prog 12 #[.int .i64 z] w (R2 (nwC z) (nwE0 z) w) := by
  have K0 := hide (bal (brefl w) (.cells #[.slice none 0 0] 24))
  have X := hide (Box.new w 24 #[.slice none 0 0])
  unfold nwC nwE0
  by_cases h1 : z < 1 ∨ 6 < z
  · rw [if_pos h1, if_pos h1]
    have s1 := cell_box1 X.out
    have f1 := X.out.frozen 0
    by_cases h2 : z < 1
    · have d1 : decide (z < 1) = true := decide_eq_true h2
      clear h1 h2
      go_enter Try.func12, Try.ntmps12
      go_wp2
      exact ret_c2 Try.results12 rfl rfl rfl X.out ⟨none, 0, rfl, Nat.le_refl _, RdO.nil _, K0.out⟩
    · have d1 : decide (z < 1) = false := decide_eq_false h2
      have d2 : decide (6 < z) = true := decide_eq_true (by omega)
      clear h1 h2
      go_enter Try.func12, Try.ntmps12
      go_wp2
      exact ret_c2 Try.results12 rfl rfl rfl X.out ⟨none, 0, rfl, Nat.le_refl _, RdO.nil _, K0.out⟩
  · rw [if_neg h1, if_neg h1]
    obtain ⟨n, rfl⟩ : ∃ n : Nat, z = n := ⟨z.toNat, by omega⟩
    rw [Int.toNat_natCast]
    have ln : n ≤ 6 := by omega
    have ln1 : 1 ≤ n := by omega
    have hmk : ∀ w, (Instr.makeSlice 22 (.int .i64 n) (.int .i64 n)).run Try.prog w = .ok (.slice (some ⟨w.heap.size, 0, none⟩) n n) (w.alloc (.cells (madeCells #[.slice none 0 0] n) 34)) := fun w =>
      run_make_row' (P := Try.prog) 22 34 (.slice none 0 0) 24 Try.underlying22 info34 rfl .i64 .i64 n (by omega) (by omega) w
    have X2 := hide ((Box.new w 24 #[.slice none 0 0]).more (.cells (madeCells #[.slice none 0 0] n) 34))
    have s1 := cell_box1 X2.out
    have f1 := X2.out.frozen 0
    have d1 : decide ((n : Int) < 1) = false := decide_eq_false (by omega)
    have d2 : decide (6 < (n : Int)) = false := decide_eq_false (by omega)
    have d3 : decide (n < 1) = false := decide_eq_false (by omega)
    have d4 : decide (6 < n) = false := decide_eq_false (by omega)
    clear h1
    go_enter Try.func12, Try.ntmps12
    go_wp2
    have RN := hide (show OwnR (w.heap.size + 1) ((w.alloc (Obj.cells #[Value.slice (some ⟨w.heap.size + 1, 0, none⟩) n n] 24)).alloc (Obj.cells (madeCells #[Value.slice none 0 0] n) 34)) (.slice (some ⟨w.heap.size + 1, 0, none⟩) n n) (List.replicate n []) (List.replicate n (.slice none 0 0)) by
      have := (own_nils (w.alloc (.cells #[Value.slice (some ⟨w.heap.size + 1, 0, none⟩) n n] 24)) n (by simp only [maxLen]; omega)).r
      rwa [alloc_size'] at this)
    exact ret_c2 Try.results12 rfl rfl rfl ((Box.new w 24 _).more _) ⟨some ⟨w.heap.size + 1, 0, none⟩, n, congrArg (fun m => Ending.returned (.tuple #[.agg #[.slice (some ⟨w.heap.size + 1, 0, none⟩) m n], .int .i64 0])) (List.length_replicate).symm, by rw [List.length_replicate]; exact Nat.le_refl _, ⟨_, by rw [List.length_replicate]; exact RN.out.mono (Nat.zero_le _)⟩, bal (bal (brefl w) _) _⟩
end Go.Proofs.Ytinoddpdfknkbab.Pc
