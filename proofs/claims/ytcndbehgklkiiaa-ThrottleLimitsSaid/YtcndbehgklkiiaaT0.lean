import Derived.Test.YtcndbehgklkiiaaAPa
import Derived.Laws.MakeOwn
import Derived.Deep.CutBlock
namespace Go.Proofs.Ytcndbehgklkiiaa.Ac
open Go Go.RowKit
set_option linter.unusedVariables false
set_option linter.unusedSimpArgs false
theorem run_loadVar_at {P : Program} (w : World) (p : Addr) (ty : TypeId) (L : List Value) (d : TypeDesc) (hc : ∀ j v, L[j]? = some v → w.cell? (p.add j) = some v)
    (hu : P.underlying ty = some d) (hd : (match d with | .struct _ | .array _ _ => true | _ => false) = true) (hi : (P.info? ty).map (·.size) = some L.length) :
    (loadVar ty p).run P w = .ok (.agg L.toArray) w := by
  have hl : (loadCells p L.length).run P w = .ok L.toArray w := run_loadCells_list (P := P) w p L hc
  cases hq : P.info? ty with
  | none => simp [hq] at hi
  | some i =>
    have hs : i.size = L.length := by simpa [hq] using hi
    have hagg : (isAgg ty).run P w = .ok true w := by
      unfold isAgg
      rw [Sem.run_bind, run_underlying hu w]
      cases d <;> simp_all
    simp [loadVar, Sem.run_bind, hagg, sizeOf, typeInfo, hq, hs, hl]
theorem wp_load_at {P : Program} {o : Oper} {a : Act} {w : World} {K : Act → World → Prop} {Q : Exit → Act → World → Prop} (ty : TypeId) (x : Operand) (ho : o.op = .load ty x)
    (p : Addr) (hx : a.eval x = .pointer (some p)) (L : List Value) (d : TypeDesc) (hc : ∀ j v, L[j]? = some v → w.cell? (p.add j) = some v)
    (hu : P.underlying ty = some d) (hd : (match d with | .struct _ | .array _ _ => true | _ => false) = true) (hi : (P.info? ty).map (·.size) = some L.length)
    (h : K (a.put o.dst (.agg L.toArray)) w) : o.wp P a w K Q := by
  unfold Oper.wp execOp
  simp only [ho, hx, Instr.loadAt, Instr.sureAddr, Sem.run_bind, Sem.run_pure, Result.andThen_ok, run_loadVar_at w p ty L d hc hu hd hi]
  exact h
theorem wpList_load_at {P : Program} {ops : Array Oper} {rest : List Oper} {o : Oper} {a : Act} {w : World} {Q : Exit → Act → World → Prop} (hw : Region.wanted o (yielded ops a.tmps) = true) (ty : TypeId) (x : Operand) (ho : o.op = .load ty x)
    (p : Addr) (hx : a.eval x = .pointer (some p)) (L : List Value) (d : TypeDesc) (hc : ∀ j v, L[j]? = some v → w.cell? (p.add j) = some v)
    (hu : P.underlying ty = some d) (hd : (match d with | .struct _ | .array _ _ => true | _ => false) = true) (hi : (P.info? ty).map (·.size) = some L.length)
    (h : wpList P ops Q rest (a.put o.dst (.agg L.toArray)) w) : wpList P ops Q (o :: rest) a w :=
  wpList_step fun K hK => by rw [if_pos hw]; exact wp_load_at ty x ho p hx L d hc hu hd hi (hK _ _ h)
theorem Box.at {w : World} {g : Nat} {t : TypeId} {L : List Value} (h : Box w g t L.toArray) : ∀ j v, L[j]? = some v → w.cell? ((⟨g, 0, none⟩ : Addr).add j) = some v := fun j v hv => by
  have e : (⟨g, 0, none⟩ : Addr).add j = ⟨g, j, none⟩ := by unfold Addr.add; split <;> simp_all
  rw [e, Box.cell h j]
  simpa using hv
-- FRAMES
structure F4 where
  k : Int
  p : Int
  d : Bool
  s : Int
deriving DecidableEq, Inhabited
def f0 : F4 := ⟨0, 0, false, 0⟩
def fA (L : List F4) (k : Nat) : F4 := L.getD k f0
def frC (f : F4) : List Value := [.int .i64 f.k, .int .i64 f.p, .int .i64 0, .int .i64 0, .int .i64 0, .int .i64 0, .int .i64 0, .int .i64 0, .int .i64 0, .int .i64 f.s, .bool f.d, .bool false, .bool false, .int .i64 0, .slice none 0 0, .slice none 0 0]
def frV (f : F4) : Value := .agg #[.int .i64 f.k, .int .i64 f.p, .int .i64 0, .int .i64 0, .int .i64 0, .int .i64 0, .int .i64 0, .int .i64 0, .int .i64 0, .int .i64 f.s, .bool f.d, .bool false, .bool false, .int .i64 0, .slice none 0 0, .slice none 0 0]
def frs : List F4 → List Value
  | [] => []
  | f :: l => frC f ++ frs l
theorem frs_length : ∀ L : List F4, (frs L).length = L.length * 16
  | [] => rfl
  | f :: l => by rw [frs, List.length_append, frs_length l, List.length_cons, show (frC f).length = 16 from rfl]; omega
theorem frs_append : ∀ L M : List F4, frs (L ++ M) = frs L ++ frs M
  | [], _ => rfl
  | f :: l, M => by rw [List.cons_append, frs, frs, frs_append l M, List.append_assoc]
theorem frs_at : ∀ {L : List F4} {k : Nat}, k < L.length → ∀ j, j < 16 → (frs L)[k * 16 + j]? = (frC (fA L k))[j]?
  | f :: l, 0, _, j, hj => by
    rw [Nat.zero_mul, Nat.zero_add, frs, List.getElem?_append_left (by show j < 16; exact hj)]; rfl
  | f :: l, k + 1, h, j, hj => by
    have ih := frs_at (L := l) (k := k) (by simpa using h) j hj
    have e0 : fA (f :: l) (k + 1) = fA l k := rfl
    rw [e0, frs, List.getElem?_append_right (by show 16 ≤ _; omega), show (k + 1) * 16 + j - (frC f).length = k * 16 + j by show _ - 16 = _; omega]
    exact ih
theorem frC_one (f : F4) : ∀ u ∈ frC f, u.oneCell' = true := by
  intro u h
  simp only [frC, List.mem_cons, List.not_mem_nil, or_false] at h
  rcases h with rfl | rfl | rfl | rfl | rfl | rfl | rfl | rfl | rfl | rfl | rfl | rfl | rfl | rfl | rfl | rfl <;> rfl
theorem frs_one : ∀ L : List F4, ∀ u ∈ frs L, u.oneCell' = true
  | [], u, h => by cases h
  | f :: l, u, h => by
    rw [frs, List.mem_append] at h
    rcases h with h | h
    · exact frC_one f u h
    · exact frs_one l u h
/-- a slice that reads as frames -/
def Fs (w : World) (A : Option Addr) (L : List F4) : Prop := L ≠ [] → ∃ b off, A = some ⟨b, off, none⟩ ∧ b < w.heap.size ∧ ∀ k, k < L.length → ∀ j, j < 16 → w.cell? ⟨b, off + k * 16 + j, none⟩ = (frC (fA L k))[j]?
theorem Fs.below {w w' : World} {A : Option Addr} {L : List F4} (h : Fs w A L) (hb : Below w.heap.size w w') : Fs w' A L := fun hn => by
  obtain ⟨b, off, e, hlt, hc⟩ := h hn
  exact ⟨b, off, e, Nat.lt_of_lt_of_le hlt hb.size, fun k hk j hj => (hb.cell (p := ⟨b, _, none⟩) hlt).trans (hc k hk j hj)⟩
theorem Fs.nil (w : World) (A : Option Addr) : Fs w A [] := fun h => absurd rfl h
/-- the cells of frame k, in a later world: kind, phase, since, dirty -/
theorem Fs.cells {w w' : World} {A : Option Addr} {L : List F4} (h : Fs w A L) (hb : Below w.heap.size w w') {k : Nat} (hk : k < L.length) : ∃ b off, A = some ⟨b, off, none⟩ ∧ b < w.heap.size ∧
    w'.cell? ⟨b, off + k * 16, none⟩ = some (.int .i64 (fA L k).k) ∧ w'.cell? ⟨b, off + k * 16 + 1, none⟩ = some (.int .i64 (fA L k).p) ∧ w'.cell? ⟨b, off + k * 16 + 9, none⟩ = some (.int .i64 (fA L k).s) ∧ w'.cell? ⟨b, off + k * 16 + 10, none⟩ = some (.bool (fA L k).d) := by
  obtain ⟨b, off, e, hl, hc⟩ := h (by rintro rfl; simp at hk)
  have c := fun j hj => (hb.cell (p := ⟨b, off + k * 16 + j, none⟩) hl).trans (hc k hk j hj)
  exact ⟨b, off, e, hl, c 0 (by omega), c 1 (by omega), c 9 (by omega), c 10 (by omega)⟩
/-- all of them, to load it whole -/
theorem Fs.all {w w' : World} {A : Option Addr} {L : List F4} (h : Fs w A L) (hb : Below w.heap.size w w') {k : Nat} (hk : k < L.length) : ∃ b off, A = some ⟨b, off, none⟩ ∧ b < w.heap.size ∧
    ∀ j v, (frC (fA L k))[j]? = some v → w'.cell? ((⟨b, off + k * 16, none⟩ : Addr).add j) = some v := by
  obtain ⟨b, off, e, hl, hc⟩ := h (by rintro rfl; simp at hk)
  refine ⟨b, off, e, hl, fun j v hv => ?_⟩
  have hj : j < 16 := by
    rcases Nat.lt_or_ge j 16 with h | h
    · exact h
    · rw [List.getElem?_eq_none (by show 16 ≤ j; exact h)] at hv; cases hv
  have e : (⟨b, off + k * 16, none⟩ : Addr).add j = ⟨b, off + k * 16 + j, none⟩ := by unfold Addr.add; split <;> simp_all
  rw [e]
  exact ((hb.cell (p := ⟨b, off + k * 16 + j, none⟩) hl).trans (hc k hk j hj)).trans hv
/-- frames in a row of one's own -/
abbrev OwF (B : Nat) (w : World) (v : Value) (L : List F4) : Prop := w.ownsRow B 50 16 v L.length (frs L)
theorem OwF.fs {B c : Nat} {w : World} {A : Option Addr} {L : List F4} (h : OwF B w (.slice A L.length c) L) : Fs w A L := fun hn => by
  obtain ⟨hl, h | ⟨g, cap, cur, e, hg, hh, h4, h5, h6, ht⟩⟩ := h
  · exact absurd (List.eq_nil_of_length_eq_zero h.2) hn
  · injection e with e1 _ e2
    refine ⟨g, 0, e1, blk_lt hh, fun k hk j hj => ?_⟩
    have hu := frs_at hk j hj
    rw [← ht, List.getElem?_take_of_lt (by omega)] at hu
    rw [Nat.zero_add, cell_of_row w g _ cur 50 (0, 0) hh, ← hu]
    simp
theorem owf_nil (B : Nat) (w : World) : OwF B w (.slice none 0 0) [] := ⟨rfl, .inl ⟨rfl, rfl⟩⟩
theorem info50 : (Try.prog.info? 50).map (fun i => (i.zero, i.size, i.bytes)) = some (some (frV f0), 16, 144) := by kernel_rfl
theorem info_50 : (Try.prog.info? 50).map (·.size) = some 16 := by kernel_rfl
theorem fA_get {L : List F4} {k : Nat} (h : k < L.length) : fA L k = L[k] := by
  unfold fA
  rw [List.getD_eq_getElem?_getD, List.getElem?_eq_getElem h]; rfl
/-- a frame counts -/
def cnt (f : F4) : Bool := f.k == 4 && (f.d || (f.p == 2 || f.p == 4))
/-- a frame can be cleaned now -/
def rdy (f : F4) : Bool := (f.k == 4 && f.d) && f.p == 0
theorem cnt_any (f : F4) (w : World) : Calls Try.prog 41 #[frV f] w fun e w' => e = .returned (.bool (cnt f)) ∧ Below w.heap.size w w' := by
  obtain ⟨k, p, d, s⟩ := f
  have K := hide (bal (brefl w) (.cells #[.int .i64 k, .int .i64 p, .int .i64 0, .int .i64 0, .int .i64 0, .int .i64 0, .int .i64 0, .int .i64 0, .int .i64 0, .int .i64 s, .bool d, .bool false, .bool false, .int .i64 0, .slice none 0 0, .slice none 0 0] 50))
  have X := hide (Box.new w 50 #[.int .i64 k, .int .i64 p, .int .i64 0, .int .i64 0, .int .i64 0, .int .i64 0, .int .i64 0, .int .i64 0, .int .i64 0, .int .i64 s, .bool d, .bool false, .bool false, .int .i64 0, .slice none 0 0, .slice none 0 0])
  have E := hide (show cnt ⟨k, p, d, s⟩ = (k == 4 && (d || (p == 2 || p == 4))) from rfl)
  unfold frV
  dsimp only
  generalize cnt ⟨k, p, d, s⟩ = u at *
  go_enter Try.func41, Try.ntmps41
  go_upto_region 1 with fail
  obtain ⟨g, hg⟩ : ∃ g, g = w.heap.size := ⟨_, rfl⟩
  rw [← hg] at X ⊢
  clear hg
  generalize w.alloc (.cells #[.int .i64 k, .int .i64 p, .int .i64 0, .int .i64 0, .int .i64 0, .int .i64 0, .int .i64 0, .int .i64 0, .int .i64 0, .int .i64 s, .bool d, .bool false, .bool false, .int .i64 0, .slice none 0 0, .slice none 0 0] 50) = w1 at *
  have c0 : w1.cell? ⟨g, 0, none⟩ = some (.int .i64 k) := X.out.cell 0
  have c1 : w1.cell? ⟨g, 1, none⟩ = some (.int .i64 p) := X.out.cell 1
  have c10 : w1.cell? ⟨g, 10, none⟩ = some (.bool d) := X.out.cell 10
  rcases Bool.eq_false_or_eq_true (k == 4) with h1 | h1
  · cases d
    · rcases Bool.eq_false_or_eq_true (p == 2) with h2 | h2
      · go_wp2
        go_ret
        exact ⟨ret_bool (by rw [E.out, h1, h2]; rfl), K.out⟩
      · go_wp2
        go_ret
        exact ⟨ret_bool (by rw [E.out, h1, h2]; rfl), K.out⟩
    · go_wp2
      go_ret
      exact ⟨ret_bool (by rw [E.out, h1]; rfl), K.out⟩
  · go_wp2
    go_ret
    exact ⟨ret_bool (by rw [E.out, h1]; rfl), K.out⟩
theorem rdy_any (f : F4) (w : World) : Calls Try.prog 44 #[frV f] w fun e w' => e = .returned (.bool (rdy f)) ∧ Below w.heap.size w w' := by
  obtain ⟨k, p, d, s⟩ := f
  have K := hide (bal (brefl w) (.cells #[.int .i64 k, .int .i64 p, .int .i64 0, .int .i64 0, .int .i64 0, .int .i64 0, .int .i64 0, .int .i64 0, .int .i64 0, .int .i64 s, .bool d, .bool false, .bool false, .int .i64 0, .slice none 0 0, .slice none 0 0] 50))
  have X := hide (Box.new w 50 #[.int .i64 k, .int .i64 p, .int .i64 0, .int .i64 0, .int .i64 0, .int .i64 0, .int .i64 0, .int .i64 0, .int .i64 0, .int .i64 s, .bool d, .bool false, .bool false, .int .i64 0, .slice none 0 0, .slice none 0 0])
  have E := hide (show rdy ⟨k, p, d, s⟩ = ((k == 4 && d) && p == 0) from rfl)
  unfold frV
  dsimp only
  generalize rdy ⟨k, p, d, s⟩ = u at *
  go_enter Try.func44, Try.ntmps44
  go_upto_region 1 with fail
  obtain ⟨g, hg⟩ : ∃ g, g = w.heap.size := ⟨_, rfl⟩
  rw [← hg] at X ⊢
  clear hg
  generalize w.alloc (.cells #[.int .i64 k, .int .i64 p, .int .i64 0, .int .i64 0, .int .i64 0, .int .i64 0, .int .i64 0, .int .i64 0, .int .i64 0, .int .i64 s, .bool d, .bool false, .bool false, .int .i64 0, .slice none 0 0, .slice none 0 0] 50) = w1 at *
  have c0 : w1.cell? ⟨g, 0, none⟩ = some (.int .i64 k) := X.out.cell 0
  have c1 : w1.cell? ⟨g, 1, none⟩ = some (.int .i64 p) := X.out.cell 1
  have c10 : w1.cell? ⟨g, 10, none⟩ = some (.bool d) := X.out.cell 10
  rcases Bool.eq_false_or_eq_true (k == 4) with h1 | h1
  · cases d
    · go_wp2
      go_ret
      exact ⟨ret_bool (by rw [E.out, h1]; rfl), K.out⟩
    · go_wp2
      go_ret
      exact ⟨ret_bool (by rw [E.out, h1]; rfl), K.out⟩
  · go_wp2
    go_ret
    exact ⟨ret_bool (by rw [E.out, h1]; rfl), K.out⟩
def bgE (c l : Int) : Bool := decide (0 ≤ l ∧ l < 2 * c)
theorem bg_any (c l : Int) (hc : i64r c) (hl : i64r l) (w : World) : Calls Try.prog 27 #[.int .i64 c, .int .i64 l] w fun e w' => e = .returned (.bool (bgE c l)) ∧ w = w' := by
  unfold i64r at hc hl
  by_cases h0 : 0 ≤ l
  · have e1 : l.tdiv 2 = l / 2 := Int.tdiv_eq_ediv_of_nonneg h0
    have hw : IntKind.i64.wrap (l.tdiv 2) = l / 2 := by rw [IntKind.wrap_i64, e1]; omega
    have hw2 : IntKind.i64.wrap (l / 2) = l / 2 := by rw [IntKind.wrap_i64]; omega
    have E := hide (show bgE c l = decide (l / 2 < c) from decide_eq_decide.2 (by omega))
    generalize bgE c l = u at E ⊢
    go_enter Try.func27, Try.ntmps27
    go_wp2
    go_ret
    exact ⟨ret_bool (by rw [E.out]), rfl⟩
  · have E := hide (show bgE c l = false from decide_eq_false (by omega))
    generalize bgE c l = u at E ⊢
    go_enter Try.func27, Try.ntmps27
    go_wp2
    go_ret
    exact ⟨ret_bool (by rw [E.out]), rfl⟩
theorem rbg_any (c l : Int) (hc : i64r c) (hl : i64r l) (w : World) : Calls Try.prog 28 #[.int .i64 c, .int .i64 l] w fun e w' => e = .returned (.bool (bgE c l)) ∧ w = w' := by
  unfold i64r at hc hl
  by_cases h1 : 0 ≤ c
  · by_cases h0 : 0 ≤ l
    · have e1 : l.tdiv 2 = l / 2 := Int.tdiv_eq_ediv_of_nonneg h0
      have hw : IntKind.i64.wrap (l.tdiv 2) = l / 2 := by rw [IntKind.wrap_i64, e1]; omega
      have hw2 : IntKind.i64.wrap (l / 2) = l / 2 := by rw [IntKind.wrap_i64]; omega
      have E := hide (show bgE c l = decide (l / 2 < c) from decide_eq_decide.2 (by omega))
      generalize bgE c l = u at E ⊢
      go_enter Try.func28, Try.ntmps28
      go_wp2
      go_ret
      exact ⟨ret_bool (by rw [E.out]), rfl⟩
    · have E := hide (show bgE c l = false from decide_eq_false (by omega))
      generalize bgE c l = u at E ⊢
      go_enter Try.func28, Try.ntmps28
      go_wp2
      go_ret
      exact ⟨ret_bool (by rw [E.out]), rfl⟩
  · have E := hide (show bgE c l = false from decide_eq_false (by omega))
    generalize bgE c l = u at E ⊢
    go_enter Try.func28, Try.ntmps28
    go_wp2
    go_ret
    exact ⟨ret_bool (by rw [E.out]), rfl⟩
end Go.Proofs.Ytcndbehgklkiiaa.Ac
