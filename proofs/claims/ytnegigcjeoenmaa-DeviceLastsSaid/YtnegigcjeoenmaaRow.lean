import Derived.Test.YtnegigcjeoenmaaMem
namespace Go.Proofs.Ytnegigcjeoenmaa.Dv
open Go Go.RowKit
set_option linter.unusedVariables false
abbrev Ca := Int × By
abbrev Rq := Int × Int × Int × By
def bAt (L : List By) (k : Nat) : By := L.getD k []
def cAt (L : List Ca) (k : Nat) : Ca := L.getD k (0, [])
def qAt (L : List Rq) (k : Nat) : Rq := L.getD k (0, 0, 0, [])
theorem bAt_get {L : List By} {k : Nat} (h : k < L.length) : bAt L k = L[k] := by unfold bAt; rw [List.getD_eq_getElem?_getD, List.getElem?_eq_getElem h]; rfl
theorem cAt_get {L : List Ca} {k : Nat} (h : k < L.length) : cAt L k = L[k] := by unfold cAt; rw [List.getD_eq_getElem?_getD, List.getElem?_eq_getElem h]; rfl
theorem qAt_get {L : List Rq} {k : Nat} (h : k < L.length) : qAt L k = L[k] := by unfold qAt; rw [List.getD_eq_getElem?_getD, List.getElem?_eq_getElem h]; rfl
theorem bAt_mem {L : List By} {k : Nat} (h : k < L.length) : bAt L k ∈ L := by rw [bAt_get h]; exact List.getElem_mem h
theorem cAt_mem {L : List Ca} {k : Nat} (h : k < L.length) : cAt L k ∈ L := by rw [cAt_get h]; exact List.getElem_mem h
theorem qAt_mem {L : List Rq} {k : Nat} (h : k < L.length) : qAt L k ∈ L := by rw [qAt_get h]; exact List.getElem_mem h
theorem bAt_snoc {L : List By} {k : Nat} (h : k < L.length) : L.take (k + 1) = L.take k ++ [bAt L k] := by rw [List.take_succ_eq_append_getElem h, bAt_get h]
theorem cAt_snoc {L : List Ca} {k : Nat} (h : k < L.length) : L.take (k + 1) = L.take k ++ [cAt L k] := by rw [List.take_succ_eq_append_getElem h, cAt_get h]
theorem qAt_snoc {L : List Rq} {k : Nat} (h : k < L.length) : L.take (k + 1) = L.take k ++ [qAt L k] := by rw [List.take_succ_eq_append_getElem h, qAt_get h]
-- TO BE READ
def RdB (w : World) (A : Option Addr) (L : List By) : Prop :=
  L ≠ [] → ∃ b off, A = some ⟨b, off, none⟩ ∧ b < w.heap.size ∧ ∀ k, k < L.length → ∃ v, w.cell? ⟨b, off + k, none⟩ = some v ∧ IsBs w v (bAt L k)
def RdC (w : World) (A : Option Addr) (L : List Ca) : Prop :=
  L ≠ [] → ∃ b off, A = some ⟨b, off, none⟩ ∧ b < w.heap.size ∧ ∀ k, k < L.length → ∃ v, w.cell? ⟨b, off + k * 2, none⟩ = some (.int .i64 (cAt L k).1) ∧ w.cell? ⟨b, off + k * 2 + 1, none⟩ = some v ∧ IsBs w v (cAt L k).2
def RdQ (w : World) (A : Option Addr) (L : List Rq) : Prop :=
  L ≠ [] → ∃ b off, A = some ⟨b, off, none⟩ ∧ b < w.heap.size ∧ ∀ k, k < L.length → ∃ v, w.cell? ⟨b, off + k * 4, none⟩ = some (.int .i64 (qAt L k).1) ∧ w.cell? ⟨b, off + k * 4 + 1, none⟩ = some (.int .i64 (qAt L k).2.1) ∧ w.cell? ⟨b, off + k * 4 + 2, none⟩ = some (.int .i64 (qAt L k).2.2.1) ∧ w.cell? ⟨b, off + k * 4 + 3, none⟩ = some v ∧ IsBs w v (qAt L k).2.2.2
section
variable {w w' : World} {A : Option Addr}
theorem RdB.cells {L : List By} (h : RdB w A L) (hb : Below w.heap.size w w') {k : Nat} (hk : k < L.length) : ∃ b off v, A = some ⟨b, off, none⟩ ∧ b < w.heap.size ∧ w'.cell? ⟨b, off + k, none⟩ = some v ∧ IsBs w' v (bAt L k) := by
  obtain ⟨b, off, e, hl, hc⟩ := h (by rintro rfl; simp at hk)
  obtain ⟨v, h1, h2⟩ := hc k hk
  exact ⟨b, off, v, e, hl, (hb.cell (p := ⟨b, _, none⟩) hl).trans h1, h2.below hb⟩
theorem RdC.cells {L : List Ca} (h : RdC w A L) (hb : Below w.heap.size w w') {k : Nat} (hk : k < L.length) : ∃ b off v, A = some ⟨b, off, none⟩ ∧ b < w.heap.size ∧ w'.cell? ⟨b, off + k * 2, none⟩ = some (.int .i64 (cAt L k).1) ∧ w'.cell? ⟨b, off + k * 2 + 1, none⟩ = some v ∧ IsBs w' v (cAt L k).2 := by
  obtain ⟨b, off, e, hl, hc⟩ := h (by rintro rfl; simp at hk)
  obtain ⟨v, h1, h2, h3⟩ := hc k hk
  exact ⟨b, off, v, e, hl, (hb.cell (p := ⟨b, _, none⟩) hl).trans h1, (hb.cell (p := ⟨b, _, none⟩) hl).trans h2, h3.below hb⟩
theorem RdQ.cells {L : List Rq} (h : RdQ w A L) (hb : Below w.heap.size w w') {k : Nat} (hk : k < L.length) : ∃ b off v, A = some ⟨b, off, none⟩ ∧ b < w.heap.size ∧ w'.cell? ⟨b, off + k * 4, none⟩ = some (.int .i64 (qAt L k).1) ∧ w'.cell? ⟨b, off + k * 4 + 1, none⟩ = some (.int .i64 (qAt L k).2.1) ∧ w'.cell? ⟨b, off + k * 4 + 2, none⟩ = some (.int .i64 (qAt L k).2.2.1) ∧ w'.cell? ⟨b, off + k * 4 + 3, none⟩ = some v ∧ IsBs w' v (qAt L k).2.2.2 := by
  obtain ⟨b, off, e, hl, hc⟩ := h (by rintro rfl; simp at hk)
  obtain ⟨v, h1, h2, h3, h4, h5⟩ := hc k hk
  exact ⟨b, off, v, e, hl, (hb.cell (p := ⟨b, _, none⟩) hl).trans h1, (hb.cell (p := ⟨b, _, none⟩) hl).trans h2, (hb.cell (p := ⟨b, _, none⟩) hl).trans h3, (hb.cell (p := ⟨b, _, none⟩) hl).trans h4, h5.below hb⟩
theorem RdB.below {L : List By} (h : RdB w A L) (hb : Below w.heap.size w w') : RdB w' A L := fun hn => by
  obtain ⟨b, off, e, hl, hc⟩ := h hn
  refine ⟨b, off, e, Nat.lt_of_lt_of_le hl hb.size, fun k hk => ?_⟩
  obtain ⟨b', off', v, e', _, r⟩ := h.cells hb hk
  rw [e] at e'; injection e' with e'; injection e' with e1 e2; subst e1 e2
  exact ⟨v, r⟩
theorem RdC.below {L : List Ca} (h : RdC w A L) (hb : Below w.heap.size w w') : RdC w' A L := fun hn => by
  obtain ⟨b, off, e, hl, hc⟩ := h hn
  refine ⟨b, off, e, Nat.lt_of_lt_of_le hl hb.size, fun k hk => ?_⟩
  obtain ⟨b', off', v, e', _, r⟩ := h.cells hb hk
  rw [e] at e'; injection e' with e'; injection e' with e1 e2; subst e1 e2
  exact ⟨v, r⟩
theorem RdQ.below {L : List Rq} (h : RdQ w A L) (hb : Below w.heap.size w w') : RdQ w' A L := fun hn => by
  obtain ⟨b, off, e, hl, hc⟩ := h hn
  refine ⟨b, off, e, Nat.lt_of_lt_of_le hl hb.size, fun k hk => ?_⟩
  obtain ⟨b', off', v, e', _, r⟩ := h.cells hb hk
  rw [e] at e'; injection e' with e'; injection e' with e1 e2; subst e1 e2
  exact ⟨v, r⟩
end
-- OF ONE'S OWN
abbrev PB := By × Value
abbrev PC := Int × By × Value
abbrev PQ := Int × Int × Int × By × Value
def pcC (r : PC) : Ca := (r.1, r.2.1)
def pqQ (r : PQ) : Rq := (r.1, r.2.1, r.2.2.1, r.2.2.2.1)
def cB (R : List PB) : List Value := R.map Prod.snd
def cC : List PC → List Value
  | [] => []
  | r :: R => .int .i64 r.1 :: r.2.2 :: cC R
def cQ : List PQ → List Value
  | [] => []
  | r :: R => .int .i64 r.1 :: .int .i64 r.2.1 :: .int .i64 r.2.2.1 :: r.2.2.2.2 :: cQ R
theorem cB_length (R : List PB) : (cB R).length = R.length := by simp [cB]
theorem cC_length : ∀ R : List PC, (cC R).length = R.length * 2
  | [] => rfl
  | r :: R => by simp only [cC, List.length_cons, cC_length R]; omega
theorem cQ_length : ∀ R : List PQ, (cQ R).length = R.length * 4
  | [] => rfl
  | r :: R => by simp only [cQ, List.length_cons, cQ_length R]; omega
theorem cB_append (R S : List PB) : cB (R ++ S) = cB R ++ cB S := by simp [cB]
theorem cC_append : ∀ R S : List PC, cC (R ++ S) = cC R ++ cC S
  | [], _ => rfl
  | r :: R, S => by simp only [cC, List.cons_append, cC_append R S]
theorem cQ_append : ∀ R S : List PQ, cQ (R ++ S) = cQ R ++ cQ S
  | [], _ => rfl
  | r :: R, S => by simp only [cQ, List.cons_append, cQ_append R S]
theorem cB_at {R : List PB} {k : Nat} (h : k < R.length) : (cB R)[k]? = some (R[k]).2 := by
  unfold cB; rw [List.getElem?_map, List.getElem?_eq_getElem h]; rfl
theorem cC_at : ∀ {R : List PC} {k : Nat} (h : k < R.length), (cC R)[k * 2]? = some (.int .i64 (R[k]).1) ∧ (cC R)[k * 2 + 1]? = some (R[k]).2.2
  | r :: R, 0, _ => ⟨rfl, rfl⟩
  | r :: R, k + 1, h => by
    have ih := cC_at (R := R) (k := k) (by simpa using h)
    rw [show (k + 1) * 2 = k * 2 + 2 by omega]
    exact ih
theorem cQ_at : ∀ {R : List PQ} {k : Nat} (h : k < R.length), (cQ R)[k * 4]? = some (.int .i64 (R[k]).1) ∧ (cQ R)[k * 4 + 1]? = some (.int .i64 (R[k]).2.1) ∧ (cQ R)[k * 4 + 2]? = some (.int .i64 (R[k]).2.2.1) ∧ (cQ R)[k * 4 + 3]? = some (R[k]).2.2.2.2
  | r :: R, 0, _ => ⟨rfl, rfl, rfl, rfl⟩
  | r :: R, k + 1, h => by
    have ih := cQ_at (R := R) (k := k) (by simpa using h)
    rw [show (k + 1) * 4 = k * 4 + 4 by omega]
    exact ih
def OwnB (B : Nat) (w : World) (v : Value) (L : List By) : Prop := ∃ R : List PB, R.map Prod.fst = L ∧ w.ownsRow B 35 1 v L.length (cB R) ∧ ∀ r ∈ R, OwnBy w r.2 r.1
def OwnC (B : Nat) (w : World) (v : Value) (L : List Ca) : Prop := ∃ R : List PC, R.map pcC = L ∧ w.ownsRow B 64 2 v L.length (cC R) ∧ ∀ r ∈ R, OwnBy w r.2.2 r.2.1
def OwnQ (B : Nat) (w : World) (v : Value) (L : List Rq) : Prop := ∃ R : List PQ, R.map pqQ = L ∧ w.ownsRow B 39 4 v L.length (cQ R) ∧ ∀ r ∈ R, OwnBy w r.2.2.2.2 r.2.2.2.1
section
variable {w w' : World} {v : Value} {B B' : Nat} {T : TypeId}
theorem OwnB.below {L : List By} (h : OwnB B w v L) (hb : Below w.heap.size w w') : OwnB B w' v L := by
  obtain ⟨R, e, hr, ho⟩ := h
  exact ⟨R, e, row_below hr hb, fun r hm => (ho r hm).below hb⟩
theorem OwnC.below {L : List Ca} (h : OwnC B w v L) (hb : Below w.heap.size w w') : OwnC B w' v L := by
  obtain ⟨R, e, hr, ho⟩ := h
  exact ⟨R, e, row_below hr hb, fun r hm => (ho r hm).below hb⟩
theorem OwnQ.below {L : List Rq} (h : OwnQ B w v L) (hb : Below w.heap.size w w') : OwnQ B w' v L := by
  obtain ⟨R, e, hr, ho⟩ := h
  exact ⟨R, e, row_below hr hb, fun r hm => (ho r hm).below hb⟩
theorem OwnB.kp {L : List By} (h : OwnB B w v L) (hk : Kp B' T w w') (h1 : (35 : TypeId) ≠ T) (h2 : (5 : TypeId) ≠ T) : OwnB B w' v L := by
  obtain ⟨R, e, hr, ho⟩ := h
  exact ⟨R, e, row_kp hr hk h1, fun r hm => (ho r hm).kp hk h2⟩
theorem OwnC.kp {L : List Ca} (h : OwnC B w v L) (hk : Kp B' T w w') (h1 : (64 : TypeId) ≠ T) (h2 : (5 : TypeId) ≠ T) : OwnC B w' v L := by
  obtain ⟨R, e, hr, ho⟩ := h
  exact ⟨R, e, row_kp hr hk h1, fun r hm => (ho r hm).kp hk h2⟩
theorem OwnQ.kp {L : List Rq} (h : OwnQ B w v L) (hk : Kp B' T w w') (h1 : (39 : TypeId) ≠ T) (h2 : (5 : TypeId) ≠ T) : OwnQ B w' v L := by
  obtain ⟨R, e, hr, ho⟩ := h
  exact ⟨R, e, row_kp hr hk h1, fun r hm => (ho r hm).kp hk h2⟩
theorem OwnB.mono {L : List By} (h : OwnB B w v L) (hB : B' ≤ B) : OwnB B' w v L := by
  obtain ⟨R, e, hr, ho⟩ := h
  exact ⟨R, e, row_mono hr hB, ho⟩
theorem OwnC.mono {L : List Ca} (h : OwnC B w v L) (hB : B' ≤ B) : OwnC B' w v L := by
  obtain ⟨R, e, hr, ho⟩ := h
  exact ⟨R, e, row_mono hr hB, ho⟩
theorem OwnQ.mono {L : List Rq} (h : OwnQ B w v L) (hB : B' ≤ B) : OwnQ B' w v L := by
  obtain ⟨R, e, hr, ho⟩ := h
  exact ⟨R, e, row_mono hr hB, ho⟩
theorem OwnB.nil (B : Nat) (w : World) : OwnB B w (.slice none 0 0) [] := ⟨[], rfl, ⟨rfl, .inl ⟨rfl, rfl⟩⟩, fun r h => by cases h⟩
theorem OwnC.nil (B : Nat) (w : World) : OwnC B w (.slice none 0 0) [] := ⟨[], rfl, ⟨rfl, .inl ⟨rfl, rfl⟩⟩, fun r h => by cases h⟩
theorem OwnQ.nil (B : Nat) (w : World) : OwnQ B w (.slice none 0 0) [] := ⟨[], rfl, ⟨rfl, .inl ⟨rfl, rfl⟩⟩, fun r h => by cases h⟩
theorem OwnB.form {L : List By} (h : OwnB B w v L) : ∃ A c, v = .slice A L.length c ∧ L.length ≤ c := by
  obtain ⟨R, e, hr, ho⟩ := h; exact row_form hr
theorem OwnC.form {L : List Ca} (h : OwnC B w v L) : ∃ A c, v = .slice A L.length c ∧ L.length ≤ c := by
  obtain ⟨R, e, hr, ho⟩ := h; exact row_form hr
theorem OwnQ.form {L : List Rq} (h : OwnQ B w v L) : ∃ A c, v = .slice A L.length c ∧ L.length ≤ c := by
  obtain ⟨R, e, hr, ho⟩ := h; exact row_form hr
theorem OwnB.rd {L : List By} {A : Option Addr} {c n : Nat} (h : OwnB B w (.slice A n c) L) : RdB w A L := fun hn => by
  obtain ⟨R, e, hr, ho⟩ := h
  have hl : R.length = L.length := by rw [← e, List.length_map]
  obtain ⟨A', c', e1, _⟩ := row_form hr
  injection e1 with e1 e2 e3
  subst e1 e2 e3
  obtain ⟨g, rfl, hg, _, hc, _⟩ := row_cell hr (fun h0 => hn (List.eq_nil_of_length_eq_zero h0))
  refine ⟨g, 0, rfl, hg, fun k hk => ⟨(R[k]'(by omega)).2, ?_, ?_⟩⟩
  · rw [Nat.zero_add]; exact hc k _ (cB_at (by omega))
  · have : bAt L k = (R[k]'(by omega)).1 := by rw [bAt_get hk]; simp [← e]
    rw [this]
    exact (ho _ (List.getElem_mem _)).is
theorem OwnC.rd {L : List Ca} {A : Option Addr} {c n : Nat} (h : OwnC B w (.slice A n c) L) : RdC w A L := fun hn => by
  obtain ⟨R, e, hr, ho⟩ := h
  have hl : R.length = L.length := by rw [← e, List.length_map]
  obtain ⟨A', c', e1, _⟩ := row_form hr
  injection e1 with e1 e2 e3
  subst e1 e2 e3
  obtain ⟨g, rfl, hg, _, hc, _⟩ := row_cell hr (fun h0 => hn (List.eq_nil_of_length_eq_zero h0))
  refine ⟨g, 0, rfl, hg, fun k hk => ⟨(R[k]'(by omega)).2.2, ?_, ?_, ?_⟩⟩
  · have : (cAt L k).1 = (R[k]'(by omega)).1 := by rw [cAt_get hk]; simp [← e, pcC]
    rw [this, Nat.zero_add]; exact hc _ _ (cC_at (by omega)).1
  · have q := hc _ _ (cC_at (R := R) (k := k) (by omega)).2
    rw [Nat.zero_add]; exact q
  · have : (cAt L k).2 = (R[k]'(by omega)).2.1 := by rw [cAt_get hk]; simp [← e, pcC]
    rw [this]
    exact (ho _ (List.getElem_mem _)).is
theorem OwnQ.rd {L : List Rq} {A : Option Addr} {c n : Nat} (h : OwnQ B w (.slice A n c) L) : RdQ w A L := fun hn => by
  obtain ⟨R, e, hr, ho⟩ := h
  have hl : R.length = L.length := by rw [← e, List.length_map]
  obtain ⟨A', c', e1, _⟩ := row_form hr
  injection e1 with e1 e2 e3
  subst e1 e2 e3
  obtain ⟨g, rfl, hg, _, hc, _⟩ := row_cell hr (fun h0 => hn (List.eq_nil_of_length_eq_zero h0))
  refine ⟨g, 0, rfl, hg, fun k hk => ?_⟩
  have hq : qAt L k = pqQ (R[k]'(by omega)) := by rw [qAt_get hk]; simp [← e]
  obtain ⟨c0, c1, c2, c3⟩ := cQ_at (R := R) (k := k) (by omega)
  rw [hq]
  refine ⟨(R[k]'(by omega)).2.2.2.2, ?_, ?_, ?_, ?_, (ho _ (List.getElem_mem _)).is⟩
  · rw [Nat.zero_add]; exact hc _ _ c0
  · rw [Nat.zero_add]; exact hc _ _ c1
  · rw [Nat.zero_add]; exact hc _ _ c2
  · rw [Nat.zero_add]; exact hc _ _ c3
end
-- A DEVICE
structure Dev where
  dep : Int
  nxt : Int
  bl : List By
  ca : List Ca
  qu : List Rq
/-- a value that reads as a device -/
def DevIn (w : World) (v : Value) (D : Dev) : Prop :=
  ∃ Ab cb Ac cc Aq cq, v = .agg #[.int .i64 D.dep, .int .i64 D.nxt, .slice Ab D.bl.length cb, .slice Ac D.ca.length cc, .slice Aq D.qu.length cq] ∧ D.bl.length ≤ cb ∧ D.ca.length ≤ cc ∧ D.qu.length ≤ cq ∧ RdB w Ab D.bl ∧ RdC w Ac D.ca ∧ RdQ w Aq D.qu
theorem DevIn.below {w w' : World} {v : Value} {D : Dev} (h : DevIn w v D) (hb : Below w.heap.size w w') : DevIn w' v D := by
  obtain ⟨Ab, cb, Ac, cc, Aq, cq, e, h1, h2, h3, r1, r2, r3⟩ := h
  exact ⟨Ab, cb, Ac, cc, Aq, cq, e, h1, h2, h3, r1.below hb, r2.below hb, r3.below hb⟩
/-- a device of one's own -/
def DevOwn (B : Nat) (w : World) (v : Value) (D : Dev) : Prop :=
  ∃ vb vc vq, v = .agg #[.int .i64 D.dep, .int .i64 D.nxt, vb, vc, vq] ∧ OwnB B w vb D.bl ∧ OwnC B w vc D.ca ∧ OwnQ B w vq D.qu
theorem DevOwn.is {B : Nat} {w : World} {v : Value} {D : Dev} (h : DevOwn B w v D) : DevIn w v D := by
  obtain ⟨vb, vc, vq, rfl, hb, hc, hq⟩ := h
  obtain ⟨Ab, cb, rfl, h1⟩ := hb.form
  obtain ⟨Ac, cc, rfl, h2⟩ := hc.form
  obtain ⟨Aq, cq, rfl, h3⟩ := hq.form
  exact ⟨Ab, cb, Ac, cc, Aq, cq, rfl, h1, h2, h3, hb.rd, hc.rd, hq.rd⟩
end Go.Proofs.Ytnegigcjeoenmaa.Dv
