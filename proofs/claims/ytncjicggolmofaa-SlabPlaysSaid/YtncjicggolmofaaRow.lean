import Derived.Test.YtncjicggolmofaaMem
namespace Go.Proofs.Ytncjicggolmofaa.Sb
open Go Go.RowKit
set_option linter.unusedVariables false
abbrev Ca := Int × By
def cAt (L : List Ca) (k : Nat) : Ca := L.getD k (0, [])
theorem cAt_get {L : List Ca} {k : Nat} (h : k < L.length) : cAt L k = L[k] := by unfold cAt; rw [List.getD_eq_getElem?_getD, List.getElem?_eq_getElem h]; rfl
theorem cAt_mem {L : List Ca} {k : Nat} (h : k < L.length) : cAt L k ∈ L := by rw [cAt_get h]; exact List.getElem_mem h
theorem cAt_snoc {L : List Ca} {k : Nat} (h : k < L.length) : L.take (k + 1) = L.take k ++ [cAt L k] := by rw [List.take_succ_eq_append_getElem h, cAt_get h]
-- TO BE READ
def RdC (w : World) (A : Option Addr) (L : List Ca) : Prop :=
  L ≠ [] → ∃ b off, A = some ⟨b, off, none⟩ ∧ b < w.heap.size ∧ ∀ k, k < L.length → ∃ v, w.cell? ⟨b, off + k * 2, none⟩ = some (.int .i64 (cAt L k).1) ∧ w.cell? ⟨b, off + k * 2 + 1, none⟩ = some v ∧ IsBs w v (cAt L k).2
section
variable {w w' : World} {A : Option Addr}
theorem RdC.cells {L : List Ca} (h : RdC w A L) (hb : Below w.heap.size w w') {k : Nat} (hk : k < L.length) : ∃ b off v, A = some ⟨b, off, none⟩ ∧ b < w.heap.size ∧ w'.cell? ⟨b, off + k * 2, none⟩ = some (.int .i64 (cAt L k).1) ∧ w'.cell? ⟨b, off + k * 2 + 1, none⟩ = some v ∧ IsBs w' v (cAt L k).2 := by
  obtain ⟨b, off, e, hl, hc⟩ := h (by rintro rfl; simp at hk)
  obtain ⟨v, h1, h2, h3⟩ := hc k hk
  exact ⟨b, off, v, e, hl, (hb.cell (p := ⟨b, _, none⟩) hl).trans h1, (hb.cell (p := ⟨b, _, none⟩) hl).trans h2, h3.below hb⟩
theorem RdC.below {L : List Ca} (h : RdC w A L) (hb : Below w.heap.size w w') : RdC w' A L := fun hn => by
  obtain ⟨b, off, e, hl, hc⟩ := h hn
  refine ⟨b, off, e, Nat.lt_of_lt_of_le hl hb.size, fun k hk => ?_⟩
  obtain ⟨b', off', v, e', _, r⟩ := h.cells hb hk
  rw [e] at e'; injection e' with e'; injection e' with e1 e2; subst e1 e2
  exact ⟨v, r⟩
end
-- OF ONE'S OWN
abbrev PC := Int × By × Value
def pcC (r : PC) : Ca := (r.1, r.2.1)
def cC : List PC → List Value
  | [] => []
  | r :: R => .int .i64 r.1 :: r.2.2 :: cC R
theorem cC_length : ∀ R : List PC, (cC R).length = R.length * 2
  | [] => rfl
  | r :: R => by simp only [cC, List.length_cons, cC_length R]; omega
theorem cC_append : ∀ R S : List PC, cC (R ++ S) = cC R ++ cC S
  | [], _ => rfl
  | r :: R, S => by simp only [cC, List.cons_append, cC_append R S]
theorem cC_at : ∀ {R : List PC} {k : Nat} (h : k < R.length), (cC R)[k * 2]? = some (.int .i64 (R[k]).1) ∧ (cC R)[k * 2 + 1]? = some (R[k]).2.2
  | r :: R, 0, _ => ⟨rfl, rfl⟩
  | r :: R, k + 1, h => by
    have ih := cC_at (R := R) (k := k) (by simpa using h)
    rw [show (k + 1) * 2 = k * 2 + 2 by omega]
    exact ih
def OwnC (B : Nat) (w : World) (v : Value) (L : List Ca) : Prop := ∃ R : List PC, R.map pcC = L ∧ w.ownsRow B 52 2 v L.length (cC R) ∧ ∀ r ∈ R, OwnBy w r.2.2 r.2.1
section
variable {w w' : World} {v : Value} {B B' : Nat} {T : TypeId}
theorem OwnC.below {L : List Ca} (h : OwnC B w v L) (hb : Below w.heap.size w w') : OwnC B w' v L := by
  obtain ⟨R, e, hr, ho⟩ := h
  exact ⟨R, e, row_below hr hb, fun r hm => (ho r hm).below hb⟩
theorem OwnC.kp {L : List Ca} (h : OwnC B w v L) (hk : Kp B' T w w') (h1 : (52 : TypeId) ≠ T) (h2 : (4 : TypeId) ≠ T) : OwnC B w' v L := by
  obtain ⟨R, e, hr, ho⟩ := h
  exact ⟨R, e, row_kp hr hk h1, fun r hm => (ho r hm).kp hk h2⟩
theorem OwnC.mono {L : List Ca} (h : OwnC B w v L) (hB : B' ≤ B) : OwnC B' w v L := by
  obtain ⟨R, e, hr, ho⟩ := h
  exact ⟨R, e, row_mono hr hB, ho⟩
theorem OwnC.nil (B : Nat) (w : World) : OwnC B w (.slice none 0 0) [] := ⟨[], rfl, ⟨rfl, .inl ⟨rfl, rfl⟩⟩, fun r h => by cases h⟩
theorem OwnC.form {L : List Ca} (h : OwnC B w v L) : ∃ A c, v = .slice A L.length c ∧ L.length ≤ c := by
  obtain ⟨R, e, hr, ho⟩ := h; exact row_form hr
theorem OwnC.rd {L : List Ca} {A : Option Addr} {c n : Nat} (h : OwnC B w (.slice A n c) L) : RdC w A L := fun hn => by
  obtain ⟨R, e, hr, ho⟩ := h
  have hl : R.length = L.length := by rw [← e, List.length_map]
  obtain ⟨A', c', e1, _⟩ := row_form hr
  injection e1 with e1 e2 e3
  subst e1 e2 e3
  obtain ⟨g, rfl, hg, _, hc, _⟩ := row_cell hr (fun h0 => hn (List.eq_nil_of_length_eq_zero h0))
  refine ⟨g, 0, rfl, hg, fun k hk => ⟨(R[k]'(by omega)).2.2, ?_, ?_, ?_⟩⟩
  · have : (cAt L k).1 = (R[k]'(by omega)).1 := by rw [cAt_get hk]; simp [← e, pcC]
    rw [this, Nat.zero_add]; exact hc _ _ (cC_at (by omega)).1
  · have q := hc _ _ (cC_at (R := R) (k := k) (by omega)).2
    rw [Nat.zero_add]; exact q
  · have : (cAt L k).2 = (R[k]'(by omega)).2.1 := by rw [cAt_get hk]; simp [← e, pcC]
    rw [this]
    exact (ho _ (List.getElem_mem _)).is
end
end Go.Proofs.Ytncjicggolmofaa.Sb
