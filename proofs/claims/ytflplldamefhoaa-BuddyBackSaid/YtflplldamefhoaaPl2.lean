import Derived.Test.YtflplldamefhoaaPl1
namespace Go.Proofs.Ytflplldamefhoaa.Bd
open Go Go.RowKit
set_option linter.unusedVariables false
-- BLOCKS THAT ARE HELD, AND STEPS, IN MEMORY
abbrev He := Int × Nat
def hcs : List He → List Value
  | [] => []
  | e :: l => .int .i64 e.1 :: .int .i64 (e.2 : Int) :: hcs l
theorem hcs_length : ∀ L : List He, (hcs L).length = L.length * 2
  | [] => rfl
  | e :: l => by simp only [hcs, List.length_cons, hcs_length l]; omega
theorem hcs_append : ∀ L M : List He, hcs (L ++ M) = hcs L ++ hcs M
  | [], _ => rfl
  | e :: l, M => by simp only [hcs, List.cons_append, hcs_append l M]
theorem hcs_one : ∀ L : List He, ∀ u ∈ hcs L, u.oneCell' = true
  | [], u, h => by cases h
  | e :: l, u, h => by
    simp only [hcs, List.mem_cons] at h
    rcases h with rfl | rfl | h
    · rfl
    · rfl
    · exact hcs_one l u h
def heAt (H : List He) (k : Nat) : He := H.getD k (0, 0)
theorem heAt_get {H : List He} {k : Nat} (h : k < H.length) : heAt H k = H[k] := by
  unfold heAt
  rw [List.getD_eq_getElem?_getD, List.getElem?_eq_getElem h]; rfl
theorem heAt_mem {H : List He} {k : Nat} (hk : k < H.length) : heAt H k ∈ H := by rw [heAt_get hk]; exact List.getElem_mem hk
theorem hcs_at : ∀ {L : List He} {k : Nat}, k < L.length → (hcs L)[k * 2]? = some (.int .i64 (heAt L k).1) ∧ (hcs L)[k * 2 + 1]? = some (.int .i64 ((heAt L k).2 : Int))
  | e :: l, 0, _ => ⟨rfl, rfl⟩
  | e :: l, k + 1, h => by
    have ih := hcs_at (L := l) (k := k) (by simpa using h)
    have e0 : heAt (e :: l) (k + 1) = heAt l k := rfl
    rw [e0, show (k + 1) * 2 = k * 2 + 2 by omega]
    exact ih
theorem hcs_take : ∀ (L : List He) (k : Nat), hcs (L.take k) = (hcs L).take (k * 2)
  | [], k => by simp [hcs]
  | e :: l, 0 => by simp [hcs]
  | e :: l, k + 1 => by rw [List.take_succ_cons, show (k + 1) * 2 = k * 2 + 1 + 1 by omega]; simp only [hcs, List.take_succ_cons, hcs_take l k]
theorem hcs_drop : ∀ (L : List He) (k : Nat), hcs (L.drop k) = (hcs L).drop (k * 2)
  | [], k => by simp [hcs]
  | e :: l, 0 => by simp [hcs]
  | e :: l, k + 1 => by rw [List.drop_succ_cons, show (k + 1) * 2 = k * 2 + 1 + 1 by omega]; simp only [hcs, List.drop_succ_cons, hcs_drop l k]
theorem he_split {H : List He} {k : Nat} (h : k < H.length) : H = H.take k ++ heAt H k :: H.drop (k + 1) := by
  rw [heAt_get h, List.getElem_cons_drop, List.take_append_drop]
/-- a row of held blocks of one's own -/
abbrev OwH (B : Nat) (w : World) (v : Value) (H : List He) : Prop := w.ownsRow B 55 2 v H.length (hcs H)
theorem OwH.cell {B : Nat} {w : World} {A : Option Addr} {c : Nat} {H : List He} (h : OwH B w (.slice A H.length c) H) {k : Nat} (hk : k < H.length) :
    ∃ g, A = some ⟨g, 0, none⟩ ∧ g < w.heap.size ∧ B ≤ g ∧ (w.cell? ⟨g, k * 2, none⟩ = some (.int .i64 (heAt H k).1) ∧ w.cell? ⟨g, k * 2 + 1, none⟩ = some (.int .i64 ((heAt H k).2 : Int))) := by
  obtain ⟨g, e, hl, hB, hc, _⟩ := row_cell h (by omega)
  exact ⟨g, e, hl, hB, hc _ _ (hcs_at hk).1, hc _ _ (hcs_at hk).2⟩
theorem OwH.all {B gh : Nat} {w : World} {d : Nat} {H : List He} (h : OwH B w (.slice (some ⟨gh, 0, none⟩) H.length d) H) (hn : H.length ≠ 0) : ∀ j u, (hcs H)[j]? = some u → w.cell? ⟨gh, j, none⟩ = some u := by
  obtain ⟨g, e, _, _, hc, _⟩ := row_cell h hn
  injection e with e
  injection e with e
  subst e
  exact hc
theorem OwH.some {B gh i : Nat} {w : World} {d : Nat} {H : List He} (h : OwH B w (.slice (some ⟨gh, 0, none⟩) H.length d) H) (hn : H.length ≠ 0) : ∀ j u, (hcs (H.take i))[j]? = some u → w.cell? ((⟨gh, 0, none⟩ : Addr).add j) = some u := fun j u hj => by
  have e : (⟨gh, 0, none⟩ : Addr).add j = ⟨gh, j, none⟩ := by unfold Addr.add; by_cases h : j = 0 <;> simp [h]
  rw [e]
  rw [hcs_take, List.getElem?_take] at hj
  split at hj
  · exact h.all hn j u hj
  · cases hj
abbrev St := Bool × Int × Int
def stAt (O : List St) (k : Nat) : St := O.getD k (false, 0, 0)
/-- a slice that reads as a list of steps -/
def Sts (w : World) (A : Option Addr) (O : List St) : Prop :=
  O ≠ [] → ∃ b off, A = some ⟨b, off, none⟩ ∧ b < w.heap.size ∧ ∀ k, k < O.length → w.cell? ⟨b, off + k * 3, none⟩ = some (.bool (stAt O k).1) ∧ w.cell? ⟨b, off + k * 3 + 1, none⟩ = some (.int .u8 (stAt O k).2.1) ∧ w.cell? ⟨b, off + k * 3 + 2, none⟩ = some (.int .u8 (stAt O k).2.2)
theorem Sts.below {w w' : World} {A : Option Addr} {O : List St} (h : Sts w A O) (hb : Below w.heap.size w w') : Sts w' A O := fun hn => by
  obtain ⟨b, off, e, hl, hc⟩ := h hn
  refine ⟨b, off, e, Nat.lt_of_lt_of_le hl hb.size, fun k hk => ?_⟩
  obtain ⟨c0, c1, c2⟩ := hc k hk
  exact ⟨(hb.cell (p := ⟨b, _, none⟩) hl).trans c0, (hb.cell (p := ⟨b, _, none⟩) hl).trans c1, (hb.cell (p := ⟨b, _, none⟩) hl).trans c2⟩
theorem Sts.cells {w w' : World} {A : Option Addr} {O : List St} (h : Sts w A O) (hb : Below w.heap.size w w') {k : Nat} (hk : k < O.length) : ∃ b off, A = some ⟨b, off, none⟩ ∧ b < w.heap.size ∧ w'.cell? ⟨b, off + k * 3, none⟩ = some (.bool (stAt O k).1) ∧ w'.cell? ⟨b, off + k * 3 + 1, none⟩ = some (.int .u8 (stAt O k).2.1) ∧ w'.cell? ⟨b, off + k * 3 + 2, none⟩ = some (.int .u8 (stAt O k).2.2) := by
  obtain ⟨b, off, e, hl, hc⟩ := h (by rintro rfl; simp at hk)
  obtain ⟨c0, c1, c2⟩ := hc k hk
  exact ⟨b, off, e, hl, (hb.cell (p := ⟨b, _, none⟩) hl).trans c0, (hb.cell (p := ⟨b, _, none⟩) hl).trans c1, (hb.cell (p := ⟨b, _, none⟩) hl).trans c2⟩
def StsIn (O : List St) : Prop := ∀ o ∈ O, (0 ≤ o.2.1 ∧ o.2.1 < 256) ∧ 0 ≤ o.2.2 ∧ o.2.2 < 256
theorem StsIn.at_ {O : List St} (h : StsIn O) {k : Nat} (hk : k < O.length) : (0 ≤ (stAt O k).2.1 ∧ (stAt O k).2.1 < 256) ∧ 0 ≤ (stAt O k).2.2 ∧ (stAt O k).2.2 < 256 := by
  have : stAt O k = O[k] := by unfold stAt; rw [List.getD_eq_getElem?_getD, List.getElem?_eq_getElem hk]; rfl
  rw [this]; exact h _ (List.getElem_mem hk)
/-- a slice that reads as a list of bytes -/
def Pk (w : World) (A : Option Addr) (L : List Int) : Prop := L ≠ [] → ∃ b off, A = some ⟨b, off, none⟩ ∧ b < w.heap.size ∧ ∀ k, k < L.length → w.cell? ⟨b, off + k, none⟩ = some (.int .u8 (L.getD k 0)) ∧ 0 ≤ L.getD k 0 ∧ L.getD k 0 < 256
theorem Pk.below {w w' : World} {A : Option Addr} {L : List Int} (h : Pk w A L) (hb : Below w.heap.size w w') : Pk w' A L := fun hn => by
  obtain ⟨b, off, e, hl, hc⟩ := h hn
  exact ⟨b, off, e, Nat.lt_of_lt_of_le hl hb.size, fun k hk => ⟨(hb.cell (p := ⟨b, _, none⟩) hl).trans (hc k hk).1, (hc k hk).2⟩⟩
theorem Pk.cells {w w' : World} {A : Option Addr} {L : List Int} (h : Pk w A L) (hb : Below w.heap.size w w') {k : Nat} (hk : k < L.length) : ∃ b off, A = some ⟨b, off, none⟩ ∧ b < w.heap.size ∧ w'.cell? ⟨b, off + k, none⟩ = some (.int .u8 (L.getD k 0)) ∧ 0 ≤ L.getD k 0 ∧ L.getD k 0 < 256 := by
  obtain ⟨b, off, e, hl, hc⟩ := h (by rintro rfl; simp at hk)
  exact ⟨b, off, e, hl, (hb.cell (p := ⟨b, _, none⟩) hl).trans (hc k hk).1, (hc k hk).2⟩
/-- the zone of a game -/
def pS (s c : Int) : Pm := ⟨0, 0, s % 16, 1 + c % 64, 0⟩
theorem pS_par (s c : Int) : par (pS s c) := by
  have h1 : 0 ≤ s % 16 ∧ s % 16 < 16 := by omega
  have h2 : 0 ≤ c % 64 ∧ c % 64 < 64 := by omega
  show (0 : Int) ≤ 0 ∧ (0 : Int) < 4 ∧ ((0 : Int) = 0 ∨ (0 : Int) = 1) ∧ 0 ≤ s % 16 ∧ 1 ≤ 1 + c % 64 ∧ 1 + c % 64 ≤ 256 ∧ s % 16 ≤ 256 - (1 + c % 64) ∧ (0 : Int) ≤ 0 ∧ (0 : Int) ≤ 1 + c % 64
  omega
theorem pS_pr (s c : Int) : Pr (pS s c) := par_pr (pS_par s c)
end Go.Proofs.Ytflplldamefhoaa.Bd
