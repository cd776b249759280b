import Derived.Test.YtimclgmajhhheaaG0
import Derived.Maps.AppendAt
import Derived.Deep.Cut
import Derived.Deep.DeepCutAuto
/-
  DERIVED. How asks lie in memory, to be read and of one's own.
-/
namespace Go.Proofs.Ytimclgmajhhheaa.Gr
open Go Go.RowKit Ac
set_option linter.unusedVariables false
def qC (a : A4) : List Value := [.int .i64 a.pc, .int .i64 a.ac, .int .i64 a.ke, .int .i64 a.us]
def qcs : List A4 → List Value
  | [] => []
  | a :: l => qC a ++ qcs l
theorem qC_len (a : A4) : (qC a).length = 4 := rfl
theorem qcs_length : ∀ Q : List A4, (qcs Q).length = Q.length * 4
  | [] => rfl
  | a :: l => by simp only [qcs, List.length_append, qC_len, List.length_cons, qcs_length l]; omega
theorem qcs_append : ∀ L M : List A4, qcs (L ++ M) = qcs L ++ qcs M
  | [], _ => rfl
  | r :: l, M => by simp only [qcs, List.cons_append, qcs_append l M, List.append_assoc]
theorem qcs_at : ∀ {L : List A4} {k : Nat}, k < L.length → ∀ j, j < 4 → (qcs L)[k * 4 + j]? = (qC (qAt L k))[j]?
  | r :: l, 0, _, j, hj => by
    have e0 : qAt (r :: l) 0 = r := rfl
    rw [e0, Nat.zero_mul, Nat.zero_add]
    exact List.getElem?_append_left (by rw [qC_len]; exact hj)
  | r :: l, k + 1, h, j, hj => by
    have ih := qcs_at (L := l) (k := k) (by simpa using h) j hj
    have e0 : qAt (r :: l) (k + 1) = qAt l k := rfl
    rw [e0, ← ih]
    show (qC r ++ qcs l)[(k + 1) * 4 + j]? = _
    rw [List.getElem?_append_right (by rw [qC_len]; omega), qC_len]
    congr 1; omega
theorem qC_one (r : A4) : ∀ u ∈ qC r, u.oneCell' = true := by
  intro u h
  simp only [qC, List.mem_cons, List.not_mem_nil, or_false] at h
  rcases h with rfl | rfl | rfl | rfl <;> rfl
theorem qcs_one : ∀ L : List A4, ∀ u ∈ qcs L, u.oneCell' = true
  | [], u, h => by cases h
  | r :: l, u, h => by
    rcases List.mem_append.1 (show u ∈ qC r ++ qcs l from h) with h | h
    · exact qC_one r u h
    · exact qcs_one l u h
/-- a slice that reads as asks -/
def Qs (w : World) (A : Option Addr) (L : List A4) : Prop := L ≠ [] → ∃ b off, A = some ⟨b, off, none⟩ ∧ b < w.heap.size ∧ ∀ k, k < L.length → ∀ j, j < 4 → w.cell? ⟨b, off + k * 4 + j, none⟩ = (qC (qAt L k))[j]?
theorem Qs.below {w w' : World} {A : Option Addr} {L : List A4} (h : Qs w A L) (hb : Below w.heap.size w w') : Qs w' A L := fun hn => by
  obtain ⟨b, off, e, hlt, hc⟩ := h hn
  exact ⟨b, off, e, Nat.lt_of_lt_of_le hlt hb.size, fun k hk j hj => (hb.cell (p := ⟨b, _, none⟩) hlt).trans (hc k hk j hj)⟩
theorem Qs.cells {w w' : World} {A : Option Addr} {L : List A4} (h : Qs w A L) (hb : Below w.heap.size w w') {k : Nat} (hk : k < L.length) : ∃ b off, A = some ⟨b, off, none⟩ ∧ b < w.heap.size ∧
    w'.cell? ⟨b, off + k * 4, none⟩ = some (.int .i64 (qAt L k).pc) ∧ w'.cell? ⟨b, off + k * 4 + 1, none⟩ = some (.int .i64 (qAt L k).ac) ∧ w'.cell? ⟨b, off + k * 4 + 2, none⟩ = some (.int .i64 (qAt L k).ke) ∧ w'.cell? ⟨b, off + k * 4 + 3, none⟩ = some (.int .i64 (qAt L k).us) := by
  obtain ⟨b, off, e, hl, hc⟩ := h (by rintro rfl; simp at hk)
  have c := fun j hj => (hb.cell (p := ⟨b, off + k * 4 + j, none⟩) hl).trans (hc k hk j hj)
  exact ⟨b, off, e, hl, c 0 (by omega), c 1 (by omega), c 2 (by omega), c 3 (by omega)⟩
theorem Qs.at {w : World} {b off : Nat} {L : List A4} (h : Qs w (some ⟨b, off, none⟩) L) {k : Nat} (hk : k < L.length) :
    w.cell? ⟨b, off + k * 4, none⟩ = some (.int .i64 (qAt L k).pc) ∧ w.cell? ⟨b, off + k * 4 + 1, none⟩ = some (.int .i64 (qAt L k).ac) ∧ w.cell? ⟨b, off + k * 4 + 2, none⟩ = some (.int .i64 (qAt L k).ke) ∧ w.cell? ⟨b, off + k * 4 + 3, none⟩ = some (.int .i64 (qAt L k).us) := by
  obtain ⟨b', off', e, _, hc⟩ := h (by rintro rfl; simp at hk)
  injection e with e
  injection e with e1 e2
  subst e1 e2
  exact ⟨hc k hk 0 (by omega), hc k hk 1 (by omega), hc k hk 2 (by omega), hc k hk 3 (by omega)⟩
theorem Qs.nil (w : World) (A : Option Addr) : Qs w A [] := fun h => absurd rfl h
abbrev OwQ (B : Nat) (w : World) (v : Value) (L : List A4) : Prop := w.ownsRow B 27 4 v L.length (qcs L)
theorem OwQ.rs {B c : Nat} {w : World} {A : Option Addr} {L : List A4} (h : OwQ B w (.slice A L.length c) L) : Qs w A L := fun hn => by
  obtain ⟨hl, h | ⟨g, cap, cur, e, hg, hh, h4, h5, h6, ht⟩⟩ := h
  · exact absurd (List.eq_nil_of_length_eq_zero h.2) hn
  · injection e with e1 _ e2
    refine ⟨g, 0, e1, blk_lt hh, fun k hk j hj => ?_⟩
    have hu := qcs_at hk j hj
    rw [← ht, List.getElem?_take_of_lt (by omega)] at hu
    rw [Nat.zero_add, cell_of_row w g _ cur 27 (0, 0) hh, ← hu]
    simp
theorem owq_nil (B : Nat) (w : World) : OwQ B w (.slice none 0 0) [] := ⟨rfl, .inl ⟨rfl, rfl⟩⟩
theorem info27 : (Try.prog.info? 27).map (fun i => (i.zero, i.size, i.bytes)) = some (some (.agg #[.int .i64 0, .int .i64 0, .int .i64 0, .int .i64 0]), 4, 32) := by kernel_rfl
/-- a box with an ask -/
def QB (w : World) (g : Nat) (a : A4) : Prop := Box w g 27 #[.int .i64 a.pc, .int .i64 a.ac, .int .i64 a.ke, .int .i64 a.us]
theorem QB.cells {w : World} {g : Nat} {p a k u : Int} (h : QB w g ⟨p, a, k, u⟩) : w.cell? ⟨g, 0, none⟩ = some (.int .i64 p) ∧ w.cell? ⟨g, 1, none⟩ = some (.int .i64 a) ∧ w.cell? ⟨g, 2, none⟩ = some (.int .i64 k) ∧ w.cell? ⟨g, 3, none⟩ = some (.int .i64 u) :=
  ⟨Box.cell h 0, Box.cell h 1, Box.cell h 2, Box.cell h 3⟩
theorem QB.new (w : World) (p a k u : Int) : QB (w.alloc (.cells #[.int .i64 p, .int .i64 a, .int .i64 k, .int .i64 u] 27)) w.heap.size ⟨p, a, k, u⟩ := Box.new w 27 _
theorem QB.below {w w' : World} {g : Nat} {r : A4} (h : QB w g r) (hb : Below w.heap.size w w') : QB w' g r := Box.below h hb
theorem QB.lt {w : World} {g : Nat} {r : A4} (h : QB w g r) : g < w.heap.size := Box.lt h
theorem QB.far {w : World} {g b i : Nat} {r : A4} (h : QB w g r) (hne : g ≠ b) (v : Value) : QB (w.setCell ⟨b, i, none⟩ v) g r := Box.far h hne v
/-- a box with what is missing -/
def SB (w : World) (g : Nat) (s : S3) : Prop := Box w g 38 #[.int .i64 s.c, .int .i64 s.s, .bool s.k]
theorem SB.cells {w : World} {g : Nat} {c s : Int} {k : Bool} (h : SB w g ⟨c, s, k⟩) : w.cell? ⟨g, 0, none⟩ = some (.int .i64 c) ∧ w.cell? ⟨g, 1, none⟩ = some (.int .i64 s) ∧ w.cell? ⟨g, 2, none⟩ = some (.bool k) :=
  ⟨Box.cell h 0, Box.cell h 1, Box.cell h 2⟩
theorem SB.free {w : World} {g : Nat} {s : S3} (h : SB w g s) : w.frozen? ⟨g, 0, none⟩ = false ∧ w.frozen? ⟨g, 1, none⟩ = false ∧ w.frozen? ⟨g, 2, none⟩ = false := ⟨Box.frozen h 0, Box.frozen h 1, Box.frozen h 2⟩
theorem SB.new (w : World) (c s : Int) (k : Bool) : SB (w.alloc (.cells #[.int .i64 c, .int .i64 s, .bool k] 38)) w.heap.size ⟨c, s, k⟩ := Box.new w 38 _
theorem SB.below {w w' : World} {g : Nat} {r : S3} (h : SB w g r) (hb : Below w.heap.size w w') : SB w' g r := Box.below h hb
theorem SB.lt {w : World} {g : Nat} {r : S3} (h : SB w g r) : g < w.heap.size := Box.lt h
theorem SB.put {w : World} {g : Nat} {r : S3} {c s : Int} {k : Bool} (h : SB w g r) : SB (((w.setCell ⟨g, 0, none⟩ (.int .i64 c)).setCell ⟨g, 1, none⟩ (.int .i64 s)).setCell ⟨g, 2, none⟩ (.bool k)) g ⟨c, s, k⟩ := by
  unfold SB Box at h ⊢
  simp [World.setCell, Array.getElem?_modify, h]
theorem bset3 {a w : World} {g : Nat} {v0 v1 v2 : Value} (h : Below a.heap.size a w) (hg : a.heap.size ≤ g) : Below a.heap.size a (((w.setCell ⟨g, 0, none⟩ v0).setCell ⟨g, 1, none⟩ v1).setCell ⟨g, 2, none⟩ v2) :=
  bset (bset (bset h hg _) hg _) hg _
theorem bal2 (w : World) (o1 o2 : Obj) : Below w.heap.size w ((w.alloc o1).alloc o2) := bal (bal (brefl w) o1) o2
theorem cell4_new (w : World) (r : A4) : ∀ j u, (qC r)[j]? = some u → (w.alloc (.cells #[.int .i64 r.pc, .int .i64 r.ac, .int .i64 r.ke, .int .i64 r.us] 27)).cell? ((⟨w.heap.size, 0, none⟩ : Addr).add j) = some u := by
  intro j u hu
  have hj : j < 4 := by
    rcases Nat.lt_or_ge j 4 with h | h
    · exact h
    · rw [List.getElem?_eq_none (by rw [qC_len]; exact h)] at hu; cases hu
  have hadd : (⟨w.heap.size, 0, none⟩ : Addr).add j = ⟨w.heap.size, j, none⟩ := by unfold Addr.add; split <;> simp_all
  rw [hadd, Box.cell (Box.new w 27 #[.int .i64 r.pc, .int .i64 r.ac, .int .i64 r.ke, .int .i64 r.us]) j, ← hu]
  rcases (show j = 0 ∨ j = 1 ∨ j = 2 ∨ j = 3 by omega) with rfl | rfl | rfl | rfl <;> rfl
theorem qs_one {w : World} {g : Nat} {r : A4} (h : QB w g r) : Qs w (some ⟨g, 0, none⟩) [r] := fun _ => ⟨g, 0, rfl, h.lt, fun k hk j hj => by
  obtain rfl : k = 0 := by simpa using hk
  rw [Nat.zero_mul, Nat.zero_add]
  refine (Box.cell h j).trans ?_
  rcases (show j = 0 ∨ j = 1 ∨ j = 2 ∨ j = 3 by omega) with rfl | rfl | rfl | rfl <;> rfl⟩
/-- the cells of a list, one after the other -/
theorem Qs.news {w : World} {a : Addr} {L : List A4} (hr : Qs w (some a) L) (j : Nat) (u : Value) (hu : (qcs L)[j]? = some u) : w.cell? (a.add j) = some u := by
  have hl := qcs_length L
  have hj : j < L.length * 4 := by
    rcases Nat.lt_or_ge j (L.length * 4) with h | h
    · exact h
    · rw [List.getElem?_eq_none (by omega)] at hu; cases hu
  obtain ⟨b, off, e, _, hc⟩ := hr (by rintro rfl; simp at hj)
  injection e with e
  subst e
  have hk : j / 4 < L.length := by omega
  have hm : j % 4 < 4 := by omega
  have ej : j = j / 4 * 4 + j % 4 := by omega
  have c := hc (j / 4) hk (j % 4) hm
  have g := qcs_at hk (j % 4) hm
  rw [← ej] at g
  have hadd : (⟨b, off, none⟩ : Addr).add j = ⟨b, off + (j / 4) * 4 + j % 4, none⟩ := by
    unfold Addr.add
    by_cases h0 : j = 0
    · subst h0; simp
    · simp [h0]; omega
  rw [hadd, c, ← g, hu]
theorem Qs.tail {w : World} {b off : Nat} {L : List A4} (h : Qs w (some ⟨b, off, none⟩) L) (i : Nat) : Qs w (some ⟨b, off + i * 4, none⟩) (L.drop i) := fun hn => by
  have hi : i < L.length := by
    rcases Nat.lt_or_ge i L.length with g | g
    · exact g
    · exact absurd (List.drop_eq_nil_of_le g) hn
  obtain ⟨b', off', e, hl, hc⟩ := h (by rintro rfl; simp at hi)
  injection e with e
  injection e with e1 e2
  subst e1 e2
  refine ⟨b, off + i * 4, rfl, hl, fun k hk j hj => ?_⟩
  rw [List.length_drop] at hk
  have := hc (i + k) (by omega) j hj
  have e3 : qAt (L.drop i) k = qAt L (i + k) := by unfold qAt; rw [List.getD_eq_getElem?_getD, List.getD_eq_getElem?_getD, List.getElem?_drop]
  rw [e3, ← this]
  congr 2; omega
theorem Qs.take {w : World} {A : Option Addr} {L : List A4} (h : Qs w A L) (i : Nat) : Qs w A (L.take i) := fun hn => by
  obtain ⟨b, off, e, hl, hc⟩ := h (by rintro rfl; simp at hn)
  refine ⟨b, off, e, hl, fun k hk j hj => ?_⟩
  rw [List.length_take] at hk
  have e3 : qAt (L.take i) k = qAt L k := by unfold qAt; rw [List.getD_eq_getElem?_getD, List.getD_eq_getElem?_getD, List.getElem?_take_of_lt (by omega)]
  rw [e3]
  exact hc k (by omega) j hj
end Go.Proofs.Ytimclgmajhhheaa.Gr
