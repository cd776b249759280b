import Derived.Test.YtioffnpnoohbiaaMem
import Derived.Maps.AppendAt
import Derived.Deep.Cut
import Derived.Deep.DeepCutAuto
/-
  DERIVED. How mappings lie in memory, to be read and of one's own.
-/
namespace Go.Proofs.Ytioffnpnoohbiaa.Rm
open Go Go.RowKit
set_option linter.unusedVariables false
def mC (m : Mp) : List Value := [.int .i64 m.s, .int .i64 m.p]
def mcs : List Mp → List Value
  | [] => []
  | a :: l => mC a ++ mcs l
theorem mC_len (a : Mp) : (mC a).length = 2 := rfl
theorem mcs_length : ∀ Q : List Mp, (mcs Q).length = Q.length * 2
  | [] => rfl
  | a :: l => by simp only [mcs, List.length_append, mC_len, List.length_cons, mcs_length l]; omega
theorem mcs_append : ∀ L M : List Mp, mcs (L ++ M) = mcs L ++ mcs M
  | [], _ => rfl
  | r :: l, M => by simp only [mcs, List.cons_append, mcs_append l M, List.append_assoc]
theorem mcs_take : ∀ (L : List Mp) (i : Nat), mcs (L.take i) = (mcs L).take (i * 2)
  | [], i => by simp [mcs]
  | x :: l, 0 => by simp [mcs]
  | x :: l, i + 1 => by
    rw [show (i + 1) * 2 = i * 2 + 2 by omega]
    simp only [List.take_succ_cons, mcs, mcs_take l i]
    rfl
theorem mcs_drop : ∀ (L : List Mp) (i : Nat), mcs (L.drop i) = (mcs L).drop (i * 2)
  | [], i => by simp [mcs]
  | x :: l, 0 => by simp [mcs]
  | x :: l, i + 1 => by
    rw [show (i + 1) * 2 = i * 2 + 2 by omega]
    simp only [List.drop_succ_cons, mcs, mcs_drop l i]
    rfl
theorem mcs_at : ∀ {L : List Mp} {k : Nat}, k < L.length → ∀ j, j < 2 → (mcs L)[k * 2 + j]? = (mC (at' L k))[j]?
  | r :: l, 0, _, j, hj => by
    have e0 : at' (r :: l) 0 = r := rfl
    rw [e0, Nat.zero_mul, Nat.zero_add]
    exact List.getElem?_append_left (by rw [mC_len]; exact hj)
  | r :: l, k + 1, h, j, hj => by
    have ih := mcs_at (L := l) (k := k) (by simpa using h) j hj
    have e0 : at' (r :: l) (k + 1) = at' l k := rfl
    rw [e0, ← ih]
    show (mC r ++ mcs l)[(k + 1) * 2 + j]? = _
    rw [List.getElem?_append_right (by rw [mC_len]; omega), mC_len]
    congr 1; omega
theorem mC_one (r : Mp) : ∀ u ∈ mC r, u.oneCell' = true := by
  intro u h
  simp only [mC, List.mem_cons, List.not_mem_nil, or_false] at h
  rcases h with rfl | rfl <;> rfl
theorem mcs_one : ∀ L : List Mp, ∀ u ∈ mcs L, u.oneCell' = true
  | [], u, h => by cases h
  | r :: l, u, h => by
    rcases List.mem_append.1 (show u ∈ mC r ++ mcs l from h) with h | h
    · exact mC_one r u h
    · exact mcs_one l u h
/-- a slice that reads as mappings -/
def Ms (w : World) (A : Option Addr) (L : List Mp) : Prop := L ≠ [] → ∃ b off, A = some ⟨b, off, none⟩ ∧ b < w.heap.size ∧ ∀ k, k < L.length → ∀ j, j < 2 → w.cell? ⟨b, off + k * 2 + j, none⟩ = (mC (at' L k))[j]?
theorem Ms.below {w w' : World} {A : Option Addr} {L : List Mp} (h : Ms w A L) (hb : Below w.heap.size w w') : Ms w' A L := fun hn => by
  obtain ⟨b, off, e, hlt, hc⟩ := h hn
  exact ⟨b, off, e, Nat.lt_of_lt_of_le hlt hb.size, fun k hk j hj => (hb.cell (p := ⟨b, _, none⟩) hlt).trans (hc k hk j hj)⟩
theorem Ms.cells {w w' : World} {A : Option Addr} {L : List Mp} (h : Ms w A L) (hb : Below w.heap.size w w') {k : Nat} (hk : k < L.length) : ∃ b off, A = some ⟨b, off, none⟩ ∧ b < w.heap.size ∧
    w'.cell? ⟨b, off + k * 2, none⟩ = some (.int .i64 (at' L k).s) ∧ w'.cell? ⟨b, off + k * 2 + 1, none⟩ = some (.int .i64 (at' L k).p) := by
  obtain ⟨b, off, e, hl, hc⟩ := h (by rintro rfl; simp at hk)
  have c := fun j hj => (hb.cell (p := ⟨b, off + k * 2 + j, none⟩) hl).trans (hc k hk j hj)
  exact ⟨b, off, e, hl, c 0 (by omega), c 1 (by omega)⟩
theorem Ms.at {w : World} {b off : Nat} {L : List Mp} (h : Ms w (some ⟨b, off, none⟩) L) {k : Nat} (hk : k < L.length) :
    w.cell? ⟨b, off + k * 2, none⟩ = some (.int .i64 (at' L k).s) ∧ w.cell? ⟨b, off + k * 2 + 1, none⟩ = some (.int .i64 (at' L k).p) := by
  obtain ⟨b', off', e, _, hc⟩ := h (by rintro rfl; simp at hk)
  injection e with e
  injection e with e1 e2
  subst e1 e2
  exact ⟨hc k hk 0 (by omega), hc k hk 1 (by omega)⟩
theorem Ms.nil (w : World) (A : Option Addr) : Ms w A [] := fun h => absurd rfl h
abbrev OwM (B : Nat) (w : World) (v : Value) (L : List Mp) : Prop := w.ownsRow B 26 2 v L.length (mcs L)
theorem OwM.rs {B c : Nat} {w : World} {A : Option Addr} {L : List Mp} (h : OwM B w (.slice A L.length c) L) : Ms w A L := fun hn => by
  obtain ⟨hl, h | ⟨g, cap, cur, e, hg, hh, h4, h5, h6, ht⟩⟩ := h
  · exact absurd (List.eq_nil_of_length_eq_zero h.2) hn
  · injection e with e1 _ e2
    refine ⟨g, 0, e1, blk_lt hh, fun k hk j hj => ?_⟩
    have hu := mcs_at hk j hj
    rw [← ht, List.getElem?_take_of_lt (by omega)] at hu
    rw [Nat.zero_add, cell_of_row w g _ cur 26 (0, 0) hh, ← hu]
    simp
theorem owm_nil (B : Nat) (w : World) : OwM B w (.slice none 0 0) [] := ⟨rfl, .inl ⟨rfl, rfl⟩⟩
theorem info26 : (Try.prog.info? 26).map (fun i => (i.zero, i.size, i.bytes)) = some (some (.agg #[.int .i64 0, .int .i64 0]), 2, 16) := by kernel_rfl
/-- a box with a mapping -/
def MB (w : World) (g : Nat) (a : Mp) : Prop := Box w g 26 #[.int .i64 a.s, .int .i64 a.p]
theorem MB.cells {w : World} {g : Nat} {s p : Int} (h : MB w g ⟨s, p⟩) : w.cell? ⟨g, 0, none⟩ = some (.int .i64 s) ∧ w.cell? ⟨g, 1, none⟩ = some (.int .i64 p) := ⟨Box.cell h 0, Box.cell h 1⟩
theorem MB.new (w : World) (s p : Int) : MB (w.alloc (.cells #[.int .i64 s, .int .i64 p] 26)) w.heap.size ⟨s, p⟩ := Box.new w 26 _
theorem MB.below {w w' : World} {g : Nat} {r : Mp} (h : MB w g r) (hb : Below w.heap.size w w') : MB w' g r := Box.below h hb
theorem MB.lt {w : World} {g : Nat} {r : Mp} (h : MB w g r) : g < w.heap.size := Box.lt h
theorem MB.far {w : World} {g b i : Nat} {r : Mp} (h : MB w g r) (hne : g ≠ b) (v : Value) : MB (w.setCell ⟨b, i, none⟩ v) g r := Box.far h hne v
theorem MB.free {w : World} {g : Nat} {r : Mp} (h : MB w g r) : w.frozen? ⟨g, 0, none⟩ = false ∧ w.frozen? ⟨g, 1, none⟩ = false := ⟨Box.frozen h 0, Box.frozen h 1⟩
theorem MB.put {w : World} {g : Nat} {r : Mp} {s p : Int} (h : MB w g r) : MB ((w.setCell ⟨g, 0, none⟩ (.int .i64 s)).setCell ⟨g, 1, none⟩ (.int .i64 p)) g ⟨s, p⟩ := by
  unfold MB Box at h ⊢
  simp [World.setCell, Array.getElem?_modify, h]
theorem bal2 (w : World) (o1 o2 : Obj) : Below w.heap.size w ((w.alloc o1).alloc o2) := bal (bal (brefl w) o1) o2
theorem add_at' (b off k : Nat) : (⟨b, off, none⟩ : Addr).add k = ⟨b, off + k, none⟩ := by
  unfold Addr.add
  by_cases h0 : k = 0
  · subst h0; simp
  · simp [h0]
theorem MB.news {w : World} {g : Nat} {a : Mp} (h : MB w g a) : ∀ j u, (mC a)[j]? = some u → w.cell? ((⟨g, 0, none⟩ : Addr).add j) = some u := by
  intro j u hu
  have hj : j < 2 := by
    rcases Nat.lt_or_ge j 2 with h | h
    · exact h
    · rw [List.getElem?_eq_none (by rw [mC_len]; exact h)] at hu; cases hu
  rw [add_at', Nat.zero_add, Box.cell h j, ← hu]
  rcases (show j = 0 ∨ j = 1 by omega) with rfl | rfl <;> rfl
theorem ms_one {w : World} {g : Nat} {r : Mp} (h : MB w g r) : Ms w (some ⟨g, 0, none⟩) [r] := fun _ => ⟨g, 0, rfl, h.lt, fun k hk j hj => by
  obtain rfl : k = 0 := by simpa using hk
  rw [Nat.zero_mul, Nat.zero_add]
  refine (Box.cell h j).trans ?_
  rcases (show j = 0 ∨ j = 1 by omega) with rfl | rfl <;> rfl⟩
/-- the cells of a list, one after the other -/
theorem Ms.news {w : World} {a : Addr} {L : List Mp} (hr : Ms w (some a) L) (j : Nat) (u : Value) (hu : (mcs L)[j]? = some u) : w.cell? (a.add j) = some u := by
  have hl := mcs_length L
  have hj : j < L.length * 2 := by
    rcases Nat.lt_or_ge j (L.length * 2) with h | h
    · exact h
    · rw [List.getElem?_eq_none (by omega)] at hu; cases hu
  obtain ⟨b, off, e, _, hc⟩ := hr (by rintro rfl; simp at hj)
  injection e with e
  subst e
  have hk : j / 2 < L.length := by omega
  have hm : j % 2 < 2 := by omega
  have ej : j = j / 2 * 2 + j % 2 := by omega
  have c := hc (j / 2) hk (j % 2) hm
  have g := mcs_at hk (j % 2) hm
  rw [← ej] at g
  rw [add_at', show off + j = off + (j / 2) * 2 + j % 2 by omega, c, ← g, hu]
theorem Ms.take {w : World} {A : Option Addr} {L : List Mp} (h : Ms w A L) (i : Nat) : Ms w A (L.take i) := fun hn => by
  obtain ⟨b, off, e, hl, hc⟩ := h (by rintro rfl; simp at hn)
  refine ⟨b, off, e, hl, fun k hk j hj => ?_⟩
  rw [List.length_take] at hk
  rw [at_take (by omega)]
  exact hc k (by omega) j hj
theorem below_grown {base B n size : Nat} {T : TypeId} {w w' : World} {v : Value} {xs : List Value} (h : w.ownsRow base T size v n xs) (hg : w.grownBy w' v.ownBlock) (hs : base ≤ w.heap.size) : Below base w w' :=
  (Kp.grown h hg (Nat.le_refl _) hs).below
end Go.Proofs.Ytioffnpnoohbiaa.Rm
