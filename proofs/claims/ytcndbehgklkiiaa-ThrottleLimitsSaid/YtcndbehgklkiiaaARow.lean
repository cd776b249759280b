import Derived.Test.YtcndbehgklkiiaaAMem
import Derived.Maps.AppendAt
import Derived.Deep.Cut
import Derived.Deep.DeepCutAuto
import Derived.Shelf.Abstract
import Derived.Lib.SliceRun
/-
  DERIVED. How accounts lie in memory, to be read and of one's own.
-/
namespace Go.Proofs.Ytcndbehgklkiiaa.Ac
open Go Go.RowKit
set_option linter.unusedVariables false
/-- a row of ints of one's own -/
abbrev OwI (B : Nat) (w : World) (v : Value) (l : Is) : Prop := w.ownsRow B 3 1 v l.length (l.map ic)
theorem OwI.is {B : Nat} {w : World} {v : Value} {l : Is} (h : OwI B w v l) : IsI w v l := by
  obtain ⟨A, c, rfl, hc⟩ := row_form h
  exact (OwnI.of_row h).is
theorem OwI.bi {B c : Nat} {w : World} {A : Option Addr} {l : Is} (h : OwI B w (.slice A l.length c) l) : Bi w A l := by
  obtain ⟨A', c', e, _, hr⟩ := OwI.is h
  injection e with e1 _ _
  subst e1
  exact hr
theorem ow_nil (B : Nat) (w : World) : OwI B w (.slice none 0 0) [] := ⟨rfl, .inl ⟨rfl, rfl⟩⟩
theorem Bi.cells {w w' : World} {A : Option Addr} {l : Is} (h : Bi w A l) (hb : Below w.heap.size w w') {k : Nat} (hk : k < l.length) : ∃ b off, A = some ⟨b, off, none⟩ ∧ b < w.heap.size ∧ w'.cell? ⟨b, off + k, none⟩ = some (.int .i64 (l.getD k 0)) := by
  obtain ⟨b, off, e, hl, hc⟩ := h (by rintro rfl; simp at hk)
  exact ⟨b, off, e, hl, (hb.cell (p := ⟨b, _, none⟩) hl).trans (hc k hk)⟩
theorem cell_one_new (w : World) (v : Value) (t : TypeId) : ∀ j u, [v][j]? = some u → (w.alloc (.cells #[v] t)).cell? ((⟨w.heap.size, 0, none⟩ : Addr).add j) = some u := by
  intro j u hu
  match j, hu with
  | 0, hu =>
    simp only [List.getElem?_cons_zero, Option.some.injEq] at hu
    subst hu
    show (w.alloc (.cells #[v] t)).cell? ⟨w.heap.size, 0, none⟩ = some v
    exact Box.cell (Box.new w t #[v]) 0
  | j + 1, hu => simp at hu
theorem below_grown {base B n size : Nat} {T : TypeId} {w w' : World} {v : Value} {xs : List Value} (h : w.ownsRow base T size v n xs) (hg : w.grownBy w' v.ownBlock) (hs : base ≤ w.heap.size) : Below base w w' :=
  (Kp.grown h hg (Nat.le_refl _) hs).below
-- ACCOUNTS
def acC (a : A5) : List Value := [ic a.pa, ic a.us, ic a.mn, ic a.lo, ic a.mx]
def acs : List A5 → List Value
  | [] => []
  | a :: l => ic a.pa :: ic a.us :: ic a.mn :: ic a.lo :: ic a.mx :: acs l
theorem acs_length : ∀ L : List A5, (acs L).length = L.length * 5
  | [] => rfl
  | a :: l => by simp only [acs, List.length_cons, acs_length l]; omega
theorem acs_append : ∀ L M : List A5, acs (L ++ M) = acs L ++ acs M
  | [], _ => rfl
  | a :: l, M => by simp only [acs, List.cons_append, acs_append l M]
theorem aAt_get {L : List A5} {k : Nat} (h : k < L.length) : aAt L k = L[k] := by
  unfold aAt
  rw [List.getD_eq_getElem?_getD, List.getElem?_eq_getElem h]; rfl
theorem acs_at : ∀ {L : List A5} {k : Nat}, k < L.length → ∀ j, j < 5 → (acs L)[k * 5 + j]? = (acC (aAt L k))[j]?
  | a :: l, 0, _, j, hj => by
    rcases (show j = 0 ∨ j = 1 ∨ j = 2 ∨ j = 3 ∨ j = 4 by omega) with rfl | rfl | rfl | rfl | rfl <;> rfl
  | a :: l, k + 1, h, j, hj => by
    have ih := acs_at (L := l) (k := k) (by simpa using h) j hj
    have e0 : aAt (a :: l) (k + 1) = aAt l k := rfl
    rw [e0, show (k + 1) * 5 + j = (k * 5 + j) + 5 by omega]
    exact ih
theorem acs_one : ∀ L : List A5, ∀ u ∈ acs L, u.oneCell' = true
  | [], u, h => by cases h
  | a :: l, u, h => by
    simp only [acs, List.mem_cons] at h
    rcases h with rfl | rfl | rfl | rfl | rfl | h
    · rfl
    · rfl
    · rfl
    · rfl
    · rfl
    · exact acs_one l u h
/-- a slice that reads as accounts, nil let in -/
def As (w : World) (A : Option Addr) (L : List A5) : Prop := L ≠ [] → ∃ b off, A = some ⟨b, off, none⟩ ∧ b < w.heap.size ∧ ∀ k, k < L.length → ∀ j, j < 5 → w.cell? ⟨b, off + k * 5 + j, none⟩ = (acC (aAt L k))[j]?
/-- the numbers are ints of 64 bits -/
def wfL (L : List A5) : Prop := ∀ k, k < L.length → i64r (pa L k) ∧ i64r (us L k) ∧ i64r (mn L k) ∧ i64r (lo L k) ∧ i64r (mx L k)
theorem As.below {w w' : World} {A : Option Addr} {L : List A5} (h : As w A L) (hb : Below w.heap.size w w') : As w' A L := fun hn => by
  obtain ⟨b, off, e, hlt, hc⟩ := h hn
  exact ⟨b, off, e, Nat.lt_of_lt_of_le hlt hb.size, fun k hk j hj => (hb.cell (p := ⟨b, _, none⟩) hlt).trans (hc k hk j hj)⟩
/-- the five cells of account k, in a later world -/
theorem As.cells {w w' : World} {A : Option Addr} {L : List A5} (h : As w A L) (hb : Below w.heap.size w w') {k : Nat} (hk : k < L.length) : ∃ b off, A = some ⟨b, off, none⟩ ∧ b < w.heap.size ∧
    w'.cell? ⟨b, off + k * 5, none⟩ = some (.int .i64 (pa L k)) ∧ w'.cell? ⟨b, off + k * 5 + 1, none⟩ = some (.int .i64 (us L k)) ∧ w'.cell? ⟨b, off + k * 5 + 2, none⟩ = some (.int .i64 (mn L k)) ∧ w'.cell? ⟨b, off + k * 5 + 3, none⟩ = some (.int .i64 (lo L k)) ∧ w'.cell? ⟨b, off + k * 5 + 4, none⟩ = some (.int .i64 (mx L k)) := by
  obtain ⟨b, off, e, hl, hc⟩ := h (by rintro rfl; simp at hk)
  have c := fun j hj => (hb.cell (p := ⟨b, off + k * 5 + j, none⟩) hl).trans (hc k hk j hj)
  exact ⟨b, off, e, hl, c 0 (by omega), c 1 (by omega), c 2 (by omega), c 3 (by omega), c 4 (by omega)⟩
theorem As.nil (w : World) (A : Option Addr) : As w A [] := fun h => absurd rfl h
/-- accounts in a row of one's own -/
abbrev OwA (B : Nat) (w : World) (v : Value) (L : List A5) : Prop := w.ownsRow B 58 5 v L.length (acs L)
theorem OwA.as {B c : Nat} {w : World} {A : Option Addr} {L : List A5} (h : OwA B w (.slice A L.length c) L) : As w A L := fun hn => by
  obtain ⟨hl, h | ⟨g, cap, cur, e, hg, hh, h4, h5, h6, ht⟩⟩ := h
  · exact absurd (List.eq_nil_of_length_eq_zero h.2) hn
  · injection e with e1 _ e2
    refine ⟨g, 0, e1, blk_lt hh, fun k hk j hj => ?_⟩
    have hu := acs_at hk j hj
    rw [← ht, List.getElem?_take_of_lt (by omega)] at hu
    rw [Nat.zero_add, cell_of_row w g _ cur 58 (0, 0) hh, ← hu]
    simp
theorem owa_nil (B : Nat) (w : World) : OwA B w (.slice none 0 0) [] := ⟨rfl, .inl ⟨rfl, rfl⟩⟩
theorem info3 : (Try.prog.info? 3).map (fun i => (i.zero, i.size, i.bytes)) = some (some (.int .i64 0), 1, 8) := by kernel_rfl
theorem info58 : (Try.prog.info? 58).map (fun i => (i.zero, i.size, i.bytes)) = some (some (.agg #[.int .i64 0, .int .i64 0, .int .i64 0, .int .i64 0, .int .i64 0]), 5, 40) := by kernel_rfl
/-- accounts that came in -/
structure AIn (w : World) (A : Option Addr) (L : List A5) (cp : Nat) : Prop where
  rd : As w A L
  wf : wfL L
  len : L.length ≤ 9223372036854775807
  cap : L.length ≤ cp
theorem AIn.below {w w' : World} {A : Option Addr} {L : List A5} {cp : Nat} (h : AIn w A L cp) (hb : Below w.heap.size w w') : AIn w' A L cp := ⟨h.rd.below hb, h.wf, h.len, h.cap⟩
/-- a row of ints in a block of its own -/
def RI (w : World) (g n : Nat) (c : Nat → Int) : Prop := w.rowIs g 3 n (fun j => .int .i64 (c j))
theorem RI.below {w w' : World} {g n : Nat} {c : Nat → Int} (h : RI w g n c) (hb : Below w.heap.size w w') : RI w' g n c := h.of_block (hb.block g h.lt)
theorem RI.far {w : World} {g n b o : Nat} {c : Nat → Int} (h : RI w g n c) (hne : g ≠ b) (v : Value) : RI (w.setCell ⟨b, o, none⟩ v) g n c := h.of_block (heap_setCell_other w ⟨b, o, none⟩ g v hne)
theorem RI.congr {w : World} {g n : Nat} {c c' : Nat → Int} (h : RI w g n c) (e : ∀ x, x < n → c x = c' x) : RI w g n c' := World.rowIs.congr h fun i hi => by rw [e i hi]
theorem RI.put {w : World} {g n : Nat} {c c' : Nat → Int} (h : RI w g n c) (f : Nat) (z : Int) (e : ∀ x, x < n → c' x = if x = f then z else c x) : RI (w.setCell ⟨g, f, none⟩ (.int .i64 z)) g n c' := (World.rowIs.set h f (.int .i64 z)).congr fun i hi => by
  rw [e i hi]
  by_cases hi2 : i = f
  · rw [if_pos hi2, if_pos hi2]
  · rw [if_neg hi2, if_neg hi2]
theorem RI.made (w : World) (n : Nat) (c : Nat → Int) (hc : ∀ x, x < n → c x = 0) : RI (w.alloc (.cells (madeCells #[.int .i64 0] n) 3)) w.heap.size n c :=
  (World.rowIs_made w (.int .i64 0) n 3).congr fun i hi => by rw [hc i hi]
theorem makeN (w : World) (n : Nat) (h : n ≤ 1000000) : (Instr.makeSlice 56 (.int .i64 (n : Int)) (.int .i64 (n : Int))).run Try.prog w = .ok (.slice (some ⟨w.heap.size, 0, none⟩) n n) (w.alloc (.cells (madeCells #[.int .i64 0] n) 3)) :=
  run_make_row' (P := Try.prog) 56 3 (.int .i64 0) 8 Try.underlying56 info3 rfl .i64 .i64 n (by omega) (by omega) w
theorem cell_far {w : World} {g f b o : Nat} {v : Value} (h : b ≠ g) : (w.setCell ⟨g, f, none⟩ v).cell? ⟨b, o, none⟩ = w.cell? ⟨b, o, none⟩ := World.cell?_setCell_other w ⟨g, f, none⟩ ⟨b, o, none⟩ v (fun e => h (by injection e with e1; first | exact e1 | exact e1.symm))
/-- the numbers of a row as a list -/
def rl (n : Nat) (c : Nat → Int) : Is := (List.range n).map c
theorem rl_len (n : Nat) (c : Nat → Int) : (rl n c).length = n := by unfold rl; simp
theorem rl_at {n : Nat} {c : Nat → Int} {k : Nat} (h : k < n) : (rl n c).getD k 0 = c k := by
  unfold rl
  rw [List.getD_eq_getElem?_getD, List.getElem?_map, List.getElem?_range h]
  rfl
theorem RI.bi {w : World} {g n : Nat} {c : Nat → Int} (h : RI w g n c) : Bi w (some ⟨g, 0, none⟩) (rl n c) := fun _ => ⟨g, 0, rfl, h.lt, fun k hk => by
  rw [rl_len] at hk
  rw [Nat.zero_add, h.cell hk, rl_at hk]⟩
end Go.Proofs.Ytcndbehgklkiiaa.Ac
