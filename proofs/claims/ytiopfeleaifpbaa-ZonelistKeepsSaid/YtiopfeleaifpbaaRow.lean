import Derived.Test.YtiopfeleaifpbaaMem
import Derived.Maps.AppendAt
import Derived.Deep.Cut
import Derived.Deep.DeepCutAuto
import Derived.Shelf.Abstract
namespace Go.Proofs.Ytiopfeleaifpbaa.Bd
open Go Go.RowKit
set_option linter.unusedVariables false
def zi (z : Int) : Value := .int .i64 z
/-- the ten cells of a zone -/
def znC (p : Pm) (v : Nat → Value) : Array Value := #[.int .i64 p.nd, .int .i64 p.kd, .int .i64 p.st, .int .i64 p.ct, .int .i64 p.mn, v 0, v 1, v 2, v 3, v 4]
theorem znC_size (p : Pm) (v : Nat → Value) : (znC p v).size = 10 := rfl
theorem znC_at (p : Pm) (v : Nat → Value) {k : Nat} (hk : k < 5) : (znC p v)[5 + k]? = some (v k) := by
  rcases cases5 hk with rfl | rfl | rfl | rfl | rfl <;> rfl
def vset (v : Nat → Value) (k : Nat) (u : Value) : Nat → Value := fun j => if j = k then u else v j
theorem znC_set (p : Pm) (v : Nat → Value) {k : Nat} (u : Value) (hk : k < 5) : (znC p v).setIfInBounds (5 + k) u = znC p (vset v k u) := by
  rcases cases5 hk with rfl | rfl | rfl | rfl | rfl <;> rfl
/-- parameters that are ints of 64 bits -/
structure Pr (p : Pm) : Prop where
  nd : i64r p.nd
  kd : i64r p.kd
  st : i64r p.st
  ct : i64r p.ct
  mn : i64r p.mn
/-- the lists of a zone, to be read -/
def RdZ (w : World) (v : Nat → Value) (L : Fl) : Prop := ∀ k, k < 5 → IsI w (v k) (L k)
theorem RdZ.below {w w' : World} {v : Nat → Value} {L : Fl} (h : RdZ w v L) (hb : Below w.heap.size w w') : RdZ w' v L := fun k hk => (h k hk).below hb
/-- a row of ints of one's own -/
abbrev OwI (B : Nat) (w : World) (v : Value) (l : Is) : Prop := w.ownsRow B 3 1 v l.length (l.map ic)
/-- the lists of a zone of one's own -/
structure OwZ (B : Nat) (w : World) (v : Nat → Value) (L : Fl) : Prop where
  row : ∀ k, k < 5 → OwI B w (v k) (L k)
  dis : ∀ i j, i < 5 → j < 5 → i ≠ j → (v i).ownBlock = none ∨ (v i).ownBlock ≠ (v j).ownBlock
theorem OwI.is {B : Nat} {w : World} {v : Value} {l : Is} (h : OwI B w v l) : IsI w v l := by
  obtain ⟨A, c, rfl, hc⟩ := row_form h
  exact (OwnI.of_row h).is
theorem OwZ.rd {B : Nat} {w : World} {v : Nat → Value} {L : Fl} (h : OwZ B w v L) : RdZ w v L := fun k hk => OwI.is (h.row k hk)
theorem OwZ.below {B : Nat} {w w' : World} {v : Nat → Value} {L : Fl} (h : OwZ B w v L) (hb : Below w.heap.size w w') : OwZ B w' v L := ⟨fun k hk => row_below (h.row k hk) hb, h.dis⟩
theorem OwZ.kp {B B' : Nat} {T : TypeId} {w w' : World} {v : Nat → Value} {L : Fl} (h : OwZ B w v L) (hk : Kp B' T w w') (hne : (3 : TypeId) ≠ T) : OwZ B w' v L := ⟨fun k h5 => row_kp (h.row k h5) hk hne, h.dis⟩
theorem OwZ.mono {B B' : Nat} {w : World} {v : Nat → Value} {L : Fl} (h : OwZ B w v L) (hB : B' ≤ B) : OwZ B' w v L := ⟨fun k h5 => row_mono (h.row k h5) hB, h.dis⟩
theorem OwZ.nil (B : Nat) (w : World) : OwZ B w (fun _ => .slice none 0 0) (fun _ => []) :=
  ⟨fun k _ => ⟨rfl, .inl ⟨rfl, rfl⟩⟩, fun i j _ _ _ => .inl rfl⟩
/-- one of the lists is replaced by another in the same block, or in a new one -/
theorem OwZ.put {B : Nat} {w w' : World} {v : Nat → Value} {L : Fl} (h : OwZ B w v L) {k : Nat} (hk : k < 5) {u : Value} {l : Is} (hg : w.grownBy w' (v k).ownBlock) (hu : OwI B w' u l)
    (hd : ∀ j, j < 5 → j ≠ k → u.ownBlock = none ∨ u.ownBlock ≠ (v j).ownBlock) : OwZ B w' (vset v k u) (upd L k l) := by
  refine ⟨fun j hj => ?_, fun i j hi hj hne => ?_⟩
  · by_cases e : j = k
    · subst e; unfold vset; rw [if_pos rfl, upd_at]; exact hu
    · unfold vset; rw [if_neg e, upd_ne e]; exact (h.row j hj).kept hg (h.dis j k hj hk e)
  · unfold vset
    by_cases e : i = k
    · subst e
      rw [if_pos rfl, if_neg (fun x => hne x.symm)]
      exact hd j hj (fun x => hne x.symm)
    · rw [if_neg e]
      by_cases e2 : j = k
      · subst e2
        rw [if_pos rfl]
        rcases hd i hi e with h1 | h1
        · rcases hx : (v i).ownBlock with _ | x
          · exact .inl rfl
          · rw [h1]; exact .inr (fun x => by cases x)
        · exact .inr (fun x => h1 x.symm)
      · rw [if_neg e2]; exact h.dis i j hi hj hne
theorem Bi.cells {w w' : World} {A : Option Addr} {l : Is} (h : Bi w A l) (hb : Below w.heap.size w w') {k : Nat} (hk : k < l.length) : ∃ b off, A = some ⟨b, off, none⟩ ∧ b < w.heap.size ∧ w'.cell? ⟨b, off + k, none⟩ = some (.int .i64 (l.getD k 0)) := by
  obtain ⟨b, off, e, hl, hc⟩ := h (by rintro rfl; simp at hk)
  exact ⟨b, off, e, hl, (hb.cell (p := ⟨b, _, none⟩) hl).trans (hc k hk)⟩
-- A BOX OF A ZONE
theorem box_zone {w : World} {g : Nat} {p : Pm} {v : Nat → Value} (h : Box w g 41 (znC p v)) : w.cell? ⟨g, 0, none⟩ = some (.int .i64 p.nd) ∧ w.cell? ⟨g, 1, none⟩ = some (.int .i64 p.kd) ∧ w.cell? ⟨g, 2, none⟩ = some (.int .i64 p.st) ∧ w.cell? ⟨g, 3, none⟩ = some (.int .i64 p.ct) ∧ w.cell? ⟨g, 4, none⟩ = some (.int .i64 p.mn) :=
  ⟨h.cell 0, h.cell 1, h.cell 2, h.cell 3, h.cell 4⟩
theorem box_list {w : World} {g : Nat} {p : Pm} {v : Nat → Value} (h : Box w g 41 (znC p v)) {k : Nat} (hk : k < 5) : w.cell? ⟨g, 5 + k, none⟩ = some (v k) := (h.cell (5 + k)).trans (znC_at p v hk)
theorem box_all {w : World} {g : Nat} {p : Pm} {v : Nat → Value} (h : Box w g 41 (znC p v)) : w.cell? ⟨g, 0, none⟩ = some (.int .i64 p.nd) ∧ w.cell? ⟨g, 1, none⟩ = some (.int .i64 p.kd) ∧ w.cell? ⟨g, 2, none⟩ = some (.int .i64 p.st) ∧ w.cell? ⟨g, 3, none⟩ = some (.int .i64 p.ct) ∧ w.cell? ⟨g, 4, none⟩ = some (.int .i64 p.mn) ∧
    w.cell? ⟨g, 5, none⟩ = some (v 0) ∧ w.cell? ⟨g, 6, none⟩ = some (v 1) ∧ w.cell? ⟨g, 7, none⟩ = some (v 2) ∧ w.cell? ⟨g, 8, none⟩ = some (v 3) ∧ w.cell? ⟨g, 9, none⟩ = some (v 4) :=
  ⟨h.cell 0, h.cell 1, h.cell 2, h.cell 3, h.cell 4, h.cell 5, h.cell 6, h.cell 7, h.cell 8, h.cell 9⟩
end Go.Proofs.Ytiopfeleaifpbaa.Bd
