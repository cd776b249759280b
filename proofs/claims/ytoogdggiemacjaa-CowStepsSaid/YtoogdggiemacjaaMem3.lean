import Derived.Test.YtoogdggiemacjaaF7
namespace Go.Proofs.Ytoogdggiemacjaa.Cw
open Go Go.RowKit
set_option linter.unusedVariables false
set_option linter.unusedSimpArgs false
theorem cwA_setF (M : Cow) (k : Nat) (f : Fr) (As : Option Addr) (cs : Nat) (Af : Option Addr) (cf : Nat) : cwA (M.setF k f) As cs Af cf = cwA M As cs Af cf := by
  unfold cwA Cow.setF; simp
theorem cwA_setP (M : Cow) (n m : Nat) (p : Pg) (As : Option Addr) (cs : Nat) (Af : Option Addr) (cf : Nat) : cwA (M.setP n m p) As cs Af cf = cwA M As cs Af cf := by
  unfold cwA Cow.setP; simp
theorem setF_setF (M : Cow) (k : Nat) (a b : Fr) : (M.setF k a).setF k b = M.setF k b := by
  unfold Cow.setF; simp
theorem setF_at {M : Cow} {k : Nat} (h : k < M.fr.length) (a : Fr) : fAt (M.setF k a).fr k = a := by
  unfold Cow.setF; rw [fAt_set h, if_pos rfl]
theorem setF_len (M : Cow) (k : Nat) (a : Fr) : (M.setF k a).fr.length = M.fr.length := by unfold Cow.setF; simp
theorem setP_len (M : Cow) (n m : Nat) (p : Pg) : (M.setP n m p).sp.length = M.sp.length := by unfold Cow.setP; simp
theorem setP_at {M : Cow} {n : Nat} (h : n < M.sp.length) (m : Nat) (p : Pg) : sAt (M.setP n m p).sp n = ((sAt M.sp n).1, (sAt M.sp n).2.set m p) := by
  unfold Cow.setP; rw [sAt_set h, if_pos rfl]
theorem setP_setP {M : Cow} {n : Nat} (h : n < M.sp.length) (m : Nat) (p q : Pg) : (M.setP n m p).setP n m q = M.setP n m q := by
  have e := setP_at h m p
  unfold Cow.setP at e ⊢
  simp only [e, List.set_set]
section
variable {B : Nat} {w : World} {M : Cow} {As Af : Option Addr} {cs cf : Nat} {T : Tb}
theorem OwM.setFF {g : Nat} (h : OwM B w M As cs (some ⟨g, 0, none⟩) cf T) {k : Nat} (hk : k < M.fr.length) (x y : Int) : OwM B ((w.setCell ⟨g, k * 2, none⟩ (.int .i64 x)).setCell ⟨g, k * 2 + 1, none⟩ (.int .i64 y)) (M.setF k (x, y)) As cs (some ⟨g, 0, none⟩) cf T := by
  have := (h.setF0 hk x).setF1 (k := k) (by rw [setF_len]; exact hk) y
  rwa [setF_at hk, setF_setF] at this
theorem OwM.setPP {g c : Nat} (h : OwM B w M As cs Af cf T) {n m : Nat} (hn : n < M.sp.length) (hm : m < (sAt M.sp n).2.length) (hv : (tAt T n).2 = .slice (some ⟨g, 0, none⟩) (sAt M.sp n).2.length c) (x : Int) (y : Bool) : OwM B ((w.setCell ⟨g, m * 2, none⟩ (.int .i64 x)).setCell ⟨g, m * 2 + 1, none⟩ (.bool y)) (M.setP n m (x, y)) As cs Af cf T := by
  have e := setP_at hn m (x, (pAt (sAt M.sp n).2 m).2)
  have := (h.setP0 hn hm hv x).setP1 (n := n) (m := m) (g := g) (c := c) (by rw [setP_len]; exact hn) (by rw [e]; simpa using hm) (by rw [e]; simpa using hv) y
  rw [setP_setP hn, e] at this
  simp only [pAt_set hm, if_pos] at this
  exact this
/-- what writes in frames and pages leave alone -/
structure Side (B : Nat) (w w' : World) : Prop where
  below : Below B w w'
  box : ∀ k cs, Box w k 28 cs → Box w' k 28 cs
theorem Side.refl (B : Nat) (w : World) : Side B w w := ⟨Below.refl _ _, fun _ _ h => h⟩
theorem Side.trans {w' w2 : World} (h : Side B w w') (h2 : Side B w' w2) : Side B w w2 := ⟨h.below.trans h2.below, fun k cs q => h2.box k cs (h.box k cs q)⟩
theorem Side.of {w' : World} (h : Below w.heap.size w w') (hB : B ≤ w.heap.size) : Side B w w' := ⟨h.mono hB, fun k cs q => q.below h⟩
theorem Side.row {t : TypeId} {n size g c : Nat} {xs : List Value} (h : w.ownsRow B t size (.slice (some ⟨g, 0, none⟩) n c) n xs) (hne : 28 ≠ t) (i : Nat) (u : Value) : Side B w (w.setCell ⟨g, i, none⟩ u) := by
  obtain ⟨hb, cur, hh⟩ := row_box h
  exact ⟨(Below.refl _ _).setCell hb u, fun k cs q => q.far (q.ne hh hne) u⟩
theorem OwM.sideF {g : Nat} (h : OwM B w M As cs (some ⟨g, 0, none⟩) cf T) (i : Nat) (u : Value) : Side B w (w.setCell ⟨g, i, none⟩ u) := Side.row h.fr (by decide) i u
theorem OwM.sideP {g c : Nat} (h : OwM B w M As cs Af cf T) {n : Nat} (hn : n < M.sp.length) (hv : (tAt T n).2 = .slice (some ⟨g, 0, none⟩) (sAt M.sp n).2.length c) (i : Nat) (u : Value) : Side B w (w.setCell ⟨g, i, none⟩ u) := by
  have r := h.pg n hn
  rw [hv] at r
  exact Side.row r (by decide) i u
theorem OwM.sideP2 {g c : Nat} (h : OwM B w M As cs Af cf T) {n m : Nat} (hn : n < M.sp.length) (hm : m < (sAt M.sp n).2.length) (hv : (tAt T n).2 = .slice (some ⟨g, 0, none⟩) (sAt M.sp n).2.length c) (x : Int) (y : Bool) : Side B w ((w.setCell ⟨g, m * 2, none⟩ (.int .i64 x)).setCell ⟨g, m * 2 + 1, none⟩ (.bool y)) := by
  have e := setP_at hn m (x, (pAt (sAt M.sp n).2 m).2)
  exact (h.sideP hn hv _ _).trans ((h.setP0 hn hm hv x).sideP (n := n) (g := g) (c := c) (by rw [setP_len]; exact hn) (by rw [e]; simpa using hv) _ _)
theorem OwM.sideF2 {g : Nat} (h : OwM B w M As cs (some ⟨g, 0, none⟩) cf T) {k : Nat} (hk : k < M.fr.length) (x y : Int) : Side B w ((w.setCell ⟨g, k * 2, none⟩ (.int .i64 x)).setCell ⟨g, k * 2 + 1, none⟩ (.int .i64 y)) :=
  (h.sideF _ _).trans ((h.setF0 hk x).sideF _ _)
end
-- WHAT hide DOES
def dropF (M : Cow) (f : Int) : Cow := if f < 0 then M else M.setF f.toNat ((fAt M.fr f.toNat).1 - 1, if (fAt M.fr f.toNat).1 - 1 = 0 then 0 else (fAt M.fr f.toNat).2)
def hdG (M : Cow) (n m : Nat) : Cow := (dropF M (pAt (sAt M.sp n).2 m).1).setP n m (-1, false)
end Go.Proofs.Ytoogdggiemacjaa.Cw
