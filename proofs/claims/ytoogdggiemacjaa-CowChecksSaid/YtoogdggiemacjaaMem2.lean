import Derived.Test.YtoogdggiemacjaaF5
import Derived.Laws.CopyRow
import Derived.Lib.SliceRun
import Derived.Maps.AppendAt
namespace Go.Proofs.Ytoogdggiemacjaa.Cw
open Go Go.RowKit
set_option linter.unusedVariables false
set_option linter.unusedSimpArgs false
-- TWO CELLS AN ELEMENT
def c2 {α : Type} (f g : α → Value) (L : List α) : List Value := L.flatMap fun x => [f x, g x]
section
variable {α : Type} {f g : α → Value}
theorem c2_length (L : List α) : (c2 f g L).length = L.length * 2 := by
  induction L with
  | nil => rfl
  | cons x L ih =>
    have : c2 f g (x :: L) = f x :: g x :: c2 f g L := rfl
    rw [this]; simp only [List.length_cons, ih]; omega
theorem c2_even : ∀ (L : List α) (k : Nat) (h : k < L.length), (c2 f g L)[k * 2]? = some (f L[k])
  | x :: L, 0, h => rfl
  | x :: L, k + 1, h => by
    have e : c2 f g (x :: L) = f x :: g x :: c2 f g L := rfl
    rw [e, show (k + 1) * 2 = k * 2 + 1 + 1 by omega, List.getElem?_cons_succ, List.getElem?_cons_succ]
    exact c2_even L k (by simpa using h)
theorem c2_odd : ∀ (L : List α) (k : Nat) (h : k < L.length), (c2 f g L)[k * 2 + 1]? = some (g L[k])
  | x :: L, 0, h => rfl
  | x :: L, k + 1, h => by
    have e : c2 f g (x :: L) = f x :: g x :: c2 f g L := rfl
    rw [e, show (k + 1) * 2 + 1 = k * 2 + 1 + 1 + 1 by omega, List.getElem?_cons_succ, List.getElem?_cons_succ]
    exact c2_odd L k (by simpa using h)
theorem c2_append (L M : List α) : c2 f g (L ++ M) = c2 f g L ++ c2 f g M := List.flatMap_append
theorem c2_set0 : ∀ (L : List α) (k : Nat) (h : k < L.length) (y : α), g y = g L[k] → (c2 f g L).set (k * 2) (f y) = c2 f g (L.set k y)
  | x :: L, 0, h, y, hg => by
    have e : c2 f g (x :: L) = f x :: g x :: c2 f g L := rfl
    have e2 : c2 f g (y :: L) = f y :: g y :: c2 f g L := rfl
    rw [List.set_cons_zero, e, e2, hg]; rfl
  | x :: L, k + 1, h, y, hg => by
    have e : c2 f g (x :: L) = f x :: g x :: c2 f g L := rfl
    have e2 : c2 f g (x :: L.set k y) = f x :: g x :: c2 f g (L.set k y) := rfl
    rw [List.set_cons_succ, e, e2, show (k + 1) * 2 = k * 2 + 1 + 1 by omega, List.set_cons_succ, List.set_cons_succ, c2_set0 L k (by simpa using h) y hg]
theorem c2_set1 : ∀ (L : List α) (k : Nat) (h : k < L.length) (y : α), f y = f L[k] → (c2 f g L).set (k * 2 + 1) (g y) = c2 f g (L.set k y)
  | x :: L, 0, h, y, hg => by
    have e : c2 f g (x :: L) = f x :: g x :: c2 f g L := rfl
    have e2 : c2 f g (y :: L) = f y :: g y :: c2 f g L := rfl
    rw [List.set_cons_zero, e, e2, hg]; rfl
  | x :: L, k + 1, h, y, hg => by
    have e : c2 f g (x :: L) = f x :: g x :: c2 f g L := rfl
    have e2 : c2 f g (x :: L.set k y) = f x :: g x :: c2 f g (L.set k y) := rfl
    rw [List.set_cons_succ, e, e2, show (k + 1) * 2 + 1 = k * 2 + 1 + 1 + 1 by omega, List.set_cons_succ, List.set_cons_succ, c2_set1 L k (by simpa using h) y hg]
theorem add_at (b off k : Nat) : (⟨b, off, none⟩ : Addr).add k = ⟨b, off + k, none⟩ := by
  unfold Addr.add
  by_cases h : k = 0 <;> simp [h]
theorem c2_news {w : World} {b off : Nat} {L : List α} (h : ∀ k (hk : k < L.length), w.cell? ⟨b, off + k * 2, none⟩ = some (f L[k]) ∧ w.cell? ⟨b, off + k * 2 + 1, none⟩ = some (g L[k])) (j : Nat) (u : Value) (hu : (c2 f g L)[j]? = some u) : w.cell? ((⟨b, off, none⟩ : Addr).add j) = some u := by
  have hj : j < L.length * 2 := by
    rcases Nat.lt_or_ge j (L.length * 2) with h | h
    · exact h
    · rw [List.getElem?_eq_none (by rw [c2_length]; exact h)] at hu; cases hu
  have hk : j / 2 < L.length := by omega
  obtain ⟨h0, h1⟩ := h (j / 2) hk
  rw [add_at]
  rcases (show j = j / 2 * 2 ∨ j = j / 2 * 2 + 1 by omega) with e | e
  · rw [e, c2_even L _ hk] at hu
    rw [e, show j / 2 * 2 / 2 = j / 2 by omega] at *
    rw [h0]; exact hu
  · rw [e, c2_odd L _ hk] at hu
    rw [e]
    rw [show off + (j / 2 * 2 + 1) = off + j / 2 * 2 + 1 by omega, h1]; exact hu
theorem c2_one {L : List α} (h : ∀ x ∈ L, (f x).oneCell' = true ∧ (g x).oneCell' = true) : ∀ u ∈ c2 f g L, u.oneCell' = true := by
  intro u hu
  unfold c2 at hu
  obtain ⟨x, hx, hu⟩ := List.mem_flatMap.1 hu
  simp only [List.mem_cons, List.not_mem_nil, or_false] at hu
  rcases hu with rfl | rfl
  · exact (h x hx).1
  · exact (h x hx).2
end
def pcs (L : List Pg) : List Value := c2 (fun p => .int .i64 p.1) (fun p => .bool p.2) L
def fcs (L : List Fr) : List Value := c2 (fun p => .int .i64 p.1) (fun p => .int .i64 p.2) L
abbrev Tb := List (Bool × Value)
def tAt (T : Tb) (k : Nat) : Bool × Value := T.getD k (false, undef)
theorem tAt_get {L : Tb} {k : Nat} (h : k < L.length) : tAt L k = L[k] := by unfold tAt; rw [List.getD_eq_getElem?_getD, List.getElem?_eq_getElem h]; rfl
def tcs (T : Tb) : List Value := c2 (fun p => .bool p.1) (fun p => p.2) T
-- SET
theorem sAt_set {L : List Sp} {n k : Nat} {s : Sp} (h : n < L.length) : sAt (L.set n s) k = if k = n then s else sAt L k := by
  unfold sAt
  rw [List.getD_eq_getElem?_getD, List.getD_eq_getElem?_getD, List.getElem?_set]
  by_cases e : n = k
  · subst e; simp [h]
  · rw [if_neg e, if_neg (fun g => e g.symm)]
theorem tAt_set {L : Tb} {n k : Nat} {s : Bool × Value} (h : n < L.length) : tAt (L.set n s) k = if k = n then s else tAt L k := by
  unfold tAt
  rw [List.getD_eq_getElem?_getD, List.getD_eq_getElem?_getD, List.getElem?_set]
  by_cases e : n = k
  · subst e; simp [h]
  · rw [if_neg e, if_neg (fun g => e g.symm)]
theorem fAt_set {L : List Fr} {n k : Nat} {s : Fr} (h : n < L.length) : fAt (L.set n s) k = if k = n then s else fAt L k := by
  unfold fAt
  rw [List.getD_eq_getElem?_getD, List.getD_eq_getElem?_getD, List.getElem?_set]
  by_cases e : n = k
  · subst e; simp [h]
  · rw [if_neg e, if_neg (fun g => e g.symm)]
theorem pAt_set {L : List Pg} {n k : Nat} {s : Pg} (h : n < L.length) : pAt (L.set n s) k = if k = n then s else pAt L k := by
  unfold pAt
  rw [List.getD_eq_getElem?_getD, List.getD_eq_getElem?_getD, List.getElem?_set]
  by_cases e : n = k
  · subst e; simp [h]
  · rw [if_neg e, if_neg (fun g => e g.symm)]
-- ROWS
theorem row_set {base n size : Nat} {t : TypeId} {g c : Nat} {xs : List Value} {w : World} (h : w.ownsRow base t size (.slice (some ⟨g, 0, none⟩) n c) n xs) (z : Nat) (u : Value) : (w.setCell ⟨g, z, none⟩ u).ownsRow base t size (.slice (some ⟨g, 0, none⟩) n c) n (xs.set z u) := by
  obtain ⟨hl, ⟨e, _⟩ | ⟨g', cap, cur, e, hgb, hh, h1, h2, h3, h4⟩⟩ := h
  · cases e
  · injection e with e1 _ e2
    injection e1 with e1; injection e1 with e1
    subst e1 e2
    refine ⟨by simpa using hl, .inr ⟨g, c, _, rfl, hgb, Box.put hh z u, h1, h2, by simpa using h3, ?_⟩⟩
    rw [← h4]
    simp [List.take_set]
theorem row_far {base n size : Nat} {t : TypeId} {v : Value} {xs : List Value} {w : World} (h : w.ownsRow base t size v n xs) {g : Nat} (hne : v.ownBlock ≠ some g) (i : Nat) (u : Value) : (w.setCell ⟨g, i, none⟩ u).ownsRow base t size v n xs := by
  obtain ⟨hl, h | ⟨g', cap, cur, e, hg, hh, r⟩⟩ := h
  · exact ⟨hl, .inl h⟩
  · refine ⟨hl, .inr ⟨g', cap, cur, e, hg, (heap_setCell_other w ⟨g, i, none⟩ g' u ?_).trans hh, r⟩⟩
    intro e2
    apply hne
    rw [e, e2]
    simp [Value.ownBlock]
theorem row_box {base n size : Nat} {t : TypeId} {g c : Nat} {xs : List Value} {w : World} (h : w.ownsRow base t size (.slice (some ⟨g, 0, none⟩) n c) n xs) : base ≤ g ∧ ∃ cur, Box w g t cur := by
  obtain ⟨hl, ⟨e, _⟩ | ⟨g', cap, cur, e, hgb, hh, _⟩⟩ := h
  · cases e
  · injection e with e1 _ e2
    injection e1 with e1; injection e1 with e1
    subst e1
    exact ⟨hgb, cur, hh⟩
/-- a row of another type does not feel a write -/
theorem row_other {base base2 n n2 size size2 : Nat} {t t2 : TypeId} {v : Value} {g c : Nat} {xs xs2 : List Value} {w : World} (h : w.ownsRow base t size v n xs) (h2 : w.ownsRow base2 t2 size2 (.slice (some ⟨g, 0, none⟩) n2 c) n2 xs2) (hne : t ≠ t2) (i : Nat) (u : Value) : (w.setCell ⟨g, i, none⟩ u).ownsRow base t size v n xs := by
  obtain ⟨hb, cur, hh⟩ := row_box h2
  exact row_kp h (Kp.boxset hh hb i u) hne
-- A MACHINE OF ONE'S OWN
structure OwM (B : Nat) (w : World) (M : Cow) (As : Option Addr) (cs : Nat) (Af : Option Addr) (cf : Nat) (T : Tb) : Prop where
  tl : T.length = M.sp.length
  fr : w.ownsRow B 53 2 (.slice Af M.fr.length cf) M.fr.length (fcs M.fr)
  sp : w.ownsRow B 62 2 (.slice As M.sp.length cs) M.sp.length (tcs T)
  lv : ∀ k, k < M.sp.length → (tAt T k).1 = (sAt M.sp k).1
  pg : ∀ k, k < M.sp.length → w.ownsRow B 64 2 (tAt T k).2 (sAt M.sp k).2.length (pcs (sAt M.sp k).2)
  ne : ∀ i j, i < M.sp.length → j < M.sp.length → i ≠ j → ∀ g, (tAt T i).2.ownBlock = some g → (tAt T j).2.ownBlock ≠ some g
theorem isP_row {B : Nat} {w : World} {v : Value} {L : List Pg} (h : w.ownsRow B 64 2 v L.length (pcs L)) : IsP w v L := by
  obtain ⟨A, c, rfl, hc⟩ := row_form h
  refine ⟨A, c, rfl, hc, fun hn => ?_⟩
  obtain ⟨g, e, hl, _, hx, _⟩ := row_cell h (by intro e; exact hn (List.eq_nil_of_length_eq_zero e))
  refine ⟨g, 0, e, hl, fun k hk => ?_⟩
  rw [Nat.zero_add, pAt_get hk]
  exact ⟨hx _ _ (c2_even L k hk), hx _ _ (c2_odd L k hk)⟩
theorem rdF_row {B c : Nat} {w : World} {A : Option Addr} {L : List Fr} (h : w.ownsRow B 53 2 (.slice A L.length c) L.length (fcs L)) : RdF w A L := by
  intro hn
  obtain ⟨g, e, hl, _, hx, _⟩ := row_cell h (by intro e; exact hn (List.eq_nil_of_length_eq_zero e))
  refine ⟨g, 0, e, hl, fun k hk => ?_⟩
  rw [Nat.zero_add, fAt_get hk]
  exact ⟨hx _ _ (c2_even L k hk), hx _ _ (c2_odd L k hk)⟩
theorem row_cap {B c n size : Nat} {t : TypeId} {w : World} {A : Option Addr} {xs : List Value} (h : w.ownsRow B t size (.slice A n c) n xs) : n ≤ c := by
  obtain ⟨A1, c1, e, hc⟩ := row_form h
  injection e with _ _ e
  omega
theorem OwM.toIn {B : Nat} {w : World} {M : Cow} {As Af : Option Addr} {cs cf : Nat} {T : Tb} (h : OwM B w M As cs Af cf T) : CwIn w M As cs Af cf := by
  refine ⟨row_cap h.sp, row_cap h.fr, fun hn => ?_, rdF_row h.fr⟩
  obtain ⟨g, e, hl, _, hx, _⟩ := row_cell h.sp (by intro e; exact hn (List.eq_nil_of_length_eq_zero e))
  refine ⟨g, 0, e, hl, fun k hk => ⟨(tAt T k).2, ?_, ?_, isP_row (h.pg k hk)⟩⟩
  · rw [Nat.zero_add, ← h.lv k hk, tAt_get (by rw [h.tl]; exact hk)]
    exact hx _ _ (c2_even T k (by rw [h.tl]; exact hk))
  · rw [Nat.zero_add, tAt_get (by rw [h.tl]; exact hk)]
    exact hx _ _ (c2_odd T k (by rw [h.tl]; exact hk))
theorem OwM.below {B : Nat} {w w' : World} {M : Cow} {As Af : Option Addr} {cs cf : Nat} {T : Tb} (h : OwM B w M As cs Af cf T) (hb : Below w.heap.size w w') : OwM B w' M As cs Af cf T :=
  ⟨h.tl, row_below h.fr hb, row_below h.sp hb, h.lv, fun k hk => row_below (h.pg k hk) hb, h.ne⟩
def Cow.setF (M : Cow) (k : Nat) (f : Fr) : Cow := { M with fr := M.fr.set k f }
def Cow.setP (M : Cow) (n m : Nat) (p : Pg) : Cow := { M with sp := M.sp.set n ((sAt M.sp n).1, (sAt M.sp n).2.set m p) }
section
variable {B : Nat} {w : World} {M : Cow} {As Af : Option Addr} {cs cf : Nat} {T : Tb}
theorem OwM.frame (h : OwM B w M As cs Af cf T) {k : Nat} (hk : k < M.fr.length) : ∃ g, Af = some ⟨g, 0, none⟩ ∧ g < w.heap.size ∧ B ≤ g ∧ w.cell? ⟨g, k * 2, none⟩ = some (.int .i64 (fAt M.fr k).1) ∧ w.cell? ⟨g, k * 2 + 1, none⟩ = some (.int .i64 (fAt M.fr k).2) ∧ ∀ j, w.frozen? ⟨g, j, none⟩ = false := by
  obtain ⟨g, e, hl, hb, hx, hz⟩ := row_cell h.fr (by omega)
  rw [fAt_get hk]
  exact ⟨g, e, hl, hb, hx _ _ (c2_even M.fr k hk), hx _ _ (c2_odd M.fr k hk), hz⟩
theorem OwM.space (h : OwM B w M As cs Af cf T) {n : Nat} (hn : n < M.sp.length) : ∃ g, As = some ⟨g, 0, none⟩ ∧ g < w.heap.size ∧ B ≤ g ∧ w.cell? ⟨g, n * 2, none⟩ = some (.bool (sAt M.sp n).1) ∧ w.cell? ⟨g, n * 2 + 1, none⟩ = some (tAt T n).2 ∧ ∀ j, w.frozen? ⟨g, j, none⟩ = false := by
  obtain ⟨g, e, hl, hb, hx, hz⟩ := row_cell h.sp (by omega)
  have ht : n < T.length := by rw [h.tl]; exact hn
  rw [← h.lv n hn, tAt_get ht]
  exact ⟨g, e, hl, hb, hx _ _ (c2_even T n ht), hx _ _ (c2_odd T n ht), hz⟩
theorem OwM.page (h : OwM B w M As cs Af cf T) {n m : Nat} (hn : n < M.sp.length) (hm : m < (sAt M.sp n).2.length) : ∃ g c, (tAt T n).2 = .slice (some ⟨g, 0, none⟩) (sAt M.sp n).2.length c ∧ g < w.heap.size ∧ B ≤ g ∧ w.cell? ⟨g, m * 2, none⟩ = some (.int .i64 (pAt (sAt M.sp n).2 m).1) ∧ w.cell? ⟨g, m * 2 + 1, none⟩ = some (.bool (pAt (sAt M.sp n).2 m).2) ∧ ∀ j, w.frozen? ⟨g, j, none⟩ = false := by
  have r := h.pg n hn
  obtain ⟨A, c, ev, hc⟩ := row_form r
  rw [ev] at r
  obtain ⟨g, e, hl, hb, hx, hz⟩ := row_cell r (by omega)
  rw [pAt_get hm, ev, e]
  exact ⟨g, c, rfl, hl, hb, hx _ _ (c2_even _ m hm), hx _ _ (c2_odd _ m hm), hz⟩
theorem OwM.setF0 {g : Nat} (h : OwM B w M (As) cs (some ⟨g, 0, none⟩) cf T) {k : Nat} (hk : k < M.fr.length) (x : Int) : OwM B (w.setCell ⟨g, k * 2, none⟩ (.int .i64 x)) (M.setF k (x, (fAt M.fr k).2)) As cs (some ⟨g, 0, none⟩) cf T := by
  have e : (M.fr.set k (x, (fAt M.fr k).2)).length = M.fr.length := by simp
  refine ⟨h.tl, ?_, row_other h.sp h.fr (by decide) _ _, h.lv, fun k hk => row_other (h.pg k hk) h.fr (by decide) _ _, h.ne⟩
  unfold Cow.setF
  simp only [e]
  have := row_set h.fr (k * 2) (.int .i64 x)
  rwa [show (fcs M.fr).set (k * 2) (.int .i64 x) = fcs (M.fr.set k (x, (fAt M.fr k).2)) from c2_set0 M.fr k hk (x, (fAt M.fr k).2) (by rw [fAt_get hk])] at this
theorem OwM.setF1 {g : Nat} (h : OwM B w M (As) cs (some ⟨g, 0, none⟩) cf T) {k : Nat} (hk : k < M.fr.length) (x : Int) : OwM B (w.setCell ⟨g, k * 2 + 1, none⟩ (.int .i64 x)) (M.setF k ((fAt M.fr k).1, x)) As cs (some ⟨g, 0, none⟩) cf T := by
  have e : (M.fr.set k ((fAt M.fr k).1, x)).length = M.fr.length := by simp
  refine ⟨h.tl, ?_, row_other h.sp h.fr (by decide) _ _, h.lv, fun k hk => row_other (h.pg k hk) h.fr (by decide) _ _, h.ne⟩
  unfold Cow.setF
  simp only [e]
  have := row_set h.fr (k * 2 + 1) (.int .i64 x)
  rwa [show (fcs M.fr).set (k * 2 + 1) (.int .i64 x) = fcs (M.fr.set k ((fAt M.fr k).1, x)) from c2_set1 M.fr k hk ((fAt M.fr k).1, x) (by rw [fAt_get hk])] at this
theorem OwM.pgset {g c : Nat} (h : OwM B w M As cs Af cf T) {n m : Nat} (hn : n < M.sp.length) (hv : (tAt T n).2 = .slice (some ⟨g, 0, none⟩) (sAt M.sp n).2.length c) (i : Nat) (u : Value) (p : Pg) (hp : (pcs (sAt M.sp n).2).set i u = pcs ((sAt M.sp n).2.set m p)) : OwM B (w.setCell ⟨g, i, none⟩ u) (M.setP n m p) As cs Af cf T := by
  have r := h.pg n hn
  rw [hv] at r
  have e : (M.sp.set n ((sAt M.sp n).1, (sAt M.sp n).2.set m p)).length = M.sp.length := by simp
  unfold Cow.setP
  refine ⟨h.tl.trans e.symm, row_other h.fr r (by decide) _ _, ?_, ?_, ?_, ?_⟩
  · simp only [e]
    exact row_other h.sp r (by decide) _ _
  · intro k hk
    simp only [e] at hk
    simp only [sAt_set hn]
    split
    · rename_i e2; subst e2; exact h.lv k hk
    · exact h.lv k hk
  · intro k hk
    simp only [e] at hk
    simp only [sAt_set hn]
    split
    · rename_i e2; subst e2
      simp only [List.length_set]
      rw [hv, ← hp]
      exact row_set r i u
    · rename_i e2
      exact row_far (h.pg k hk) (h.ne n k hn hk (fun q => e2 q.symm) g (by rw [hv]; rfl)) i u
  · intro i j hi hj
    simp only [e] at hi hj
    exact h.ne i j hi hj
theorem OwM.setP0 {g c : Nat} (h : OwM B w M As cs Af cf T) {n m : Nat} (hn : n < M.sp.length) (hm : m < (sAt M.sp n).2.length) (hv : (tAt T n).2 = .slice (some ⟨g, 0, none⟩) (sAt M.sp n).2.length c) (x : Int) : OwM B (w.setCell ⟨g, m * 2, none⟩ (.int .i64 x)) (M.setP n m (x, (pAt (sAt M.sp n).2 m).2)) As cs Af cf T :=
  h.pgset hn hv _ _ _ (c2_set0 _ m hm (x, (pAt (sAt M.sp n).2 m).2) (by rw [pAt_get hm]))
theorem OwM.setP1 {g c : Nat} (h : OwM B w M As cs Af cf T) {n m : Nat} (hn : n < M.sp.length) (hm : m < (sAt M.sp n).2.length) (hv : (tAt T n).2 = .slice (some ⟨g, 0, none⟩) (sAt M.sp n).2.length c) (x : Bool) : OwM B (w.setCell ⟨g, m * 2 + 1, none⟩ (.bool x)) (M.setP n m ((pAt (sAt M.sp n).2 m).1, x)) As cs Af cf T :=
  h.pgset hn hv _ _ _ (c2_set1 _ m hm ((pAt (sAt M.sp n).2 m).1, x) (by rw [pAt_get hm]))
end
end Go.Proofs.Ytoogdggiemacjaa.Cw
