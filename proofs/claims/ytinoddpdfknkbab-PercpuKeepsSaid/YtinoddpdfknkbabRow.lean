import Derived.Test.YtinoddpdfknkbabMem
import Derived.Maps.AppendAt
import Derived.Deep.Cut
import Derived.Deep.DeepCutAuto
namespace Go.Proofs.Ytinoddpdfknkbab.Pc
open Go Go.RowKit
set_option linter.unusedVariables false
-- TO BE READ
def RdL (w : World) (A : Option Addr) (C : Ls) : Prop :=
  C ≠ [] → ∃ b off, A = some ⟨b, off, none⟩ ∧ b < w.heap.size ∧ ∀ k, k < C.length → ∃ v, w.cell? ⟨b, off + k, none⟩ = some v ∧ IsI w v (lAt C k)
section
variable {w w' : World} {A : Option Addr}
theorem RdL.cells {C : Ls} (h : RdL w A C) (hb : Below w.heap.size w w') {k : Nat} (hk : k < C.length) : ∃ b off v, A = some ⟨b, off, none⟩ ∧ b < w.heap.size ∧ w'.cell? ⟨b, off + k, none⟩ = some v ∧ IsI w' v (lAt C k) := by
  obtain ⟨b, off, e, hl, hc⟩ := h (by rintro rfl; simp at hk)
  obtain ⟨v, h1, h2⟩ := hc k hk
  exact ⟨b, off, v, e, hl, (hb.cell (p := ⟨b, _, none⟩) hl).trans h1, h2.below hb⟩
theorem RdL.cells0 {C : Ls} (h : RdL w A C) (hb : Below w.heap.size w w') {k : Nat} (hk : k < C.length) : ∃ b off v, A = some ⟨b, off, none⟩ ∧ b < w.heap.size ∧ w'.cell? ⟨b, off + k, none⟩ = some v ∧ IsI w v (lAt C k) := by
  obtain ⟨b, off, e, hl, hc⟩ := h (by rintro rfl; simp at hk)
  obtain ⟨v, h1, h2⟩ := hc k hk
  exact ⟨b, off, v, e, hl, (hb.cell (p := ⟨b, _, none⟩) hl).trans h1, h2⟩
theorem RdL.below {C : Ls} (h : RdL w A C) (hb : Below w.heap.size w w') : RdL w' A C := fun hn => by
  obtain ⟨b, off, e, hl, hc⟩ := h hn
  refine ⟨b, off, e, Nat.lt_of_lt_of_le hl hb.size, fun k hk => ?_⟩
  obtain ⟨b', off', v, e', _, r⟩ := h.cells hb hk
  rw [e] at e'; injection e' with e'; injection e' with e1 e2; subst e1 e2
  exact ⟨v, r⟩
end
theorem IsI.form {w : World} {v : Value} {l : Is} (h : IsI w v l) : ∃ A c, v = .slice A l.length c ∧ l.length ≤ c ∧ Bi w A l := h
theorem Bi.cells {w w' : World} {A : Option Addr} {l : Is} (h : Bi w A l) (hb : Below w.heap.size w w') {k : Nat} (hk : k < l.length) : ∃ b off, A = some ⟨b, off, none⟩ ∧ b < w.heap.size ∧ w'.cell? ⟨b, off + k, none⟩ = some (.int .i64 (l.getD k 0)) := by
  obtain ⟨b, off, e, hl, hc⟩ := h (by rintro rfl; simp at hk)
  exact ⟨b, off, e, hl, (hb.cell (p := ⟨b, _, none⟩) hl).trans (hc k hk)⟩
/-- a value that reads as a cache -/
def CaIn (w : World) (v : Value) (C : Ls) : Prop := ∃ A c, v = .agg #[.slice A C.length c] ∧ C.length ≤ c ∧ RdL w A C
theorem CaIn.below {w w' : World} {v : Value} {C : Ls} (h : CaIn w v C) (hb : Below w.heap.size w w') : CaIn w' v C := by
  obtain ⟨A, c, e, hc, r⟩ := h
  exact ⟨A, c, e, hc, r.below hb⟩
-- OF ONE'S OWN
theorem row_own_ne {base base2 n n2 size size2 : Nat} {t t2 : TypeId} {v v2 : Value} {xs xs2 : List Value} {w : World} (h : w.ownsRow base t size v n xs) (h2 : w.ownsRow base2 t2 size2 v2 n2 xs2) (hne : t ≠ t2) : v.ownBlock = none ∨ v.ownBlock ≠ v2.ownBlock := by
  obtain ⟨_, ⟨rfl, rfl⟩ | ⟨g, cap, cur, rfl, hgb, hh, _⟩⟩ := h
  · exact .inl rfl
  · right
    obtain ⟨_, ⟨rfl, rfl⟩ | ⟨g2, cap2, cur2, rfl, hgb2, hh2, _⟩⟩ := h2
    · exact Option.some_ne_none _
    · intro e
      have : g = g2 := by simpa [Value.ownBlock] using e
      subst this
      rw [hh] at hh2; injection hh2 with hh2; injection hh2 with _ e3
      exact hne e3
theorem row_set {base n : Nat} {t : TypeId} {g c : Nat} {xs : List Value} {w : World} (h : w.ownsRow base t 1 (.slice (some ⟨g, 0, none⟩) n c) n xs) (z : Nat) (u : Value) : (w.setCell ⟨g, z, none⟩ u).ownsRow base t 1 (.slice (some ⟨g, 0, none⟩) n c) n (xs.set z u) := by
  obtain ⟨hl, ⟨e, _⟩ | ⟨g', cap, cur, e, hgb, hh, h1, h2, h3, h4⟩⟩ := h
  · cases e
  · injection e with e1 _ e2
    injection e1 with e1; injection e1 with e1
    subst e1 e2
    refine ⟨by simpa using hl, .inr ⟨g, c, _, rfl, hgb, Box.put hh z u, h1, h2, by simpa using h3, ?_⟩⟩
    rw [← h4]
    simp [List.take_set]
theorem row_set_box {base n : Nat} {t : TypeId} {g c : Nat} {xs : List Value} {w : World} (h : w.ownsRow base t 1 (.slice (some ⟨g, 0, none⟩) n c) n xs) : ∃ cur, Box w g t cur ∧ base ≤ g := by
  obtain ⟨hl, ⟨e, _⟩ | ⟨g', cap, cur, e, hgb, hh, h1, h2, h3, h4⟩⟩ := h
  · cases e
  · injection e with e1 _ e2
    injection e1 with e1; injection e1 with e1
    subst e1 e2
    exact ⟨cur, hh, hgb⟩
/-- a shorter slice of one's own -/
theorem row_cut {base n m : Nat} {t : TypeId} {A : Option Addr} {c : Nat} {xs : List Value} {w : World} (h : w.ownsRow base t 1 (.slice A n c) n xs) (hm : m ≤ n) : w.ownsRow base t 1 (.slice A m c) m (xs.take m) := by
  obtain ⟨hl, ⟨e, h0⟩ | ⟨g', cap, cur, e, hgb, hh, h1, h2, h3, h4⟩⟩ := h
  · injection e with e1 e2 e3
    subst e1 e3
    obtain rfl : m = 0 := by omega
    exact ⟨by simp, .inl ⟨rfl, rfl⟩⟩
  · injection e with e1 _ e2
    subst e1 e2
    refine ⟨by rw [List.length_take]; omega, .inr ⟨g', c, cur, rfl, hgb, hh, by omega, h2, h3, ?_⟩⟩
    rw [← h4, List.take_take]
    congr 1
    omega
theorem OwnI.of_row' {base : Nat} {w : World} {u : Value} {l : Is} (h : w.ownsRow base 3 1 u l.length (l.map ic)) : OwnI w u l := by
  obtain ⟨A, c, rfl, _⟩ := row_form h
  exact OwnI.of_row h
/-- all rows but perhaps the one at z -/
structure OwnX (B : Nat) (w : World) (v : Value) (C : Ls) (vs : List Value) (z : Nat) : Prop where
  len : vs.length = C.length
  row : w.ownsRow B 34 1 v C.length vs
  inn : ∀ (k : Nat) (u : Value), k ≠ z → vs[k]? = some u → w.ownsRow B 3 1 u (lAt C k).length ((lAt C k).map ic)
structure OwnV (B : Nat) (w : World) (v : Value) (C : Ls) (vs : List Value) : Prop where
  len : vs.length = C.length
  row : w.ownsRow B 34 1 v C.length vs
  inn : ∀ (k : Nat) (u : Value), vs[k]? = some u → w.ownsRow B 3 1 u (lAt C k).length ((lAt C k).map ic)
  dis : ∀ (i j : Nat) (u u' : Value), i ≠ j → vs[i]? = some u → vs[j]? = some u' → u.ownBlock = none ∨ u.ownBlock ≠ u'.ownBlock
section
variable {B B' : Nat} {w w' : World} {v : Value} {C : Ls} {vs : List Value} {z : Nat} {T : TypeId}
theorem OwnX.below (h : OwnX B w v C vs z) (hb : Below w.heap.size w w') : OwnX B w' v C vs z := ⟨h.len, row_below h.row hb, fun k u hk hu => row_below (h.inn k u hk hu) hb⟩
theorem OwnV.below (h : OwnV B w v C vs) (hb : Below w.heap.size w w') : OwnV B w' v C vs := ⟨h.len, row_below h.row hb, fun k u hu => row_below (h.inn k u hu) hb, h.dis⟩
theorem OwnX.kp (h : OwnX B w v C vs z) (hk : Kp B' T w w') (h1 : (34 : TypeId) ≠ T) (h2 : (3 : TypeId) ≠ T) : OwnX B w' v C vs z := ⟨h.len, row_kp h.row hk h1, fun k u hn hu => row_kp (h.inn k u hn hu) hk h2⟩
theorem OwnV.kp (h : OwnV B w v C vs) (hk : Kp B' T w w') (h1 : (34 : TypeId) ≠ T) (h2 : (3 : TypeId) ≠ T) : OwnV B w' v C vs := ⟨h.len, row_kp h.row hk h1, fun k u hu => row_kp (h.inn k u hu) hk h2, h.dis⟩
theorem OwnV.mono (h : OwnV B w v C vs) (hB : B' ≤ B) : OwnV B' w v C vs := ⟨h.len, row_mono h.row hB, fun k u hu => row_mono (h.inn k u hu) hB, h.dis⟩
theorem OwnX.mono (h : OwnX B w v C vs z) (hB : B' ≤ B) : OwnX B' w v C vs z := ⟨h.len, row_mono h.row hB, fun k u hk hu => row_mono (h.inn k u hk hu) hB⟩
theorem OwnV.form (h : OwnV B w v C vs) : ∃ A c, v = .slice A C.length c ∧ C.length ≤ c := row_form h.row
theorem OwnV.x (h : OwnV B w v C vs) (z : Nat) : OwnX B w v C vs z := ⟨h.len, h.row, fun k u _ hu => h.inn k u hu⟩
theorem OwnV.at (h : OwnV B w v C vs) (hz : z < C.length) : ∃ u, vs[z]? = some u ∧ w.ownsRow B 3 1 u (lAt C z).length ((lAt C z).map ic) := by
  have hz' : z < vs.length := by rw [h.len]; exact hz
  exact ⟨vs[z], List.getElem?_eq_getElem hz', h.inn z _ (List.getElem?_eq_getElem hz')⟩
theorem OwnX.grown {u : Value} (h : OwnX B w v C vs z) (hg : w.grownBy w' u.ownBlock) (hr : v.ownBlock = none ∨ v.ownBlock ≠ u.ownBlock) (hd : ∀ (k : Nat) (u' : Value), k ≠ z → vs[k]? = some u' → u'.ownBlock = none ∨ u'.ownBlock ≠ u.ownBlock) : OwnX B w' v C vs z :=
  ⟨h.len, h.row.kept hg hr, fun k u' hk hu => (h.inn k u' hk hu).kept hg (hd k u' hk hu)⟩
/-- one of the rows is appended to -/
theorem OwnV.grown {u : Value} (h : OwnV B w v C vs) (hz : vs[z]? = some u) (hg : w.grownBy w' u.ownBlock) : OwnX B w' v C vs z :=
  (h.x z).grown hg (row_own_ne h.row (h.inn z u hz) (by decide)) (fun k u' hk hu => h.dis k z u' u hk hu hz)
theorem OwnX.cellz {g n c : Nat} {u : Value} (h : OwnX B w (.slice (some ⟨g, 0, none⟩) n c) C vs z) (hz : vs[z]? = some u) : w.cell? ⟨g, z, none⟩ = some u ∧ w.frozen? ⟨g, z, none⟩ = false := by
  have hz' : z < vs.length := by
    rcases Nat.lt_or_ge z vs.length with h | h
    · exact h
    · rw [List.getElem?_eq_none h] at hz; cases hz
  have hC : C.length ≠ 0 := by rw [← h.len]; omega
  obtain ⟨A, cc, e, _⟩ := row_form h.row
  injection e with e1 e2 e3
  subst e2 e3
  obtain ⟨g', e', _, _, hc, hf⟩ := row_cell h.row hC
  injection e' with e'; injection e' with e'; subst e'
  exact ⟨hc z u hz, hf z⟩
theorem set_at {us : List Value} {k z : Nat} {u u' : Value} (h : (us.set z u)[k]? = some u') : (k = z ∧ u' = u) ∨ (k ≠ z ∧ us[k]? = some u') := by
  rw [List.getElem?_set] at h
  by_cases e : z = k
  · rw [if_pos e] at h
    split at h
    · injection h with h; exact .inl ⟨e.symm, h.symm⟩
    · cases h
  · rw [if_neg e] at h; exact .inr ⟨fun x => e x.symm, h⟩
theorem OwnX.fit {A : Option Addr} {n c : Nat} (h : OwnX B w (.slice A n c) C vs z) : n = C.length := by
  obtain ⟨_, _, e, _⟩ := row_form h.row
  injection e
/-- a row is stored that is one's own, apart from the others -/
theorem OwnX.put {g n c : Nat} {u : Value} {l : Is} (h : OwnX B w (.slice (some ⟨g, 0, none⟩) n c) C vs z) (hz : z < C.length) (hu : w.ownsRow B 3 1 u l.length (l.map ic))
    (hd : ∀ (i j : Nat) (u1 u2 : Value), i ≠ j → (vs.set z u)[i]? = some u1 → (vs.set z u)[j]? = some u2 → u1.ownBlock = none ∨ u1.ownBlock ≠ u2.ownBlock) : OwnV B (w.setCell ⟨g, z, none⟩ u) (.slice (some ⟨g, 0, none⟩) n c) (C.set z l) (vs.set z u) := by
  have hn := h.fit
  subst hn
  obtain ⟨cur, hX, hB⟩ := row_set_box h.row
  have hk : Kp B 34 w (w.setCell ⟨g, z, none⟩ u) := Kp.boxset hX hB z u
  refine ⟨by simp [h.len], by rw [List.length_set]; exact row_set h.row z u, fun k u' hk' => ?_, hd⟩
  rw [lAt_set hz]
  rcases set_at hk' with ⟨rfl, rfl⟩ | ⟨hne, h1⟩
  · rw [if_pos rfl]; exact row_kp hu hk (by decide)
  · rw [if_neg hne]; exact row_kp (h.inn k u' hne h1) hk (by decide)
/-- a row is stored that can be read: the whole can be read -/
theorem OwnX.rd {g n c : Nat} {u : Value} {l : Is} (h : OwnX B w (.slice (some ⟨g, 0, none⟩) n c) C vs z) (hz : z < C.length) (hu : OwnI w u l) : RdL (w.setCell ⟨g, z, none⟩ u) (some ⟨g, 0, none⟩) (C.set z l) := fun hn => by
  have hn := h.fit
  subst hn
  obtain ⟨cur, hX, hB⟩ := row_set_box h.row
  have hk : Kp B 34 w (w.setCell ⟨g, z, none⟩ u) := Kp.boxset hX hB z u
  have hr := row_set h.row z u
  refine ⟨g, 0, rfl, by simpa [World.setCell] using hX.lt, fun k hk' => ?_⟩
  rw [List.length_set] at hk'
  have hl : k < (vs.set z u).length := by rw [List.length_set, h.len]; exact hk'
  obtain ⟨g', e', _, _, hc, _⟩ := row_cell hr (by omega)
  injection e' with e'; injection e' with e'; subst e'
  refine ⟨(vs.set z u)[k], by rw [Nat.zero_add]; exact hc k _ (List.getElem?_eq_getElem hl), ?_⟩
  rw [lAt_set hz]
  rcases set_at (List.getElem?_eq_getElem hl) with ⟨e1, e2⟩ | ⟨hne, h1⟩
  · rw [if_pos e1, e2]; exact (hu.kp hk (by decide)).is
  · rw [if_neg hne]; exact ((OwnI.of_row' (h.inn k _ hne h1)).kp hk (by decide)).is
theorem OwnV.rd {A : Option Addr} {n c : Nat} (h : OwnV B w (.slice A n c) C vs) : RdL w A C := fun hn => by
  obtain ⟨_, _, e, _⟩ := row_form h.row
  injection e with e1 e2 e3
  subst e1 e2 e3
  obtain ⟨g, rfl, hg, _, hc, _⟩ := row_cell h.row (fun h0 => hn (List.eq_nil_of_length_eq_zero h0))
  refine ⟨g, 0, rfl, hg, fun k hk => ?_⟩
  have hl : k < vs.length := by rw [h.len]; exact hk
  exact ⟨vs[k], by rw [Nat.zero_add]; exact hc k _ (List.getElem?_eq_getElem hl), (OwnI.of_row' (h.inn k _ (List.getElem?_eq_getElem hl))).is⟩
end
end Go.Proofs.Ytinoddpdfknkbab.Pc
