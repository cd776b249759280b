import Derived.Test.YtncjicggolmofaaNx
namespace Go.Proofs.Ytncjicggolmofaa.Sb
open Go Go.RowKit
set_option linter.unusedVariables false
set_option linter.unusedSimpArgs false
/-- a row in another block than the one that is stored into -/
theorem row_far {base n size : Nat} {t : TypeId} {v : Value} {xs : List Value} {w : World} {g o : Nat} (h : w.ownsRow base t size v n xs) (hne : v.ownBlock ≠ some g) (u : Value) : (w.setCell ⟨g, o, none⟩ u).ownsRow base t size v n xs := by
  obtain ⟨hl, h | ⟨g', cap, cur, e, hgb, hh, r⟩⟩ := h
  · exact ⟨hl, .inl h⟩
  · refine ⟨hl, .inr ⟨g', cap, cur, e, hgb, ?_, r⟩⟩
    subst e
    have hg : g' ≠ g := fun e => hne (by simp [Value.ownBlock, e])
    rw [heap_setCell_other w ⟨g, o, none⟩ g' u hg]; exact hh
theorem bc_set (l : By) (a : Nat) (b : Bool) : (l.set a b).map bc = (l.map bc).set a (bc b) := by rw [List.map_set]
theorem cC_same : ∀ (R : List PC) (k : Nat) (h : k < R.length) (l : By), cC (R.set k ((R[k]).1, l, (R[k]).2.2)) = cC R
  | r :: R, 0, _, l => rfl
  | r :: R, k + 1, h, l => by
    have ih := cC_same R k (by simpa using h) l
    show _ :: _ :: _ = _ :: _ :: _
    congr 2
theorem pcC_get {R : List PC} {L : List Ca} (e : R.map pcC = L) {k : Nat} (hk : k < R.length) : pcC R[k] = cAt L k := by
  have hl : k < L.length := by rw [← e, List.length_map]; exact hk
  rw [cAt_get hl]; simp [← e]
/-- what lies in the row at k: the frame, the flags; and the row behind a store into a flag -/
theorem OwnD.flag {B : Nat} {w : World} {v : Value} {L : List Ca} (h : OwnD B w v L) {k a : Nat} (hk : k < L.length) (ha : a < (cAt L k).2.length) (b : Bool) :
    ∃ g c gf cf, v = .slice (some ⟨g, 0, none⟩) L.length c ∧ B ≤ g ∧ g < w.heap.size ∧ B ≤ gf ∧ gf < w.heap.size ∧ w.cell? ⟨g, k * 2, none⟩ = some (.int .i64 (cAt L k).1) ∧ w.cell? ⟨g, k * 2 + 1, none⟩ = some (.slice (some ⟨gf, 0, none⟩) (cAt L k).2.length cf) ∧
      w.cell? ⟨gf, a, none⟩ = some (.bool ((cAt L k).2.getD a false)) ∧ w.frozen? ⟨gf, a, none⟩ = false ∧ OwnD B (w.setCell ⟨gf, a, none⟩ (.bool b)) v (L.set k ((cAt L k).1, (cAt L k).2.set a b)) ∧ (∃ cur, Box w gf 4 cur) ∧ (∃ cur, Box w g 52 cur) ∧ Bs (w.setCell ⟨gf, a, none⟩ (.bool b)) (some ⟨gf, 0, none⟩) ((cAt L k).2.set a b) ∧ (cAt L k).2.length ≤ cf := by
  obtain ⟨R, e, hr, h1, hd⟩ := h
  have hl : R.length = L.length := by rw [← e, List.length_map]
  have hkR : k < R.length := by omega
  have ep := pcC_get e hkR
  have e1 : (R[k]).1 = (cAt L k).1 := by rw [← ep]; rfl
  have e2 : (R[k]).2.1 = (cAt L k).2 := by rw [← ep]; rfl
  obtain ⟨A, c, ev, _⟩ := row_form hr
  subst ev
  obtain ⟨g, eA, hg, _, hc, _⟩ := row_cell hr (by omega)
  subst eA
  obtain ⟨cur, hx, hBg⟩ := row_box hr
  have hf := h1 k hkR
  obtain ⟨Af, cf, ef, _⟩ := row_form hf
  have hf2 := hf
  rw [ef] at hf2
  obtain ⟨gf, eAf, hgf, _, hcf, _⟩ := row_cell hf2 (by rw [e2]; omega)
  subst eAf
  obtain ⟨curf, hxf, hBgf⟩ := row_box hf2
  have ca : w.cell? ⟨gf, a, none⟩ = some (.bool ((cAt L k).2.getD a false)) := by
    refine hcf a _ ?_
    rw [List.getElem?_map, e2, List.getElem?_eq_getElem ha, List.getD_eq_getElem?_getD, List.getElem?_eq_getElem ha]; rfl
  have hbs : Bs (w.setCell ⟨gf, a, none⟩ (.bool b)) (some ⟨gf, 0, none⟩) ((cAt L k).2.set a b) := fun _ => by
    refine ⟨gf, 0, rfl, by simpa using hgf, fun q hq => ?_⟩
    rw [List.length_set] at hq
    rw [Nat.zero_add, (hxf.put a (.bool b)).cell]
    have hq2 := hcf q (.bool ((cAt L k).2.getD q false)) (by rw [List.getElem?_map, e2, List.getElem?_eq_getElem hq, List.getD_eq_getElem?_getD, List.getElem?_eq_getElem hq]; rfl)
    rw [hxf.cell] at hq2
    have hqc : q < curf.size := by
      rcases Nat.lt_or_ge q curf.size with z | z
      · exact z
      · rw [Array.getElem?_eq_none z] at hq2; cases hq2
    rw [Array.getElem?_setIfInBounds]
    by_cases eq : a = q
    · subst eq
      rw [if_pos rfl, if_pos hqc, List.getD_eq_getElem?_getD, List.getElem?_set_self hq]; rfl
    · rw [if_neg eq, hq2, List.getD_eq_getElem?_getD, List.getD_eq_getElem?_getD, List.getElem?_set_ne eq]
  refine ⟨g, c, gf, cf, rfl, hBg, hg, hBgf, hgf, ?_, ?_, ca, hxf.frozen _, ?_, ⟨curf, hxf⟩, ⟨cur, hx⟩, hbs, by obtain ⟨A9, c9, e9, h9⟩ := row_form hf2; injection e9 with _ _ e9; rw [← e2, e9]; exact h9⟩
  · have := hc _ _ (cC_at (R := R) (k := k) hkR).1
    rw [← e1]; exact this
  · have := hc _ _ (cC_at (R := R) (k := k) hkR).2
    rw [← e2, ← ef]; exact this
  · have hkp := Kp.boxset hxf hBgf a (.bool b)
    refine ⟨R.set k ((R[k]).1, (cAt L k).2.set a b, (R[k]).2.2), ?_, ?_, fun j hj => ?_, fun i j hi hj hne => ?_⟩
    · rw [List.map_set, e]
      show L.set k ((R[k]).1, _) = _
      rw [e1]
    · rw [cC_same R k hkR, List.length_set]; exact row_kp hr hkp (by decide)
    · rw [List.length_set] at hj
      rw [List.getElem_set]
      by_cases ejk : k = j
      · subst ejk
        rw [if_pos rfl]
        simp only
        have := row_set2 hf2 a (.bool b)
        rw [ef, ← e2, bc_set, List.length_set]
        exact this
      · rw [if_neg ejk]
        refine row_far (h1 j hj) (fun q => ?_) _
        rcases hd k j hkR hj ejk with g1 | g1
        · rw [ef] at g1; simp [Value.ownBlock] at g1
        · rw [ef] at g1; exact g1 (by rw [q]; rfl)
    · rw [List.length_set] at hi hj
      rw [List.getElem_set, List.getElem_set]
      by_cases eik : k = i
      · subst eik
        rw [if_pos rfl, if_neg hne]
        exact hd k j hi hj hne
      · by_cases ejk : k = j
        · subst ejk
          rw [if_neg eik, if_pos rfl]
          exact hd i k hi hj hne
        · rw [if_neg eik, if_neg ejk]
          exact hd i j hi hj hne
theorem Vd.asc {S : Sc} (h : Vd S) : Asc S.sl := by
  have key : ∀ t s, s < t → t < S.sl.length → Sb.fr S s < Sb.fr S t := by
    intro t
    induction t with
    | zero => intro s hs; omega
    | succ t ih =>
      intro s hs ht
      have h1 := h.up t ht
      rcases Nat.lt_or_ge s t with g | g
      · have := ih s g (by omega); omega
      · obtain rfl : s = t := by omega
        exact h1
  exact fun s t hs ht => key t s hs ht
-- WHAT Free ANSWERS
def fI (S : Sc) (o : Int) : Nat := caP S.sl (o / S.ob)
def fA (S : Sc) (o : Int) : Nat := (o % S.ob).toNat
def uf (S : Sc) (o : Int) : Bool := decide (0 ≤ o) && (hitP S.sl (o / S.ob) && (us S (fI S o)).getD (fA S o) false)
def fE (S : Sc) (o : Int) : Int := if chE S = 0 then (if uf S o = true then 0 else 6) else chE S
/-- the slabs with the object free -/
def fC (S : Sc) (o : Int) : List Ca := S.sl.set (fI S o) (fr S (fI S o), (us S (fI S o)).set (fA S o) false)
def fZ (S : Sc) (o : Int) : Nat := cnt ((us S (fI S o)).set (fA S o) false)
def fL (S : Sc) (o : Int) : List Ca := if fE S o = 0 then (if fZ S o = 0 then S.sl.take (fI S o) ++ S.sl.drop (fI S o + 1) else fC S o) else []
def fF (S : Sc) (o : Int) : Int := if fE S o = 0 then (if fZ S o = 0 then fr S (fI S o) else -1) else 0
def fO (S : Sc) (o : Int) : Int := if fE S o = 0 then S.ob else 0
theorem hit_lt {S : Sc} {o : Int} (h : hitP S.sl (o / S.ob) = true) : fI S o < S.sl.length ∧ fr S (fI S o) = o / S.ob := of_decide_eq_true h
theorem fA_lt {S : Sc} (h : Vd S) {o : Int} {k : Nat} (hk : k < S.sl.length) : fA S o < (us S k).length := by
  have h1 := h.ob
  have h2 := h.ln k hk
  have h3 := Int.emod_nonneg o (b := S.ob) (by omega)
  have h4 := Int.emod_lt_of_pos o (b := S.ob) (by omega)
  unfold fA
  omega
theorem uf_ok {S : Sc} {o : Int} (h : uf S o = true) : 0 ≤ o ∧ hitP S.sl (o / S.ob) = true ∧ (us S (fI S o)).getD (fA S o) false = true := by
  unfold uf at h
  simp only [Bool.and_eq_true, decide_eq_true_eq] at h
  exact ⟨h.1, h.2.1, h.2.2⟩
end Go.Proofs.Ytncjicggolmofaa.Sb
