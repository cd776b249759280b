import Derived.Test.YtncjicggolmofaaKl
namespace Go.Proofs.Ytncjicggolmofaa.Sb
open Go Go.RowKit
set_option linter.unusedVariables false
theorem row_set2 {base n size : Nat} {t : TypeId} {g c : Nat} {xs : List Value} {w : World} (h : w.ownsRow base t size (.slice (some ⟨g, 0, none⟩) n c) n xs) (z : Nat) (u : Value) : (w.setCell ⟨g, z, none⟩ u).ownsRow base t size (.slice (some ⟨g, 0, none⟩) n c) n (xs.set z u) := by
  obtain ⟨hl, ⟨e, _⟩ | ⟨g', cap, cur, e, hgb, hh, h1, h2, h3, h4⟩⟩ := h
  · cases e
  · injection e with e1 _ e2
    injection e1 with e1; injection e1 with e1
    subst e1 e2
    refine ⟨by simpa using hl, .inr ⟨g, c, _, rfl, hgb, Box.put hh z u, h1, h2, by simpa using h3, ?_⟩⟩
    rw [← h4]
    simp [List.take_set]
theorem row_box {base n size : Nat} {t : TypeId} {g c : Nat} {xs : List Value} {w : World} (h : w.ownsRow base t size (.slice (some ⟨g, 0, none⟩) n c) n xs) : ∃ cur, Box w g t cur ∧ base ≤ g := by
  obtain ⟨hl, ⟨e, _⟩ | ⟨g', cap, cur, e, hgb, hh, h1, h2, h3, h4⟩⟩ := h
  · cases e
  · injection e with e1 _ e2
    injection e1 with e1; injection e1 with e1
    subst e1 e2
    exact ⟨cur, hh, hgb⟩
theorem cC_set : ∀ (R : List PC) (k : Nat) (h : k < R.length) (u : Value), cC (R.set k ((R[k]).1, (R[k]).2.1, u)) = (cC R).set (k * 2 + 1) u
  | r :: R, 0, _, u => rfl
  | r :: R, k + 1, h, u => by
    have ih := cC_set R k (by simpa using h) u
    rw [show (k + 1) * 2 + 1 = (k * 2 + 1) + 2 by omega]
    show _ :: _ :: _ = _ :: _ :: _
    congr 2
theorem FlB.oby {B : Nat} {w : World} {v : Value} {l : By} (h : w.ownsRow B 4 1 v l.length (l.map bc)) : OwnBy w v l := by
  obtain ⟨A, c, rfl, _⟩ := row_form h
  exact OwnBy.of_row h
/-- two rows of flags lie in two blocks -/
def Ap (u v : Value) : Prop := u.ownBlock = none ∨ u.ownBlock ≠ v.ownBlock
theorem ap_new {B B' n m : Nat} {t t' : TypeId} {s s' : Nat} {w w' : World} {u v : Value} {xs ys : List Value} (h : w.ownsRow B t s u n xs) (h2 : w'.ownsRow B' t' s' v m ys) (hb : w.heap.size ≤ B') : Ap u v ∧ Ap v u := by
  obtain ⟨_, ⟨rfl, rfl⟩ | ⟨g, cap, cur, rfl, hgb, hh, _⟩⟩ := h
  · obtain ⟨_, ⟨rfl, rfl⟩ | ⟨g', cap', cur', rfl, hgb', hh', _⟩⟩ := h2
    · exact ⟨.inl rfl, .inl rfl⟩
    · exact ⟨.inl rfl, .inr (by simp [Value.ownBlock])⟩
  · obtain ⟨_, ⟨rfl, rfl⟩ | ⟨g', cap', cur', rfl, hgb', hh', _⟩⟩ := h2
    · exact ⟨.inr (by simp [Value.ownBlock]), .inl rfl⟩
    · have := blk_lt hh
      have hne : g ≠ g' := by omega
      exact ⟨.inr (by simp [Value.ownBlock]; omega), .inr (by simp [Value.ownBlock]; omega)⟩
/-- a row of slabs of one's own, the flags of each in a block of its own -/
def OwnD (B : Nat) (w : World) (v : Value) (L : List Ca) : Prop := ∃ R : List PC, R.map pcC = L ∧ w.ownsRow B 52 2 v L.length (cC R) ∧ (∀ j (h : j < R.length), w.ownsRow B 4 1 (R[j]).2.2 (R[j]).2.1.length ((R[j]).2.1.map bc)) ∧ (∀ i j (hi : i < R.length) (hj : j < R.length), i ≠ j → Ap (R[i]).2.2 (R[j]).2.2)
theorem OwnD.c {B : Nat} {w : World} {v : Value} {L : List Ca} (h : OwnD B w v L) : OwnC B w v L := by
  obtain ⟨R, e, hr, h1, _⟩ := h
  refine ⟨R, e, hr, fun r hm => ?_⟩
  obtain ⟨j, hj, rfl⟩ := List.mem_iff_getElem.1 hm
  exact FlB.oby (h1 j hj)
theorem OwnD.kp {B B' : Nat} {T : TypeId} {w w' : World} {v : Value} {L : List Ca} (h : OwnD B w v L) (hk : Kp B' T w w') (h1 : (52 : TypeId) ≠ T) (h2 : (4 : TypeId) ≠ T) : OwnD B w' v L := by
  obtain ⟨R, e, hr, ho, hd⟩ := h
  exact ⟨R, e, row_kp hr hk h1, fun j hj => row_kp (ho j hj) hk h2, hd⟩
theorem OwnD.mono {B B' : Nat} {w : World} {v : Value} {L : List Ca} (h : OwnD B w v L) (hB : B' ≤ B) : OwnD B' w v L := by
  obtain ⟨R, e, hr, ho, hd⟩ := h
  exact ⟨R, e, row_mono hr hB, fun j hj => row_mono (ho j hj) hB, hd⟩
theorem OwnD.below {B : Nat} {w w' : World} {v : Value} {L : List Ca} (h : OwnD B w v L) (hb : Below w.heap.size w w') : OwnD B w' v L := by
  obtain ⟨R, e, hr, ho, hd⟩ := h
  exact ⟨R, e, row_below hr hb, fun j hj => row_below (ho j hj) hb, hd⟩
/-- a row of slabs of one's own, the flags of whose first k are of one's own as well; those of the others are to be read as they were in w0 -/
def HalfC (B : Nat) (w0 w : World) (v : Value) (L : List Ca) (k : Nat) : Prop := ∃ R : List PC, R.map pcC = L ∧ w.ownsRow B 52 2 v L.length (cC R) ∧ (∀ j (h : j < R.length), j < k → w.ownsRow B 4 1 (R[j]).2.2 (R[j]).2.1.length ((R[j]).2.1.map bc)) ∧ (∀ j (h : j < R.length), k ≤ j → IsBs w0 (R[j]).2.2 (R[j]).2.1) ∧ (∀ i j (hi : i < R.length) (hj : j < R.length), i < k → j < k → i ≠ j → Ap (R[i]).2.2 (R[j]).2.2)
theorem HalfC.zero {w0 w : World} {B : Nat} {v : Value} {L : List Ca} {R : List PC} (hR : R.map pcC = L) (hown : w.ownsRow B 52 2 v L.length (cC R)) (hP : ∀ r ∈ R, IsBs w0 r.2.2 r.2.1) : HalfC B w0 w v L 0 :=
  ⟨R, hR, hown, fun j h hj => absurd hj (Nat.not_lt_zero _), fun j h _ => hP _ (List.getElem_mem _), fun i j hi hj h1 => absurd h1 (Nat.not_lt_zero _)⟩
theorem HalfC.done {w0 w : World} {B : Nat} {v : Value} {L : List Ca} (h : HalfC B w0 w v L L.length) : OwnD B w v L := by
  obtain ⟨R, e, hr, h1, _, hd⟩ := h
  have hl : R.length = L.length := by rw [← e, List.length_map]
  exact ⟨R, e, hr, fun j hj => h1 j hj (by omega), fun i j hi hj hne => hd i j hi hj (by omega) (by omega) hne⟩
theorem HalfC.below {w0 w w' : World} {B k : Nat} {v : Value} {L : List Ca} (h : HalfC B w0 w v L k) (hb : Below w.heap.size w w') : HalfC B w0 w' v L k := by
  obtain ⟨R, e, hr, h1, h2, hd⟩ := h
  exact ⟨R, e, row_below hr hb, fun j hj hk => row_below (h1 j hj hk) hb, h2, hd⟩
theorem HalfC.form {w0 w : World} {B k : Nat} {v : Value} {L : List Ca} (h : HalfC B w0 w v L k) (hk : k < L.length) : ∃ g c, v = .slice (some ⟨g, 0, none⟩) L.length c ∧ B ≤ g ∧ g < w.heap.size := by
  obtain ⟨R, e, hr, _⟩ := h
  obtain ⟨A, c, rfl, hc⟩ := row_form hr
  obtain ⟨g, rfl, hg, hB, _⟩ := row_cell hr (by omega)
  obtain ⟨cur, hx, hBg⟩ := row_box hr
  exact ⟨g, c, rfl, hBg, hg⟩
/-- what lies in the row at k -/
theorem HalfC.cells {w0 w : World} {B k g n c : Nat} {L : List Ca} (h : HalfC B w0 w (.slice (some ⟨g, 0, none⟩) n c) L k) (hk : k < L.length) : ∃ v, w.cell? ⟨g, k * 2, none⟩ = some (.int .i64 (cAt L k).1) ∧ w.cell? ⟨g, k * 2 + 1, none⟩ = some v ∧ w.frozen? ⟨g, k * 2 + 1, none⟩ = false ∧ IsBs w0 v (cAt L k).2 := by
  obtain ⟨R, e, hr, h1, h2, hd⟩ := h
  have hl : R.length = L.length := by rw [← e, List.length_map]
  have hn : n = L.length := by obtain ⟨A', c', e1, _⟩ := row_form hr; injection e1
  subst hn
  obtain ⟨g', e1, hg, _, hc, _⟩ := row_cell hr (by omega)
  injection e1 with e1; injection e1 with e1
  subst e1
  obtain ⟨cur, hx, _⟩ := row_box hr
  have ep : pcC (R[k]'(by omega)) = cAt L k := by rw [cAt_get hk]; simp [← e]
  refine ⟨(R[k]'(by omega)).2.2, ?_, ?_, hx.frozen _, ?_⟩
  · have := hc _ _ (cC_at (R := R) (k := k) (by omega)).1
    rw [← ep]; exact this
  · exact hc _ _ (cC_at (R := R) (k := k) (by omega)).2
  · rw [← ep]; exact h2 k (by omega) (Nat.le_refl _)
theorem HalfC.step {wp w0 w : World} {B k g n c : Nat} {L : List Ca} {u : Value} (hpre : HalfC B w0 wp (.slice (some ⟨g, 0, none⟩) n c) L k) (hbw : Below wp.heap.size wp w) (hB2 : B ≤ wp.heap.size) (hk : k < L.length) (hu : w.ownsRow wp.heap.size 4 1 u (cAt L k).2.length ((cAt L k).2.map bc)) : HalfC B w0 (w.setCell ⟨g, k * 2 + 1, none⟩ u) (.slice (some ⟨g, 0, none⟩) n c) L (k + 1) := by
  obtain ⟨R, e, hrp, h1p, h2, hd⟩ := hpre
  have hr := row_below hrp hbw
  have h1 : ∀ j (h : j < R.length), j < k → w.ownsRow B 4 1 (R[j]).2.2 (R[j]).2.1.length ((R[j]).2.1.map bc) := fun j hj hjk => row_below (h1p j hj hjk) hbw
  have hl : R.length = L.length := by rw [← e, List.length_map]
  have hn : n = L.length := by obtain ⟨A', c', e1, _⟩ := row_form hr; injection e1
  subst hn
  obtain ⟨cur, hx, hB⟩ := row_box hr
  have hkp := Kp.boxset hx hB (k * 2 + 1) u
  have hkR : k < R.length := by omega
  have ep : pcC R[k] = cAt L k := by rw [cAt_get hk]; simp [← e]
  refine ⟨R.set k ((R[k]).1, (R[k]).2.1, u), ?_, ?_, fun j hj hjk => ?_, fun j hj hjk => ?_, fun i j hi hj hik hjk hne => ?_⟩
  · rw [List.map_set]
    show (R.map pcC).set k (pcC R[k]) = L
    rw [e, ep, cAt_get hk, List.set_getElem_self]
  · rw [cC_set R k hkR u]; exact row_set2 hr _ _
  · rw [List.length_set] at hj
    rw [List.getElem_set]
    by_cases ejk : k = j
    · subst ejk
      rw [if_pos rfl]
      have : (R[k]).2.1 = (cAt L k).2 := by rw [← ep]; rfl
      simp only
      rw [this]; exact row_kp (row_mono hu hB2) hkp (by decide)
    · rw [if_neg ejk]; exact row_kp (h1 j hj (by omega)) hkp (by decide)
  · rw [List.length_set] at hj
    rw [List.getElem_set, if_neg (by omega)]
    exact h2 j hj (by omega)
  · rw [List.length_set] at hi hj
    rw [List.getElem_set, List.getElem_set]
    by_cases eik : k = i
    · subst eik
      rw [if_pos rfl, if_neg hne]
      exact (ap_new (h1p j hj (by omega)) hu (Nat.le_refl _)).2
    · by_cases ejk : k = j
      · subst ejk
        rw [if_neg eik, if_pos rfl]
        exact (ap_new (h1p i hi (by omega)) hu (Nat.le_refl _)).1
      · rw [if_neg eik, if_neg ejk]
        exact hd i j hi hj (by omega) (by omega) hne
end Go.Proofs.Ytncjicggolmofaa.Sb
