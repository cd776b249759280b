import Derived.Test.YtncjicggolmofaaA1
import Derived.Test.YtncjicggolmofaaI3
namespace Go.Proofs.Ytncjicggolmofaa.Sb
open Go Go.RowKit
set_option linter.unusedVariables false
set_option linter.unusedSimpArgs false
theorem row_kept {w w' : World} {base n size : Nat} {t : TypeId} {v : Value} {xs : List Value} {row : Option Nat} (h : w.ownsRow base t size v n xs) (hg : w.grownBy w' row) (hne : ∀ g, row = some g → v.ownBlock ≠ some g) : w'.ownsRow base t size v n xs := by
  obtain ⟨hl, h | ⟨g, cap, cur, e, hgb, hh, r⟩⟩ := h
  · exact ⟨hl, .inl h⟩
  · refine ⟨hl, .inr ⟨g, cap, cur, e, hgb, (hg.block g (blk_lt hh) (fun q => ?_)).trans hh, r⟩⟩
    subst e
    exact hne g q.symm rfl
theorem own_lt {w : World} {base n size : Nat} {t : TypeId} {v : Value} {xs : List Value} (h : w.ownsRow base t size v n xs) {g : Nat} (hg : w.heap.size ≤ g) : v.ownBlock ≠ some g := by
  obtain ⟨_, ⟨rfl, _⟩ | ⟨k, cap, cur, rfl, _, hh, _⟩⟩ := h
  · exact fun e => by cases e
  · intro e
    have : k = g := by simpa [Value.ownBlock] using e
    have := blk_lt hh
    omega
/-- as OwnD; no flags lie in block g -/
def OwnX (g B : Nat) (w : World) (v : Value) (L : List Ca) : Prop := ∃ R : List PC, R.map pcC = L ∧ w.ownsRow B 52 2 v L.length (cC R) ∧ (∀ j (h : j < R.length), w.ownsRow B 4 1 (R[j]).2.2 (R[j]).2.1.length ((R[j]).2.1.map bc)) ∧ (∀ i j (hi : i < R.length) (hj : j < R.length), i ≠ j → Ap (R[i]).2.2 (R[j]).2.2) ∧ ∀ j (h : j < R.length), (R[j]).2.2.ownBlock ≠ some g
theorem OwnD.x {g B : Nat} {w : World} {v : Value} {L : List Ca} (h : OwnD B w v L) (hg : w.heap.size ≤ g) : OwnX g B w v L := by
  obtain ⟨R, e, hr, h1, hd⟩ := h
  exact ⟨R, e, hr, h1, hd, fun j hj => own_lt (h1 j hj) hg⟩
theorem OwnX.d {g B : Nat} {w : World} {v : Value} {L : List Ca} (h : OwnX g B w v L) : OwnD B w v L := by
  obtain ⟨R, e, hr, h1, hd, _⟩ := h
  exact ⟨R, e, hr, h1, hd⟩
theorem OwnX.below {g B : Nat} {w w' : World} {v : Value} {L : List Ca} (h : OwnX g B w v L) (hb : Below w.heap.size w w') : OwnX g B w' v L := by
  obtain ⟨R, e, hr, h1, hd, hx⟩ := h
  exact ⟨R, e, row_below hr hb, fun j hj => row_below (h1 j hj) hb, hd, hx⟩
theorem OwnX.kp {g B B' : Nat} {T : TypeId} {w w' : World} {v : Value} {L : List Ca} (h : OwnX g B w v L) (hk : Kp B' T w w') (h1 : (52 : TypeId) ≠ T) (h2 : (4 : TypeId) ≠ T) : OwnX g B w' v L := by
  obtain ⟨R, e, hr, ho, hd, hx⟩ := h
  exact ⟨R, e, row_kp hr hk h1, fun j hj => row_kp (ho j hj) hk h2, hd, hx⟩
theorem OwnX.grown {g B : Nat} {w w' : World} {v : Value} {L : List Ca} {cur : Array Value} (h : OwnX g B w v L) (hb : Box w g 4 cur) (hg : w.grownBy w' (some g)) : OwnX g B w' v L := by
  obtain ⟨R, e, hr, h1, hd, hx⟩ := h
  exact ⟨R, e, row_kept hr hg (fun q eq => by injection eq with eq; subst eq; exact own_ne_box hr hb (by decide)), fun j hj => row_kept (h1 j hj) hg (fun q eq => by injection eq with eq; subst eq; exact hx j hj), hd, hx⟩
theorem OwnX.ne {g h B : Nat} {w : World} {v : Value} {L : List Ca} (o : OwnX g B w v L) (hg : w.heap.size ≤ h) : v.ownBlock ≠ some h := by
  obtain ⟨R, e, hr, _⟩ := o
  exact own_lt hr hg
theorem ins_len {α : Type} (L : List α) (m : α) (i : Nat) : (L.take i ++ m :: L.drop i).length = L.length + 1 := by
  have := (List.take_append_drop i L)
  conv => rhs; rw [← this]
  simp only [List.length_append, List.length_cons]; omega
theorem ins_at {α : Type} {L : List α} {m : α} {i j : Nat} (hi : i ≤ L.length) (hj : j < (L.take i ++ m :: L.drop i).length) :
    (j = i ∧ (L.take i ++ m :: L.drop i)[j] = m) ∨ ∃ j', ∃ h : j' < L.length, (L.take i ++ m :: L.drop i)[j] = L[j'] ∧ (j < i ∧ j' = j ∨ i < j ∧ j = j' + 1) := by
  have hl := ins_len L m i
  rcases Nat.lt_trichotomy j i with c | c | c
  · refine .inr ⟨j, by omega, ?_, .inl ⟨c, rfl⟩⟩
    rw [List.getElem_append_left (by rw [List.length_take]; omega), List.getElem_take]
  · refine .inl ⟨c, ?_⟩
    subst c
    rw [List.getElem_append_right (by rw [List.length_take]; omega)]
    simp [List.length_take, Nat.min_eq_left hi]
  · refine .inr ⟨j - 1, by omega, ?_, .inr ⟨c, by omega⟩⟩
    rw [List.getElem_append_right (by rw [List.length_take]; omega)]
    have e : j - (List.take i L).length = (j - 1 - i) + 1 := by rw [List.length_take]; omega
    simp only [e, List.getElem_cons_succ, List.getElem_drop]
    congr 1
    omega
theorem cC_ins (R : List PC) (m : PC) (i : Nat) : cC (R.take i ++ m :: R.drop i) = (cC R).take (i * 2) ++ [.int .i64 m.1, m.2.2] ++ (cC R).drop (i * 2) := by
  rw [cC_append, cC_take, ← cC_drop, List.append_assoc]
  rfl
theorem ins_own (B gx nb i : Nat) (v u : Value) (L : List Ca) (f : Int) (lf : By) (w : World) (ho : OwnX gx B w v L) (hu : w.ownsRow B 4 1 u lf.length (lf.map bc)) (hgx : u.ownBlock = some gx) (hB : B ≤ w.heap.size) (hn : L.length ≤ 1000) (hX : Box w nb 52 #[.int .i64 f, u]) (hi : i ≤ L.length) (hne : v.ownBlock ≠ some nb) :
    Calls Try.prog 45 #[v, .int .i64 i, .slice (some ⟨nb, 0, none⟩) 1 1] w fun e w' => ∃ v', e = .returned v' ∧ OwnD B w' v' (L.take i ++ (f, lf) :: L.drop i) ∧ Kp B 52 w w' := by
  obtain ⟨R, e, hr, h1, hd, hx⟩ := ho
  have hl : R.length = L.length := by rw [← e, List.length_map]
  obtain ⟨A, c, ev, _⟩ := row_form hr
  subst ev
  obtain ⟨Au, cu, eu, _⟩ := row_form hu
  have hone : u.oneCell' = true := by rw [eu]; rfl
  have hP : ∀ r ∈ R, ∃ l : By, ∃ A c, r.2.2 = Value.slice A l.length c := fun r hm => by
    obtain ⟨j, hj, rfl⟩ := List.mem_iff_getElem.1 hm
    obtain ⟨A, c, e, _⟩ := row_form (h1 j hj)
    exact ⟨_, A, c, e⟩
  have hcl : (cC R).length = L.length * 2 := by rw [cC_length, hl]
  have fin : ∀ (v' : Value) (w' : World) (row : Option Nat), w'.ownsRow B 52 2 v' (L.length + 1) ((cC R).take (i * 2) ++ [.int .i64 f, u] ++ (cC R).drop (i * 2)) → w.grownBy w' row → (∀ g, row = some g → ∃ cur, Box w g 52 cur) → OwnD B w' v' (L.take i ++ (f, lf) :: L.drop i) := by
    intro v' w' row hv hg hrow
    have kf : ∀ {y : Value} {n : Nat} {xs : List Value}, w.ownsRow B 4 1 y n xs → w'.ownsRow B 4 1 y n xs := fun h => row_kept h hg (fun g eg => by
      obtain ⟨cur, hb⟩ := hrow g eg
      exact own_ne_box h hb (by decide))
    have apn : ∀ j (hj : j < R.length), Ap u (R[j]).2.2 ∧ Ap (R[j]).2.2 u := fun j hj => by
      have := hx j hj
      exact ⟨.inr (by rw [hgx]; exact fun q => this q.symm), .inr (by rw [hgx]; exact this)⟩
    refine ⟨R.take i ++ (f, lf, u) :: R.drop i, ?_, ?_, fun j hj => ?_, fun p q hp hq hne => ?_⟩
    · rw [List.map_append, List.map_cons, List.map_take, List.map_drop, e]; rfl
    · rw [ins_len, cC_ins]; exact hv
    · rcases ins_at (by omega) hj with ⟨_, eq⟩ | ⟨j', hj', eq, _⟩
      · rw [eq]; exact kf hu
      · rw [eq]; exact kf (h1 j' hj')
    · rcases ins_at (by omega) hp with ⟨ep, eq⟩ | ⟨p', hp', eq, cp⟩
      · rcases ins_at (by omega) hq with ⟨ep2, eq2⟩ | ⟨q', hq', eq2, cq⟩
        · omega
        · rw [eq, eq2]; exact (apn q' hq').1
      · rcases ins_at (by omega) hq with ⟨ep2, eq2⟩ | ⟨q', hq', eq2, cq⟩
        · rw [eq, eq2]; exact (apn p' hp').2
        · rw [eq, eq2]; exact hd p' q' hp' hq' (by omega)
  by_cases he : i = L.length
  · subst he
    refine (insert_end B A L.length c nb (cC R) f u w hr hB hn ⟨_, _, _, eu⟩ hX).mono ?_
    rintro e w' ⟨v', rfl, k1, k2⟩
    refine ⟨v', rfl, fin v' w' _ ?_ k2 (fun g eg => ?_), Kp.grown hr k2 (Nat.le_refl B) hB⟩
    · rw [List.take_of_length_le (by omega), List.drop_of_length_le (by omega), List.append_nil]; exact k1
    · obtain ⟨_, ⟨e0, _⟩ | ⟨k, cap, cur, e0, _, hh, _⟩⟩ := hr
      · rw [e0] at eg; cases eg
      · rw [e0] at eg
        have : k = g := by simpa [Value.ownBlock] using eg
        subst this
        exact ⟨cur, hh⟩
  · have hlt : i < L.length := by omega
    have hr2 := hr
    obtain ⟨_, h | ⟨g, cap, cur, e1, hg, hh, h4, h5, h6, ht⟩⟩ := hr
    · omega
    · injection e1 with e1 _ e2
      subst e1 e2
      have hng : nb ≠ g := fun q => hne (by rw [q]; rfl)
      by_cases hroom : L.length + 1 ≤ c
      · refine (insert_room g L.length c nb i (cC R) cur f u w hX hh hng hlt hroom h5 hn h6 ht hcl (cC_one hP) hone).mono ?_
        rintro e w' ⟨rfl, cur', k1, k2, k3, k4⟩
        refine ⟨_, rfl, fin _ w' _ ⟨?_, .inr ⟨g, c, cur', rfl, hg, k1, hroom, h5, k2, k3⟩⟩ k4 (fun g' eg => by injection eg with eg; subst eg; exact ⟨cur, hh⟩), Kp.grown hr2 k4 (Nat.le_refl B) hB⟩
        simp only [List.length_append, List.length_take, List.length_drop, hcl, List.length_cons, List.length_nil]; omega
      · refine (insert_grow g L.length c nb i (cC R) cur f u w hX hh hlt h4 (by omega) hn ht hcl (cC_one hP) hone).mono ?_
        rintro e w' ⟨G, rfl, g1, g2, cur', k1, k2, k3, k4⟩
        refine ⟨_, rfl, fin _ w' none ⟨?_, .inr ⟨w.heap.size, G, cur', rfl, hB, k1, g1, g2, k2, k3⟩⟩ k4 (fun g' eg => by cases eg), ⟨⟨k4.os, k4.tape, k4.output, k4.size, fun k hk => k4.block k (by omega) (by simp)⟩, fun k hk _ => k4.block k hk (by simp)⟩⟩
        simp only [List.length_append, List.length_take, List.length_drop, hcl, List.length_cons, List.length_nil]; omega
theorem OwnD.use {B : Nat} {w : World} {v : Value} {L : List Ca} (h : OwnD B w v L) {k : Nat} (hk : k < L.length) :
    ∃ g c u, v = .slice (some ⟨g, 0, none⟩) L.length c ∧ g < w.heap.size ∧ w.cell? ⟨g, k * 2, none⟩ = some (.int .i64 (cAt L k).1) ∧ w.cell? ⟨g, k * 2 + 1, none⟩ = some u ∧ w.ownsRow B 4 1 u (cAt L k).2.length ((cAt L k).2.map bc) ∧
      ∀ (w' : World) (l' : By), w'.ownsRow B 4 1 u l'.length (l'.map bc) → w.grownBy w' u.ownBlock → OwnD B w' v (L.set k ((cAt L k).1, l')) := by
  obtain ⟨R, e, hr, h1, hd⟩ := h
  have hl : R.length = L.length := by rw [← e, List.length_map]
  have hkR : k < R.length := by omega
  have ep := pcC_get e hkR
  have e1 : (R[k]).1 = (cAt L k).1 := by rw [← ep]; rfl
  have e2 : (R[k]).2.1 = (cAt L k).2 := by rw [← ep]; rfl
  obtain ⟨A, c, ev, _⟩ := row_form hr
  subst ev
  obtain ⟨g, eA, hg, _, hc, _⟩ := row_cell hr (by omega)
  subst eA
  refine ⟨g, c, (R[k]).2.2, rfl, hg, ?_, ?_, by rw [← e2]; exact h1 k hkR, fun w' l' hu hgr => ?_⟩
  · rw [← e1]; exact hc _ _ (cC_at (R := R) (k := k) hkR).1
  · exact hc _ _ (cC_at (R := R) (k := k) hkR).2
  · refine ⟨R.set k ((R[k]).1, l', (R[k]).2.2), ?_, ?_, fun j hj => ?_, fun i j hi hj hne => ?_⟩
    · rw [List.map_set, e]
      show L.set k ((R[k]).1, l') = _
      rw [e1]
    · rw [cC_same R k hkR, List.length_set]
      refine row_kept hr hgr (fun q eq => ?_)
      obtain ⟨_, ⟨e0, _⟩ | ⟨k', cap, cur, e0, _, hh, _⟩⟩ := h1 k hkR
      · rw [e0] at eq; cases eq
      · rw [e0] at eq
        have : k' = q := by simpa [Value.ownBlock] using eq
        subst this
        exact own_ne_box hr (show Box w k' 4 cur from hh) (by decide)
    · rw [List.length_set] at hj
      rw [List.getElem_set]
      by_cases ejk : k = j
      · subst ejk
        rw [if_pos rfl]
        exact hu
      · rw [if_neg ejk]
        refine row_kept (h1 j hj) hgr (fun q eq => ?_)
        rcases hd k j hkR hj ejk with g1 | g1
        · rw [g1] at eq; cases eq
        · rw [eq] at g1; exact fun z => g1 z.symm
    · rw [List.length_set] at hi hj
      rw [List.getElem_set, List.getElem_set]
      by_cases eik : k = i
      · subst eik
        rw [if_pos rfl, if_neg hne]
        exact hd k j hi hj hne
      · by_cases ejk : k = j
        · subst ejk
          rw [if_neg eik, if_pos rfl]
          exact hd i k hi hj hne
        · rw [if_neg eik, if_neg ejk]
          exact hd i j hi hj hne
end Go.Proofs.Ytncjicggolmofaa.Sb
