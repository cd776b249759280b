import Derived.Test.YtncjicggolmofaaV5
import Derived.Test.YtncjicggolmofaaL3
namespace Go.Proofs.Ytncjicggolmofaa.Sb
open Go Go.RowKit
set_option linter.unusedVariables false
set_option linter.unusedSimpArgs false
/-- a frame is there just where one of its objects is used -/
theorem frs_ob {S : Sc} (V : Vd S) {m : Nat} (hm : S.ob = m) {f : Int} : f ∈ frs S.sl ↔ ∃ j : Nat, j < m ∧ Ob m S.sl (f * (m : Int) + (j : Int)) := by
  constructor
  · intro h
    obtain ⟨c, hc, rfl⟩ := List.mem_map.1 h
    obtain ⟨i, hi, rfl⟩ := List.mem_iff_getElem.1 hc
    obtain ⟨j, hj, hg⟩ := cnt_ex.1 (V.us i hi)
    have hl := V.ln i hi
    have e : us S i = (cAt S.sl i).2 := rfl
    refine ⟨j, by omega, i, hi, j, by omega, hg, ?_⟩
    rw [← cAt_get hi]
  · rintro ⟨j, hj, i, hi, j', hj', h1, h2⟩
    obtain ⟨e, _⟩ := quo_eq hj hj' h2
    rw [e]
    exact List.mem_map.2 ⟨_, cAt_mem hi, rfl⟩
theorem asc_frs {L : List Ca} (h : Asc L) : (frs L).Pairwise (· < ·) := by
  rw [List.pairwise_iff_getElem]
  intro i j hi hj hij
  unfold frs at hi hj ⊢
  rw [List.length_map] at hi hj
  rw [List.getElem_map, List.getElem_map, ← cAt_get hi, ← cAt_get hj]
  exact h i j hij hj
/-- a valid cache is determined by its used objects -/
theorem canon {S T : Sc} (V : Vd S) (W : Vd T) {m : Nat} (hm : S.ob = m) (hm2 : T.ob = m) (h : ∀ o, Ob m S.sl o ↔ Ob m T.sl o) : S.sl = T.sl := by
  have hf : ∀ f, f ∈ frs S.sl ↔ f ∈ frs T.sl := fun f => by
    rw [frs_ob V hm, frs_ob W hm2]
    exact ⟨fun ⟨j, hj, r⟩ => ⟨j, hj, (h _).1 r⟩, fun ⟨j, hj, r⟩ => ⟨j, hj, (h _).2 r⟩⟩
  have n1 := (asc_frs V.asc).imp (fun h => Int.ne_of_lt h)
  have n2 := (asc_frs W.asc).imp (fun h => Int.ne_of_lt h)
  have hp := (List.perm_ext_iff_of_nodup n1 n2).2 hf
  have he : frs S.sl = frs T.sl := hp.eq_of_pairwise (fun a b _ _ h1 h2 => absurd (Int.lt_trans h1 h2) (Int.lt_irrefl _)) (asc_frs V.asc) (asc_frs W.asc)
  have hl : S.sl.length = T.sl.length := by have := congrArg List.length he; unfold frs at this; rw [List.length_map, List.length_map] at this; exact this
  refine List.ext_getElem hl fun i h1 h2 => ?_
  have e1 : (cAt S.sl i).1 = (cAt T.sl i).1 := by
    have a : (frs S.sl)[i]'(by unfold frs; rw [List.length_map]; exact h1) = (frs T.sl)[i]'(by unfold frs; rw [List.length_map]; exact h2) := by simp only [he]
    unfold frs at a
    rw [List.getElem_map, List.getElem_map] at a
    rw [cAt_get h1, cAt_get h2]; exact a
  have l1 : (cAt S.sl i).2.length = m := by have := V.ln i h1; have e : us S i = (cAt S.sl i).2 := rfl; rw [e] at this; omega
  have l2 : (cAt T.sl i).2.length = m := by have := W.ln i h2; have e : us T i = (cAt T.sl i).2 := rfl; rw [e] at this; omega
  have key : ∀ {A B : Sc} (VA : Vd A) (hA : i < A.sl.length) (hB : i < B.sl.length) (e : (cAt A.sl i).1 = (cAt B.sl i).1) (hab : ∀ o, Ob m A.sl o → Ob m B.sl o) (VB : Vd B) (j : Nat), j < m → (cAt A.sl i).2.getD j false = true → (cAt B.sl i).2.getD j false = true := by
    intro A B VA hA hB e hab VB j hj hg
    obtain ⟨i', hi', j', hj', g1, g2⟩ := hab _ ⟨i, hA, j, hj, hg, rfl⟩
    obtain ⟨e3, e4⟩ := quo_eq hj hj' g2
    obtain rfl := VB.asc.inj hB hi' (e.symm.trans e3)
    subst e4
    exact g1
  have e2 : (cAt S.sl i).2 = (cAt T.sl i).2 := by
    refine List.ext_getElem (by omega) fun j j1 j2 => ?_
    have a1 := key V h1 h2 e1 (fun o => (h o).1) W j (by omega)
    have a2 := key W h2 h1 e1.symm (fun o => (h o).2) V j (by omega)
    rw [List.getD_eq_getElem?_getD, List.getD_eq_getElem?_getD, List.getElem?_eq_getElem j1, List.getElem?_eq_getElem j2] at a1 a2
    simp only [Option.getD_some] at a1 a2
    cases x : (cAt S.sl i).2[j] <;> cases y : (cAt T.sl i).2[j]
    · rfl
    · rw [a2 y] at x; cases x
    · rw [a1 x] at y; cases y
    · rfl
  rw [← cAt_get h1, ← cAt_get h2]
  exact Prod.ext e1 e2
/-- a list without the one at i -/
theorem cAt_cut {L : List Ca} {i q : Nat} (hi : i < L.length) : cAt (L.take i ++ L.drop (i + 1)) q = cAt L (if q < i then q else q + 1) := by
  rw [← List.eraseIdx_eq_take_drop_succ]
  unfold cAt
  rw [List.getD_eq_getElem?_getD, List.getD_eq_getElem?_getD, List.getElem?_eraseIdx]
  by_cases c : q < i
  · rw [if_pos c, if_pos c]
  · rw [if_neg c, if_neg c]
theorem cut_len {L : List Ca} {i : Nat} (hi : i < L.length) : (L.take i ++ L.drop (i + 1)).length + 1 = L.length := by
  rw [List.length_append, List.length_take, List.length_drop]; omega
/-- what Free does to the used objects, and the frame that it hands back -/
theorem free_facts {S : Sc} (V : Vd S) {m : Nat} (hm : S.ob = m) {o : Int} (hu : Ob m S.sl o) :
    fE S o = 0 ∧ fO S o = S.ob ∧ Vd ⟨S.ob, fL S o⟩ ∧ (∀ x, Ob m (fL S o) x ↔ Ob m S.sl x ∧ x ≠ o) ∧ ((fF S o = -1 ∧ frs (fL S o) = frs S.sl) ∨ (fF S o ≠ -1 ∧ fF S o ∈ frs S.sl ∧ fF S o ∉ frs (fL S o) ∧ ∀ f, f ∈ frs (fL S o) ↔ f ∈ frs S.sl ∧ f ≠ fF S o)) := by
  have hc := chk_of V
  have huf : uf S o = true := (uf_iff V o).2 ((ls_ob V hm).2 hu)
  have hE : fE S o = 0 := by unfold fE; rw [if_pos hc, if_pos huf]
  obtain ⟨i, hi, j, hj, h1, h2⟩ := hu
  have hl := V.ln i hi
  obtain ⟨-, -, eA, eI⟩ := fI_of V hi (j := j) (by omega) (o := o) (by rw [hm]; exact h2)
  have eC : fC S o = S.sl.set i (fr S i, (us S i).set j false) := by unfold fC; rw [eI, eA]
  have eZ : fZ S o = cnt ((us S i).set j false) := by unfold fZ; rw [eI, eA]
  have hfl : ((cAt S.sl i).2.set j false).length = m := by rw [List.length_set]; have e : us S i = (cAt S.sl i).2 := rfl; rw [e] at hl; omega
  have lm : (cAt S.sl i).2.length = m := by rw [List.length_set] at hfl; exact hfl
  have hb := V.ob
  -- the set of the objects of the list with the flag gone
  have obC : ∀ x, Ob m (fC S o) x ↔ Ob m S.sl x ∧ x ≠ o := fun x => by
    rw [eC]
    constructor
    · rintro ⟨i', hi', j', hj', g1, g2⟩
      rw [List.length_set] at hi'
      rw [cAt_set hi] at g1 g2
      by_cases e : i = i'
      · subst e
        rw [if_pos rfl] at g1 g2
        have g1' : ((us S i).set j false).getD j' false = true := g1
        rw [getD_set_eq (by have e : us S i = (cAt S.sl i).2 := rfl; rw [e]; omega)] at g1'
        by_cases ej : j = j'
        · rw [if_pos ej] at g1'; cases g1'
        · rw [if_neg ej] at g1'
          refine ⟨⟨i, hi, j', hj', g1', g2⟩, fun ex => ej ?_⟩
          have g3 : (cAt S.sl i).1 * (m : Int) + (j : Int) = (cAt S.sl i).1 * (m : Int) + (j' : Int) := h2.symm.trans (ex.symm.trans g2)
          exact (quo_eq hj hj' g3).2
      · rw [if_neg e] at g1 g2
        refine ⟨⟨i', hi', j', hj', g1, g2⟩, fun ex => e ?_⟩
        have g3 := h2.symm.trans (ex.symm.trans g2)
        exact V.asc.inj hi hi' (quo_eq hj hj' g3).1
    · rintro ⟨⟨i', hi', j', hj', g1, g2⟩, hne⟩
      refine ⟨i', by rw [List.length_set]; exact hi', j', hj', ?_, ?_⟩
      · rw [cAt_set hi]
        by_cases e : i = i'
        · subst e
          rw [if_pos rfl]
          show ((us S i).set j false).getD j' false = true
          rw [getD_set_eq (by have e : us S i = (cAt S.sl i).2 := rfl; rw [e]; omega)]
          by_cases ej : j = j'
          · subst ej; exact absurd (g2.trans h2.symm) hne
          · rw [if_neg ej]; exact g1
        · rw [if_neg e]; exact g1
      · rw [cAt_set hi]
        by_cases e : i = i'
        · subst e; rw [if_pos rfl]; exact g2
        · rw [if_neg e]; exact g2
  have frC : ∀ q, (cAt (fC S o) q).1 = (cAt S.sl q).1 := fun q => by
    rw [eC, cAt_set hi]
    by_cases e : i = q
    · subst e; rw [if_pos rfl]; rfl
    · rw [if_neg e]
  have lC : (fC S o).length = S.sl.length := by rw [eC, List.length_set]
  refine ⟨hE, if_pos hE, ?_⟩
  by_cases hz : fZ S o = 0
  · -- the slab goes
    have hL : fL S o = S.sl.take i ++ S.sl.drop (i + 1) := by unfold fL; rw [if_pos hE, if_pos hz, eI]
    have hF : fF S o = fr S i := by unfold fF; rw [if_pos hE, if_pos hz, eI]
    have hcl := cut_len hi
    have only : ∀ j', j' < m → (cAt S.sl i).2.getD j' false = true → j' = j := fun j' hj' hg => by
      by_cases e : j = j'
      · exact e.symm
      · exfalso
        rw [eZ] at hz
        have : 0 < cnt ((us S i).set j false) := cnt_ex.2 ⟨j', by rw [List.length_set]; have e : us S i = (cAt S.sl i).2 := rfl; rw [e]; omega, by
          rw [getD_set_eq (by have e : us S i = (cAt S.sl i).2 := rfl; rw [e]; omega), if_neg e]; exact hg⟩
        omega
    have hfm : ∀ f, f ∈ frs (fL S o) ↔ f ∈ frs S.sl ∧ f ≠ fr S i := fun f => by
      rw [hL]
      constructor
      · intro h
        obtain ⟨c, hc, rfl⟩ := List.mem_map.1 h
        obtain ⟨q, hq, rfl⟩ := List.mem_iff_getElem.1 hc
        rw [← cAt_get hq, cAt_cut hi]
        have hq2 : (if q < i then q else q + 1) < S.sl.length := by split <;> omega
        refine ⟨List.mem_map.2 ⟨_, cAt_mem hq2, rfl⟩, fun e => ?_⟩
        have := V.asc.inj hq2 hi e
        split at this <;> omega
      · rintro ⟨h, hne⟩
        obtain ⟨c, hc, rfl⟩ := List.mem_map.1 h
        obtain ⟨q, hq, rfl⟩ := List.mem_iff_getElem.1 hc
        have hqi : q ≠ i := fun e => hne (by subst e; rw [← cAt_get hq]; rfl)
        by_cases c : q < i
        · refine List.mem_map.2 ⟨cAt (S.sl.take i ++ S.sl.drop (i + 1)) q, cAt_mem (by omega), ?_⟩
          rw [cAt_cut hi, if_pos c, cAt_get hq]
        · refine List.mem_map.2 ⟨cAt (S.sl.take i ++ S.sl.drop (i + 1)) (q - 1), cAt_mem (by omega), ?_⟩
          rw [cAt_cut hi, if_neg (by omega), show q - 1 + 1 = q by omega, cAt_get hq]
    refine ⟨⟨hb, fun k hk => ?_, fun k hk => ?_, fun k hk => ?_, fun k hk => ?_⟩, fun x => ?_, .inr ⟨?_, ?_, ?_, ?_⟩⟩
    · change k < (fL S o).length at hk
      rw [hL] at hk
      show 0 ≤ (cAt (fL S o) k).1 ∧ (cAt (fL S o) k).1 < 256
      rw [hL, cAt_cut hi]; exact V.fr _ (by split <;> omega)
    · change k + 1 < (fL S o).length at hk
      rw [hL] at hk
      show (cAt (fL S o) k).1 < (cAt (fL S o) (k + 1)).1
      rw [hL, cAt_cut hi, cAt_cut hi]
      exact V.asc _ _ (by split <;> split <;> omega) (by split <;> omega)
    · change k < (fL S o).length at hk
      rw [hL] at hk
      show ((cAt (fL S o) k).2.length : Int) = S.ob
      rw [hL, cAt_cut hi]; exact V.ln _ (by split <;> omega)
    · change k < (fL S o).length at hk
      rw [hL] at hk
      show 0 < cnt (cAt (fL S o) k).2
      rw [hL, cAt_cut hi]; exact V.us _ (by split <;> omega)
    · rw [hL]
      constructor
      · rintro ⟨i', hi', j', hj', g1, g2⟩
        rw [cAt_cut hi] at g1 g2
        have hq2 : (if i' < i then i' else i' + 1) < S.sl.length := by split <;> omega
        refine ⟨⟨_, hq2, j', hj', g1, g2⟩, fun ex => ?_⟩
        have g3 := h2.symm.trans (ex.symm.trans g2)
        have := V.asc.inj hi hq2 (quo_eq hj hj' g3).1
        split at this <;> omega
      · rintro ⟨⟨i', hi', j', hj', g1, g2⟩, hne⟩
        have hii : i' ≠ i := fun e => by
          subst e
          exact hne (by rw [g2, h2, only j' hj' g1])
        by_cases c : i' < i
        · exact ⟨i', by omega, j', hj', by rw [cAt_cut hi, if_pos c]; exact g1, by rw [cAt_cut hi, if_pos c]; exact g2⟩
        · exact ⟨i' - 1, by omega, j', hj', by rw [cAt_cut hi, if_neg (by omega), show i' - 1 + 1 = i' by omega]; exact g1, by rw [cAt_cut hi, if_neg (by omega), show i' - 1 + 1 = i' by omega]; exact g2⟩
    · rw [hF]; have := (V.fr i hi).1; omega
    · rw [hF]; exact List.mem_map.2 ⟨_, cAt_mem hi, rfl⟩
    · rw [hfm, hF]; exact fun h => h.2 rfl
    · intro f; rw [hfm, hF]
  · -- the slab stays
    have hL : fL S o = fC S o := by unfold fL; rw [if_pos hE, if_neg hz]
    have hF : fF S o = -1 := by unfold fF; rw [if_pos hE, if_neg hz]
    refine ⟨⟨hb, fun k hk => ?_, fun k hk => ?_, fun k hk => ?_, fun k hk => ?_⟩, fun x => by rw [hL]; exact obC x, .inl ⟨hF, ?_⟩⟩
    · change k < (fL S o).length at hk
      rw [hL, lC] at hk
      show 0 ≤ (cAt (fL S o) k).1 ∧ (cAt (fL S o) k).1 < 256
      rw [hL, frC]; exact V.fr k hk
    · change k + 1 < (fL S o).length at hk
      rw [hL, lC] at hk
      show (cAt (fL S o) k).1 < (cAt (fL S o) (k + 1)).1
      rw [hL, frC, frC]; exact V.up k hk
    · change k < (fL S o).length at hk
      rw [hL, lC] at hk
      show ((cAt (fL S o) k).2.length : Int) = S.ob
      rw [hL, eC, cAt_set hi]
      by_cases e : i = k
      · subst e
        rw [if_pos rfl]
        show (((us S i).set j false).length : Int) = S.ob
        rw [List.length_set]; exact hl
      · rw [if_neg e]; exact V.ln k hk
    · change k < (fL S o).length at hk
      rw [hL, lC] at hk
      show 0 < cnt (cAt (fL S o) k).2
      rw [hL, eC, cAt_set hi]
      by_cases e : i = k
      · subst e
        rw [if_pos rfl]
        show 0 < cnt ((us S i).set j false)
        rw [eZ] at hz; omega
      · rw [if_neg e]; exact V.us k hk
    · rw [hL]
      unfold frs
      refine List.ext_getElem (by rw [List.length_map, List.length_map, lC]) fun q q1 q2 => ?_
      rw [List.length_map] at q1 q2
      rw [List.getElem_map, List.getElem_map, ← cAt_get q1, ← cAt_get q2]
      exact frC q
/-- all frames that are put in are there -/
theorem alZs_frs {n m : Nat} : ∀ (zs : Is) (s : List Ca × Is) (x : Int), x ∈ frs (zs.foldl (alZ n m) s).1 ↔ x ∈ frs s.1 ∨ x ∈ zs
  | [], s, x => by simp
  | z :: zs, s, x => by
    show x ∈ frs (zs.foldl (alZ n m) (alZ n m s z)).1 ↔ _
    rw [alZs_frs zs, List.mem_cons]
    have : x ∈ frs (alZ n m s z).1 ↔ x = z ∨ x ∈ frs s.1 := frs_ins
    rw [this]
    constructor
    · rintro ((h | h) | h)
      · exact .inr (.inl h)
      · exact .inl h
      · exact .inr (.inr h)
    · rintro (h | h | h)
      · exact .inl (.inr h)
      · exact .inl (.inl h)
      · exact .inr h
theorem al_frs {S : Sc} {n : Int} {fs : Is} (h : alE S n fs = 0) : (∀ x, x ∈ frs (alL S n fs) ↔ x ∈ frs S.sl ∨ x ∈ fs) ∧ (∀ f, f ∈ fs → f ∉ frs S.sl) ∧ fs.Nodup ∧ chE S = 0 := by
  have hch : chE S = 0 := by
    by_cases c : chE S = 0
    · exact c
    · unfold alE at h; rw [if_neg c] at h; exact absurd h c
  have h1 := h
  unfold alE at h1
  rw [if_pos hch] at h1
  have hc : ¬ (n < 1 ∨ (fs.length : Int) ≠ ndN S n) := fun c => by rw [if_pos c] at h1; omega
  rw [if_neg hc] at h1
  obtain ⟨f1, f2⟩ := feE_ok _ _ h1
  refine ⟨fun x => ?_, fun f hf => (f1 f hf).2, f2, hch⟩
  have e : frs (alK n.toNat S.sl S.sl.length).1 = frs S.sl := by
    unfold frs
    refine List.ext_getElem (by rw [List.length_map, List.length_map, alK_len]) fun q q1 q2 => ?_
    rw [List.length_map] at q1 q2
    rw [List.getElem_map, List.getElem_map, ← cAt_get q1, ← cAt_get q2]
    exact alK_fr n.toNat S.sl _ q (Nat.le_refl _)
  have eL : alL S n fs = (alR S n fs).1 := if_pos h
  rw [eL]
  unfold alR
  rw [alZs_frs, e, srt_mem]
/-- while what was allocated is freed again, in order -/
structure Bk (S : Sc) (m : Nat) (li fs : Is) (k : Nat) (L : List Ca) (bk : Is) : Prop where
  vd : Vd ⟨S.ob, L⟩
  ob : ∀ o, Ob m L o ↔ Ob m S.sl o ∨ o ∈ li.drop k
  nd : bk.Nodup
  out : ∀ f, f ∈ bk → f ∈ fs ∧ f ∉ frs L
  all : ∀ f, f ∈ fs → f ∈ frs L ∨ f ∈ bk
  sub : ∀ f, f ∈ frs L → f ∈ frs S.sl ∨ f ∈ fs
  len : bk.length ≤ k
theorem Bk.start {S : Sc} {n : Int} {fs : Is} (h : alE S n fs = 0) {m : Nat} (hm : S.ob = m) : Bk S m (alI S n fs) fs 0 (alL S n fs) [] := by
  obtain ⟨f1, f2, f3, f4, f5⟩ := al_facts h
  obtain ⟨g1, g2, g3, g4⟩ := al_frs h
  have V := vd_of g4
  have VT := vd_of f1
  refine ⟨VT, fun o => ?_, List.nodup_nil, fun f hf => (by cases hf), fun f hf => .inl ((g1 f).2 (.inr hf)), fun f hf => (g1 f).1 hf, Nat.le_refl _⟩
  have a := f2 o
  have oS : obj S = ls S true S.sl.length := if_pos g4
  have oT : obj ⟨S.ob, alL S n fs⟩ = ls ⟨S.ob, alL S n fs⟩ true (alL S n fs).length := if_pos f1
  rw [oS, oT] at a
  have a1 := ls_ob VT (m := m) hm (o := o)
  have a2 := ls_ob V hm (o := o)
  rw [List.drop_zero]
  exact (a1.symm.trans a).trans (or_congr_left a2)
/-- one object more is freed: what Free answers, and what is known then -/
theorem Bk.step {S : Sc} {m : Nat} {li fs : Is} {k : Nat} {L : List Ca} {bk : Is} (h : Bk S m li fs k L bk) (hm : S.ob = m) (V : Vd S) (hnd : li.Nodup) (hnew : ∀ x, x ∈ li → ¬ Ob m S.sl x) (hk : k < li.length) :
    fE ⟨S.ob, L⟩ (li.getD k 0) = 0 ∧ fO ⟨S.ob, L⟩ (li.getD k 0) = S.ob ∧ ((fF ⟨S.ob, L⟩ (li.getD k 0) = -1 ∧ Bk S m li fs (k + 1) (fL ⟨S.ob, L⟩ (li.getD k 0)) bk) ∨
      (fF ⟨S.ob, L⟩ (li.getD k 0) ≠ -1 ∧ fF ⟨S.ob, L⟩ (li.getD k 0) ∉ bk ∧ fF ⟨S.ob, L⟩ (li.getD k 0) ∈ fs ∧ Bk S m li fs (k + 1) (fL ⟨S.ob, L⟩ (li.getD k 0)) (bk ++ [fF ⟨S.ob, L⟩ (li.getD k 0)]))) := by
  have ed : li.drop k = li.getD k 0 :: li.drop (k + 1) := by
    rw [List.getD_eq_getElem?_getD, List.getElem?_eq_getElem hk, List.drop_eq_getElem_cons hk]; rfl
  generalize li.getD k 0 = o at *
  have ho : Ob m L o := (h.ob o).2 (.inr (by rw [ed]; exact List.mem_cons_self ..))
  have hol : o ∈ li := List.mem_of_mem_drop (by rw [ed]; exact List.mem_cons_self ..)
  have hnk : o ∉ li.drop (k + 1) := by
    have := hnd.sublist (List.drop_sublist k li)
    rw [ed] at this
    exact (List.nodup_cons.1 this).1
  obtain ⟨a1, a2, a3, a4, a5⟩ := free_facts h.vd (m := m) hm ho
  generalize fL ⟨S.ob, L⟩ o = T at *
  generalize fF ⟨S.ob, L⟩ o = f at *
  have ob' : ∀ x, Ob m T x ↔ Ob m S.sl x ∨ x ∈ li.drop (k + 1) := fun x => by
    have b1 := h.ob x
    rw [ed, List.mem_cons] at b1
    rw [a4]
    constructor
    · rintro ⟨c1, c2⟩
      rcases b1.1 c1 with c | c | c
      · exact .inl c
      · exact absurd c c2
      · exact .inr c
    · rintro (c | c)
      · exact ⟨b1.2 (.inl c), fun e => hnew o hol (e ▸ c)⟩
      · exact ⟨b1.2 (.inr (.inr c)), fun e => hnk (e ▸ c)⟩
  have hl := h.len
  refine ⟨a1, a2, ?_⟩
  rcases a5 with ⟨c1, c2⟩ | ⟨c1, c2, c3, c4⟩
  · exact .inl ⟨c1, a3, ob', h.nd, fun f' hf => (by rw [c2]; exact h.out f' hf), fun f' hf => (by rw [c2]; exact h.all f' hf), fun f' hf => h.sub f' (by rw [← c2]; exact hf), by omega⟩
  · have hfb : f ∉ bk := fun c => (h.out f c).2 c2
    have hff : f ∈ fs := by
      rcases h.sub f c2 with c | c
      · exfalso
        obtain ⟨j, hj, r⟩ := (frs_ob V hm).1 c
        exact c3 ((frs_ob a3 (m := m) hm).2 ⟨j, hj, (ob' _).2 (.inl r)⟩)
      · exact c
    refine .inr ⟨c1, hfb, hff, a3, ob', ?_, fun f' hf => ?_, fun f' hf => ?_, fun f' hf => h.sub f' ((c4 f').1 hf).1, by rw [List.length_append, List.length_singleton]; omega⟩
    · exact List.nodup_append.2 ⟨h.nd, List.nodup_cons.2 ⟨by simp, List.nodup_nil⟩, fun a ha b hb e => hfb (by rw [List.mem_singleton] at hb; rw [← hb, ← e]; exact ha)⟩
    · rcases List.mem_append.1 hf with c | c
      · exact ⟨(h.out f' c).1, fun d => (h.out f' c).2 ((c4 f').1 d).1⟩
      · rw [List.mem_singleton] at c
        subst c
        exact ⟨hff, c3⟩
    · rw [List.mem_append, List.mem_singleton]
      by_cases e : f' = f
      · exact .inr (.inr e)
      · rcases h.all f' hf with c | c
        · exact .inl ((c4 f').2 ⟨c, e⟩)
        · exact .inr (.inl c)
theorem Bk.fin {S : Sc} {m : Nat} {li fs : Is} {L : List Ca} {bk : Is} (h : Bk S m li fs li.length L bk) (hm : S.ob = m) (V : Vd S) (hnf : ∀ f, f ∈ fs → f ∉ frs S.sl) (hfs : fs.Nodup) : L = S.sl ∧ bk.length = fs.length := by
  have e : L = S.sl := canon (S := ⟨S.ob, L⟩) (T := S) h.vd V hm hm (fun o => by
    have := h.ob o
    rw [List.drop_eq_nil_of_le (Nat.le_refl _)] at this
    simpa using this)
  refine ⟨e, ?_⟩
  have hp := (List.perm_ext_iff_of_nodup h.nd hfs).2 (fun f => ⟨fun c => (h.out f c).1, fun c => by
    rcases h.all f c with d | d
    · rw [e] at d; exact absurd d (hnf f c)
    · exact d⟩)
  exact hp.length_eq
end Go.Proofs.Ytncjicggolmofaa.Sb
