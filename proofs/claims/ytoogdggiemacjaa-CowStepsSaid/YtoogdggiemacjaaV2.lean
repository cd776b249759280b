import Derived.Test.YtoogdggiemacjaaV1
namespace Go.Proofs.Ytoogdggiemacjaa.Cw
open Go Go.RowKit
set_option linter.unusedVariables false
set_option linter.unusedSimpArgs false
-- EXIT
theorem pAt_list {L L' : List Pg} (h : L.length = L'.length) (e : ∀ j, j < L.length → pAt L j = pAt L' j) : L = L' := by
  apply List.ext_getElem h
  intro i h1 h2
  have := e i h1
  rwa [pAt_get h1, pAt_get h2] at this
theorem ex_val {M : Cow} {n : Nat} (V : chE M = 0) (hn : n < M.sp.length) : ∀ k, k ≤ (sAt M.sp n).2.length → chE (exS M n k) = 0 ∧ (∀ j, j < k → pAt (sAt (exS M n k).sp n).2 j = (-1, false)) ∧ (exS M n k).sz = M.sz ∧ (exS M n k).cp = M.cp ∧ ∀ i, i ≠ n → sAt (exS M n k).sp i = sAt M.sp i
  | 0, _ => ⟨V, fun j hj => absurd hj (Nat.not_lt_zero _), rfl, rfl, fun _ _ => rfl⟩
  | k + 1, hk => by
    obtain ⟨h1, h2, h3, h4, h5⟩ := ex_val V hn k (by omega)
    obtain ⟨a, b, c, d, e⟩ := ex_facts hn k
    have hn' : n < (exS M n k).sp.length := by rw [a]; exact hn
    have hk' : k < (sAt (exS M n k).sp n).2.length := by rw [c]; omega
    have hl := hd_len (exS M n k) n k
    have ha := hd_at (M := exS M n k) (n := n) hn' k
    refine ⟨val_hd h1 hn' hk', fun j hj => ?_, hl.2.2.1.trans h3, hl.2.2.2.trans h4, fun i hi => ?_⟩
    · show pAt (sAt (hdG (exS M n k) n k).sp n).2 j = _
      rw [ha, pAt_set hk']
      split
      · rfl
      · exact h2 j (by omega)
    · show sAt (hdG (exS M n k) n k).sp i = _
      unfold hdG
      rw [setP_sp, drop_sp, sAt_set hn', if_neg hi]
      exact h5 i hi
theorem sAt_mem2 {S : List Sp} {s : Sp} (h : s ∈ S) : ∃ i, i < S.length ∧ sAt S i = s := by
  obtain ⟨i, hi, e⟩ := List.mem_iff_getElem.1 h
  exact ⟨i, hi, by rw [sAt_get hi]; exact e⟩
theorem val_kill {M : Cow} {n : Nat} (V : chE M = 0) (hn : n < M.sp.length) (hp : ∀ j, j < (sAt M.sp n).2.length → pAt (sAt M.sp n).2 j = (-1, false)) : chE (M.kill n) = 0 := by
  obtain ⟨z, f, s, a⟩ := chE_zero V
  have hm : ∀ t ∈ (M.kill n).sp, t ∈ M.sp ∨ t = (false, []) := fun t ht => List.mem_or_eq_of_mem_set ht
  refine chE_of ⟨?_, fun t ht => ?_, fun k hk => ?_, fun t ht r hr hr2 => ?_⟩
  · unfold szG at z ⊢
    show _ ∧ (1 ≤ (M.sp.set n _).length ∧ (M.sp.set n _).length ≤ 8) ∧ _
    rw [List.length_set]; exact z
  · rcases hm t ht with h | h
    · exact f t h
    · subst h; exact ⟨rfl, fun p hp => by cases hp⟩
  · have h1 := cnS_set (k : Int) M.sp n (false, []) hn
    have h2 : cnP (k : Int) (sAt M.sp n).2 = 0 := by
      unfold cnP
      rw [List.countP_eq_zero]
      intro q hq
      obtain ⟨i, hi, e⟩ := List.mem_iff_getElem.1 hq
      have := hp i hi
      rw [pAt_get hi, e] at this
      rw [this]
      simp
      try omega
    have h3 := s k hk
    refine ⟨?_, h3.2⟩
    show (fAt M.fr k).1 = (cnS (k : Int) (M.sp.set n (false, [])) : Int)
    rw [h3.1]
    have h4 : cnP (k : Int) ((false, []) : Sp).2 = 0 := rfl
    omega
  · rcases hm t ht with h | h
    · exact a t h r hr hr2
    · subst h; cases hr
theorem val_exit {M : Cow} {s : Int} (h : csE M s = 0) : chE (exG M s) = 0 := by
  obtain ⟨n, rfl, hn, hl, hz, _⟩ := space_at h
  have V := (csE_zero h).1
  have e : exG M n = (exS M n M.sz.toNat).kill n := by
    unfold exG
    rw [if_neg (fun g => g h), Int.toNat_natCast]
  rw [e]
  obtain ⟨a, b, c, d, _⟩ := ex_facts hn M.sz.toNat
  obtain ⟨h1, h2, _⟩ := ex_val V hn M.sz.toNat (by omega)
  exact val_kill h1 (by rw [a]; exact hn) (fun j hj => h2 j (by rw [c] at hj; omega))
-- FORK
/-- the pages of a space that has forked -/
def roP (L : List Pg) : List Pg := L.map fun p => (p.1, false)
theorem fk_val {M : Cow} {n : Nat} (V : chE M = 0) (hn : n < M.sp.length) : ∀ k, k ≤ (sAt M.sp n).2.length → sAt (fkS M n k).sp n = ((sAt M.sp n).1, roP ((sAt M.sp n).2.take k) ++ (sAt M.sp n).2.drop k) ∧ (∀ i, i ≠ n → sAt (fkS M n k).sp i = sAt M.sp i) ∧ ∀ j, j < M.fr.length → fAt (fkS M n k).fr j = ((fAt M.fr j).1 + (cnP (j : Int) ((sAt M.sp n).2.take k) : Nat), (fAt M.fr j).2)
  | 0, _ => ⟨by simp [fkS, roP], fun _ _ => rfl, fun j _ => by simp [fkS, cnP]⟩
  | k + 1, hk => by
    obtain ⟨h1, h2, h3⟩ := fk_val V hn k (by omega)
    obtain ⟨a, b, c, d, _⟩ := fk_facts hn k
    have hn' : n < (fkS M n k).sp.length := by rw [a]; exact hn
    have hkl : k < (sAt M.sp n).2.length := by omega
    have hp := d k (Nat.le_refl _) hkl
    have et := pAt_snoc hkl
    refine ⟨?_, fun i hi => ?_, fun j hj => ?_⟩
    · show sAt (pgStep (fkS M n k) n k).sp n = _
      rw [step_sp, sAt_set hn', if_pos rfl, hp, h1]
      refine Prod.ext rfl ?_
      dsimp only
      have hl : (roP ((sAt M.sp n).2.take k)).length = k := by unfold roP; rw [List.length_map, List.length_take]; omega
      rw [List.set_append_right _ _ (by omega), hl, Nat.sub_self, et]
      unfold roP
      rw [List.map_append, List.append_assoc]
      congr 1
      rw [List.drop_eq_getElem_cons hkl]
      rfl
    · show sAt (pgStep (fkS M n k) n k).sp i = _
      rw [step_sp, sAt_set hn', if_neg hi]
      exact h2 i hi
    · show fAt (pgStep (fkS M n k) n k).fr j = _
      rw [et, cnP_snoc]
      unfold pgStep
      rw [hp]
      split
      · rename_i h0
        rw [if_neg (by omega)]
        show fAt (fkS M n k).fr j = _
        rw [h3 j hj]; simp
      · rename_i h0
        obtain ⟨q, hq⟩ := Int.eq_ofNat_of_zero_le (show 0 ≤ (pAt (sAt M.sp n).2 k).1 by omega)
        have hql := (shown_pos V hn hkl hq).1
        rw [hq, Int.toNat_natCast]
        unfold Cow.setF
        show fAt ((fkS M n k).fr.set q _) j = _
        rw [fAt_set (by rw [b]; exact hql)]
        by_cases e : j = q
        · subst e
          rw [if_pos rfl, if_pos rfl, h3 j hj]
          refine Prod.ext ?_ rfl
          dsimp only
          push_cast
          omega
        · rw [if_neg e, if_neg (by omega), h3 j hj]; simp
theorem cnP_ro (f : Int) (L : List Pg) : cnP f (roP L) = cnP f L := by
  unfold cnP roP
  rw [List.countP_map]
  rfl
theorem roP_len (L : List Pg) : (roP L).length = L.length := by unfold roP; simp
theorem roP_mem {L : List Pg} {q : Pg} (h : q ∈ roP L) : q.2 = false ∧ ∃ p ∈ L, p.1 = q.1 := by
  obtain ⟨p, hp, e⟩ := List.mem_map.1 h
  subst e
  exact ⟨rfl, p, hp, rfl⟩
theorem val_fork {M : Cow} {n : Nat} (V : chE M = 0) (hn : n < M.sp.length) (hl : (sAt M.sp n).1 = true) (h8 : M.sp.length ≠ 8) : chE ((fkS M n M.sz.toNat).add (sAt (fkS M n M.sz.toNat).sp n).2) = 0 := by
  obtain ⟨z, f, s, a⟩ := chE_zero V
  have hz : ((sAt M.sp n).2.length : Int) = M.sz := by
    have := (f _ (sAt_mem hn)).1
    unfold lnG at this
    rw [hl] at this
    simpa using this
  have hk : M.sz.toNat = (sAt M.sp n).2.length := by omega
  rw [hk]
  obtain ⟨fa, fb, fc, _, _⟩ := fk_facts hn (sAt M.sp n).2.length
  obtain ⟨h1, h2, h3⟩ := fk_val V hn (sAt M.sp n).2.length (Nat.le_refl _)
  have hsc := fk_szcp M n (sAt M.sp n).2.length
  rw [List.take_length] at h1 h3
  rw [List.drop_length, List.append_nil] at h1
  generalize fkS M n (sAt M.sp n).2.length = R at *
  have eP : (sAt R.sp n).2 = roP (sAt M.sp n).2 := by rw [h1]
  have eS : R.sp = M.sp.set n (true, roP (sAt M.sp n).2) := by
    apply List.ext_getElem (by rw [fa]; simp)
    intro i g1 g2
    rw [← sAt_get g1, ← sAt_get g2, sAt_set hn]
    by_cases e : i = n
    · subst e; rw [if_pos rfl, h1, hl]
    · rw [if_neg e]; exact h2 i e
  rw [eP]
  have hc : ∀ q : Int, cnS q (R.add (roP (sAt M.sp n).2)).sp = cnS q M.sp + cnP q (sAt M.sp n).2 := fun q => by
    show cnS q (R.sp ++ [(true, roP (sAt M.sp n).2)]) = _
    rw [cnS_snoc, eS]
    have := cnS_set q M.sp n (true, roP (sAt M.sp n).2) hn
    dsimp only at this ⊢
    rw [cnP_ro] at this ⊢
    omega
  have ms : ∀ t ∈ (R.add (roP (sAt M.sp n).2)).sp, (∃ i, i < M.sp.length ∧ i ≠ n ∧ t = sAt M.sp i) ∨ t = (true, roP (sAt M.sp n).2) := fun t ht => by
    rcases List.mem_append.1 ht with h | h
    · rw [eS] at h
      obtain ⟨i, hi, e⟩ := sAt_mem2 h
      rw [List.length_set] at hi
      rw [sAt_set hn] at e
      by_cases e2 : i = n
      · rw [if_pos e2] at e; exact .inr e.symm
      · rw [if_neg e2] at e; exact .inl ⟨i, hi, e2, e.symm⟩
    · rw [List.mem_singleton.1 h]; exact .inr rfl
  refine chE_of ⟨?_, fun t ht => ?_, fun k hk => ?_, fun t ht r hr hr2 => ?_⟩
  · unfold szG at z ⊢
    show (1 ≤ R.sz ∧ R.sz ≤ 512) ∧ (1 ≤ (R.sp ++ _).length ∧ (R.sp ++ _).length ≤ 8) ∧ (1 ≤ R.fr.length ∧ R.fr.length ≤ 256) ∧ 0 ≤ R.cp ∧ R.cp ≤ 1048576
    rw [List.length_append, fa, fb, hsc.1, hsc.2, List.length_singleton]
    omega
  · show spG R.sz R.fr.length t
    rw [hsc.1, fb]
    rcases ms t ht with ⟨i, hi, _, e⟩ | e
    · rw [e]; exact f _ (sAt_mem hi)
    · subst e
      refine ⟨?_, fun p hp => ?_⟩
      · unfold lnG
        simp only [if_true, roP_len]; exact hz
      · obtain ⟨g1, p0, g2, g3⟩ := roP_mem hp
        rcases (f _ (sAt_mem hn)).2 p0 g2 with g | g
        · left
          rw [g] at g3
          exact Prod.ext g3.symm g1
        · right; rw [← g3]; exact g
  · have hk' : k < M.fr.length := by have : k < R.fr.length := hk
                                     omega
    have h4 := s k hk'
    show (fAt R.fr k).1 = (cnS (k : Int) (R.add (roP (sAt M.sp n).2)).sp : Int) ∧ ((fAt R.fr k).1 = 0 → (fAt R.fr k).2 = 0)
    rw [hc, h3 k hk']
    refine ⟨by dsimp only; rw [h4.1]; push_cast; rfl, fun g => ?_⟩
    dsimp only at g ⊢
    exact h4.2 (by have := h4.1; omega)
  · rcases ms t ht with ⟨i, hi, hin, e⟩ | e
    · subst e
      have o1 := a _ (sAt_mem hi) r hr hr2
      have o2 := (f _ (sAt_mem hi)).2 r hr
      rcases o2 with o2 | o2
      · rw [o2] at hr2; cases hr2
      · obtain ⟨k, hk⟩ := Int.eq_ofNat_of_zero_le o2.1
        have hkl : k < M.fr.length := by omega
        show (fAt R.fr r.1.toNat).1 = 1
        rw [hk, Int.toNat_natCast] at o1 ⊢
        rw [h3 k hkl]
        have c1 := cnS_set r.1 M.sp n (false, []) hn
        have c2 : 1 ≤ cnS r.1 (M.sp.set n (false, [])) := cnS_pos (s := sAt M.sp i) (by
          have : sAt (M.sp.set n (false, [])) i = sAt M.sp i := by rw [sAt_set hn, if_neg hin]
          rw [← this]
          exact sAt_mem (by rw [List.length_set]; exact hi)) hr
        have c3 := (s k hkl).1
        rw [hk] at c1 c2
        have c4 : cnP (k : Int) ((false, []) : Sp).2 = 0 := rfl
        dsimp only
        omega
    · subst e
      have := (roP_mem hr).1
      rw [this] at hr2; cases hr2
end Go.Proofs.Ytoogdggiemacjaa.Cw
