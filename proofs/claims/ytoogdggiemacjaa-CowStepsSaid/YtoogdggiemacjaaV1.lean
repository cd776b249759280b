import Derived.Test.YtoogdggiemacjaaF19
namespace Go.Proofs.Ytoogdggiemacjaa.Cw
open Go Go.RowKit
set_option linter.unusedVariables false
set_option linter.unusedSimpArgs false
theorem cnP_set (f : Int) : ∀ (L : List Pg) (m : Nat) (q : Pg), m < L.length → cnP f (L.set m q) + (if (pAt L m).1 = f then 1 else 0) = cnP f L + (if q.1 = f then 1 else 0)
  | a :: l, 0, q, _ => by
    have e : pAt (a :: l) 0 = a := rfl
    unfold cnP
    rw [e, List.set_cons_zero, List.countP_cons, List.countP_cons]
    simp only [beq_iff_eq]
    omega
  | a :: l, m + 1, q, h => by
    have e : pAt (a :: l) (m + 1) = pAt l m := rfl
    have ih := cnP_set f l m q (by simpa using h)
    unfold cnP at ih ⊢
    rw [e, List.set_cons_succ, List.countP_cons, List.countP_cons]
    omega
theorem cnS_cons (f : Int) (s : Sp) (S : List Sp) : cnS f (s :: S) = cnP f s.2 + cnS f S := by unfold cnS; simp
theorem cnS_set (f : Int) : ∀ (S : List Sp) (n : Nat) (s : Sp), n < S.length → cnS f (S.set n s) + cnP f (sAt S n).2 = cnS f S + cnP f s.2
  | a :: l, 0, s, _ => by
    have e : sAt (a :: l) 0 = a := rfl
    rw [e, List.set_cons_zero, cnS_cons, cnS_cons]; omega
  | a :: l, n + 1, s, h => by
    have e : sAt (a :: l) (n + 1) = sAt l n := rfl
    have ih := cnS_set f l n s (by simpa using h)
    rw [e, List.set_cons_succ, cnS_cons, cnS_cons]; omega
theorem cnS_pos {S : List Sp} {s : Sp} {q : Pg} (hs : s ∈ S) (hq : q ∈ s.2) : 1 ≤ cnS q.1 S := by
  induction S with
  | nil => cases hs
  | cons a l ih =>
    rw [cnS_cons]
    rcases List.mem_cons.1 hs with rfl | h
    · have : 0 < cnP q.1 s.2 := by
        unfold cnP
        exact List.countP_pos_iff.2 ⟨q, hq, by simp⟩
      omega
    · have := ih h; omega
/-- a page of some space -/
def Pgs (S : List Sp) (q : Pg) : Prop := ∃ s ∈ S, q ∈ s.2
theorem setP_sp (M : Cow) (n m : Nat) (q : Pg) : (M.setP n m q).sp = M.sp.set n ((sAt M.sp n).1, (sAt M.sp n).2.set m q) := rfl
theorem pgs_setP {M : Cow} {n m : Nat} {q r : Pg} (hn : n < M.sp.length) (h : Pgs (M.setP n m q).sp r) : r = q ∨ Pgs M.sp r := by
  obtain ⟨s, hs, hr⟩ := h
  rw [setP_sp] at hs
  rcases List.mem_or_eq_of_mem_set hs with h1 | h1
  · exact .inr ⟨s, h1, hr⟩
  · subst h1
    rcases List.mem_or_eq_of_mem_set hr with h2 | h2
    · exact .inr ⟨_, sAt_mem hn, h2⟩
    · exact .inl h2
theorem cnS_setP {M : Cow} {n m : Nat} {q : Pg} (hn : n < M.sp.length) (hm : m < (sAt M.sp n).2.length) (f : Int) : cnS f (M.setP n m q).sp + (if (pAt (sAt M.sp n).2 m).1 = f then 1 else 0) = cnS f M.sp + (if q.1 = f then 1 else 0) := by
  have h1 := cnS_set f M.sp n ((sAt M.sp n).1, (sAt M.sp n).2.set m q) hn
  have h2 := cnP_set f (sAt M.sp n).2 m q hm
  rw [setP_sp]
  dsimp only at h1
  omega
theorem fm_setP {M : Cow} {n m : Nat} {q : Pg} (h : fmG M) (hn : n < M.sp.length) (hq : pgG M.fr.length q) : ∀ s ∈ (M.setP n m q).sp, spG M.sz M.fr.length s := by
  intro s hs
  rw [setP_sp] at hs
  rcases List.mem_or_eq_of_mem_set hs with h1 | h1
  · exact h s h1
  · subst h1
    obtain ⟨g1, g2⟩ := h _ (sAt_mem hn)
    refine ⟨?_, fun p hp => ?_⟩
    · unfold lnG at g1 ⊢
      simpa using g1
    · rcases List.mem_or_eq_of_mem_set hp with h2 | h2
      · exact g2 p h2
      · rw [h2]; exact hq
/-- when one page is changed, and the frames as they must be, the machine stays valid -/
theorem val_of {M R : Cow} {n m : Nat} {q : Pg} (V : chE M = 0) (hn : n < M.sp.length) (hm : m < (sAt M.sp n).2.length) (hq : pgG M.fr.length q)
    (e1 : R.sz = M.sz) (e2 : R.sp = (M.setP n m q).sp) (e3 : R.fr.length = M.fr.length) (e4 : 0 ≤ R.cp ∧ R.cp ≤ 1048576)
    (hc : ∀ k, k < M.fr.length → (fAt R.fr k).1 + (if (pAt (sAt M.sp n).2 m).1 = k then 1 else 0) = (fAt M.fr k).1 + (if q.1 = k then 1 else 0))
    (hw : ∀ k, k < M.fr.length → (fAt R.fr k).1 = 0 → (fAt R.fr k).2 = 0)
    (hg : wrG R.fr q) (hd : q.1 < 0 ∨ q.1 = (pAt (sAt M.sp n).2 m).1 ∨ (fAt M.fr q.1.toNat).1 = 0) : chE R = 0 := by
  obtain ⟨z, f, s, a⟩ := chE_zero V
  have hs : stG R := by
    intro k hk
    rw [e3] at hk
    refine ⟨?_, hw k hk⟩
    have h1 := (s k hk).1
    have h2 := hc k hk
    have h3 := cnS_setP (q := q) hn hm (k : Int)
    rw [e2]
    by_cases a1 : (pAt (sAt M.sp n).2 m).1 = (k : Int)
    · rw [if_pos a1] at h2 h3
      by_cases a2 : q.1 = (k : Int)
      · rw [if_pos a2] at h2 h3; omega
      · rw [if_neg a2] at h2 h3; omega
    · rw [if_neg a1] at h2 h3
      by_cases a2 : q.1 = (k : Int)
      · rw [if_pos a2] at h2 h3; omega
      · rw [if_neg a2] at h2 h3; omega
  refine chE_of ⟨?_, ?_, hs, ?_⟩
  · unfold szG at z ⊢
    rw [e1, e2, e3, setP_sp, List.length_set]
    omega
  · intro t ht
    rw [e2] at ht
    rw [e1, e3]
    exact fm_setP f hn hq t ht
  · intro t ht r hr hr2
    have hp : Pgs R.sp r := ⟨t, ht, hr⟩
    have hp' := hp
    rw [e2] at hp'
    rcases pgs_setP hn hp' with h1 | ⟨t2, ht2, hr3⟩
    · rw [h1]; exact hg (h1 ▸ hr2)
    · have o1 := a t2 ht2 r hr3 hr2
      have o2 := (f t2 ht2).2 r hr3
      rcases o2 with o2 | o2
      · rw [o2] at hr2; cases hr2
      · obtain ⟨k, hk⟩ := Int.eq_ofNat_of_zero_le o2.1
        have hkl : k < M.fr.length := by omega
        have c1 := hc k hkl
        have c2 := (hs k (by rw [e3]; exact hkl)).1
        have c3 := cnS_pos ht hr
        rw [hk] at c3 o1 ⊢
        rw [Int.toNat_natCast] at o1 ⊢
        have hd' : q.1 = (k : Int) → (pAt (sAt M.sp n).2 m).1 = (k : Int) := fun e => by
          rcases hd with d | d | d
          · omega
          · omega
          · rw [e, Int.toNat_natCast] at d; omega
        by_cases e5 : q.1 = (k : Int)
        · have := hd' e5
          rw [if_pos e5, if_pos this] at c1
          omega
        · rw [if_neg e5] at c1
          split at c1 <;> omega
theorem shown_pos {M : Cow} {n m : Nat} (V : chE M = 0) (hn : n < M.sp.length) (hm : m < (sAt M.sp n).2.length) {k : Nat} (hk : (pAt (sAt M.sp n).2 m).1 = k) : k < M.fr.length ∧ 1 ≤ (fAt M.fr k).1 := by
  obtain ⟨z, f, s, a⟩ := chE_zero V
  have o := (f _ (sAt_mem hn)).2 _ (pAt_mem hm)
  rcases o with o | o
  · rw [o] at hk; have : (-1 : Int) = k := hk; omega
  · have hkl : k < M.fr.length := by omega
    refine ⟨hkl, ?_⟩
    have := cnS_pos (sAt_mem hn) (pAt_mem hm)
    rw [hk] at this
    have := (s k hkl).1
    omega
theorem val_hd {M : Cow} {n m : Nat} (V : chE M = 0) (hn : n < M.sp.length) (hm : m < (sAt M.sp n).2.length) : chE (hdG M n m) = 0 := by
  obtain ⟨z, f, s, a⟩ := chE_zero V
  have hl := hd_len M n m
  unfold szG at z
  refine val_of (q := (-1, false)) V hn hm (.inl rfl) hl.2.2.1 ?_ hl.2.1 (by rw [hl.2.2.2]; omega) ?_ ?_ (fun h => by cases h) (.inl (by decide))
  · unfold hdG
    rw [setP_sp, setP_sp, drop_sp]
  · intro k hk
    show (fAt (dropF M _).fr k).1 + _ = _ + _
    rw [if_neg (show ¬ ((-1 : Int), false).1 = (k : Int) from fun e => by have : (-1 : Int) = k := e; omega)]
    unfold dropF
    split
    · rw [if_neg (by omega)]
    · rename_i h0
      obtain ⟨j, hj⟩ := Int.eq_ofNat_of_zero_le (show 0 ≤ (pAt (sAt M.sp n).2 m).1 by omega)
      have hjl := (shown_pos V hn hm hj).1
      rw [hj, Int.toNat_natCast]
      unfold Cow.setF
      simp only [fAt_set hjl]
      by_cases e : k = j
      · subst e; rw [if_pos rfl, if_pos rfl]; dsimp only; omega
      · rw [if_neg e, if_neg (by omega)]
  · intro k hk
    show (fAt (dropF M _).fr k).1 = 0 → (fAt (dropF M _).fr k).2 = 0
    unfold dropF
    split
    · exact (s k hk).2
    · rename_i h0
      obtain ⟨j, hj⟩ := Int.eq_ofNat_of_zero_le (show 0 ≤ (pAt (sAt M.sp n).2 m).1 by omega)
      have hjl := (shown_pos V hn hm hj).1
      rw [hj, Int.toNat_natCast]
      unfold Cow.setF
      simp only [fAt_set hjl]
      by_cases e : k = j
      · subst e; rw [if_pos rfl]; dsimp only; intro g; rw [if_pos g]
      · rw [if_neg e]; exact (s k hk).2
theorem val_in {M : Cow} {n m : Nat} (x : Int) (V : chE M = 0) (hn : n < M.sp.length) (hm : m < (sAt M.sp n).2.length) (hi : inG M n m) : chE ((M.setP n m ((pAt (sAt M.sp n).2 m).1, true)).setF (pAt (sAt M.sp n).2 m).1.toNat (1, x)) = 0 := by
  obtain ⟨z, f, s, a⟩ := chE_zero V
  obtain ⟨h0, h1⟩ := hi
  obtain ⟨j, hj⟩ := Int.eq_ofNat_of_zero_le h0
  have hjl := (shown_pos V hn hm hj).1
  have hsp : ∀ k, k < M.fr.length → fAt (M.fr.set j (1, x)) k = if k = j then (1, x) else fAt M.fr k := fun k hk => fAt_set hjl
  rw [hj, Int.toNat_natCast] at h1 ⊢
  unfold szG at z
  refine val_of (q := ((j : Int), true)) V hn hm (.inr ⟨by show (0 : Int) ≤ j; omega, by show (j : Int) < _; omega⟩) rfl rfl (by show (M.fr.set j _).length = _; simp) (by show 0 ≤ M.cp ∧ M.cp ≤ _; omega) ?_ ?_ ?_ (.inr (.inl hj.symm))
  · intro k hk
    show (fAt (M.fr.set j (1, x)) k).1 + _ = _
    rw [hsp k hk, hj]
    by_cases e : k = j
    · subst e; rw [if_pos rfl, h1]
    · rw [if_neg e]
  · intro k hk
    show (fAt (M.fr.set j (1, x)) k).1 = 0 → (fAt (M.fr.set j (1, x)) k).2 = 0
    rw [hsp k hk]
    by_cases e : k = j
    · rw [if_pos e]; intro g; cases g
    · rw [if_neg e]; exact (s k hk).2
  · intro _
    show (fAt (M.fr.set j (1, x)) ((j : Int)).toNat).1 = 1
    rw [Int.toNat_natCast, hsp j hjl, if_pos rfl]
theorem val_new {M : Cow} {n m k0 : Nat} (x : Int) (V : chE M = 0) (hn : n < M.sp.length) (hm : m < (sAt M.sp n).2.length) (hi : ¬ inG M n m) (hf : frI M.fr = some k0) : chE (((lessG M (pAt (sAt M.sp n).2 m).1).setP n m ((k0 : Int), true)).setF k0 (1, x)) = 0 := by
  obtain ⟨z, f, s, a⟩ := chE_zero V
  obtain ⟨hk0, hz0, _⟩ := frI_some hf
  unfold szG at z
  have hsp : (lessG M (pAt (sAt M.sp n).2 m).1).sp = M.sp := by unfold lessG Cow.setF; split <;> rfl
  have hsz : (lessG M (pAt (sAt M.sp n).2 m).1).sz = M.sz := by unfold lessG Cow.setF; split <;> rfl
  have hfl : (lessG M (pAt (sAt M.sp n).2 m).1).fr.length = M.fr.length := by unfold lessG Cow.setF; split <;> simp
  have hcp : 0 ≤ (lessG M (pAt (sAt M.sp n).2 m).1).cp ∧ (lessG M (pAt (sAt M.sp n).2 m).1).cp ≤ 1048576 := by
    unfold lessG Cow.setF
    split
    · omega
    · dsimp only; split <;> omega
  have hle : ∀ k : Nat, (pAt (sAt M.sp n).2 m).1 = (k : Int) → 2 ≤ (fAt M.fr k).1 := fun k hk => by
    have h1 := (shown_pos V hn hm hk).2
    have : (fAt M.fr k).1 ≠ 1 := fun g => hi ⟨by rw [hk]; omega, by rw [hk, Int.toNat_natCast]; exact g⟩
    omega
  have hne : (pAt (sAt M.sp n).2 m).1 ≠ (k0 : Int) := fun e => by have := hle k0 e; omega
  have hls : ∀ k, k < M.fr.length → fAt (lessG M (pAt (sAt M.sp n).2 m).1).fr k = if (pAt (sAt M.sp n).2 m).1 = (k : Int) then ((fAt M.fr k).1 - 1, (fAt M.fr k).2) else fAt M.fr k := by
    intro k hk
    unfold lessG
    split
    · rw [if_neg (by omega)]
    · obtain ⟨j, hj⟩ := Int.eq_ofNat_of_zero_le (show 0 ≤ (pAt (sAt M.sp n).2 m).1 by omega)
      have hjl := (shown_pos V hn hm hj).1
      rw [hj, Int.toNat_natCast]
      unfold Cow.setF
      simp only [fAt_set hjl]
      by_cases e : k = j
      · subst e; rw [if_pos rfl, if_pos rfl]
      · rw [if_neg e, if_neg (by omega)]
  have hR : ∀ k, k < M.fr.length → fAt ((lessG M (pAt (sAt M.sp n).2 m).1).fr.set k0 (1, x)) k = if k = k0 then (1, x) else fAt (lessG M (pAt (sAt M.sp n).2 m).1).fr k := fun k hk => fAt_set (by rw [hfl]; exact hk0)
  refine val_of (q := ((k0 : Int), true)) V hn hm (.inr ⟨by show (0 : Int) ≤ k0; omega, by show (k0 : Int) < _; omega⟩) hsz ?_ ?_ hcp ?_ ?_ ?_ (.inr (.inr (by show (fAt M.fr ((k0 : Int)).toNat).1 = 0; rw [Int.toNat_natCast]; exact hz0)))
  · show ((lessG M _).setP n m _).sp = _
    rw [setP_sp, setP_sp, hsp]
  · show ((lessG M _).fr.set k0 _).length = _
    rw [List.length_set, hfl]
  · intro k hk
    show (fAt ((lessG M _).fr.set k0 (1, x)) k).1 + _ = _ + (if ((k0 : Int)) = (k : Int) then 1 else 0)
    rw [hR k hk]
    by_cases e : k = k0
    · subst e; rw [if_pos rfl, if_pos rfl, if_neg hne, hz0]; rfl
    · rw [if_neg e, hls k hk]
      have e3 : ¬ (k0 : Int) = (k : Int) := by omega
      by_cases e2 : (pAt (sAt M.sp n).2 m).1 = (k : Int)
      · rw [if_pos e2, if_pos e2, if_neg e3]; dsimp only; omega
      · rw [if_neg e2, if_neg e2, if_neg e3]
  · intro k hk
    show (fAt ((lessG M _).fr.set k0 (1, x)) k).1 = 0 → (fAt ((lessG M _).fr.set k0 (1, x)) k).2 = 0
    rw [hR k hk]
    by_cases e : k = k0
    · rw [if_pos e]; intro g; cases g
    · rw [if_neg e, hls k hk]
      split
      · rename_i e2
        intro g
        have := hle k e2
        dsimp only at g
        omega
      · exact (s k hk).2
  · intro _
    show (fAt ((lessG M _).fr.set k0 (1, x)) ((k0 : Int)).toNat).1 = 1
    rw [Int.toNat_natCast, hR k0 hk0, if_pos rfl]
end Go.Proofs.Ytoogdggiemacjaa.Cw
