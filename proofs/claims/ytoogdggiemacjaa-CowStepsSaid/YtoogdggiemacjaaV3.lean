import Derived.Test.YtoogdggiemacjaaV2
namespace Go.Proofs.Ytoogdggiemacjaa.Cw
open Go Go.RowKit
set_option linter.unusedVariables false
set_option linter.unusedSimpArgs false
theorem val_write {M : Cow} {s p x : Int} (h : (wrG1 M s p x).2 = 0) : chE (wrG1 M s p x).1 = 0 ∧ (wrG1 M s p x).1.sz = M.sz ∧ (wrG1 M s p x).1.fr.length = M.fr.length := by
  unfold wrG1 at h ⊢
  split at h
  · rename_i hc; exact absurd h hc
  · rename_i hc
    rw [if_neg hc]
    have hc := Decidable.not_not.1 hc
    have V := (cpE_zero hc).1
    obtain ⟨n, m, rfl, rfl, hn, hm, _⟩ := page_at hc
    rw [Int.toNat_natCast, Int.toNat_natCast] at h ⊢
    unfold wrM at h ⊢
    split at h
    · rename_i hi
      rw [if_pos hi]
      exact ⟨val_in x V hn hm hi, rfl, by show (M.fr.set _ _).length = _; simp⟩
    · rename_i hi
      rw [if_neg hi]
      cases hf : frI M.fr with
      | none => rw [hf] at h; cases h
      | some k =>
        dsimp only
        refine ⟨val_new x V hn hm hi hf, ?_, ?_⟩
        · show (lessG M _).sz = _
          unfold lessG Cow.setF; split <;> rfl
        · show ((lessG M _).fr.set _ _).length = _
          rw [List.length_set]
          unfold lessG Cow.setF; split <;> simp
theorem val_unmap {M : Cow} {s p : Int} (h : cpE M s p = 0) : chE (unG M s p) = 0 ∧ (unG M s p).sz = M.sz ∧ (unG M s p).fr.length = M.fr.length := by
  have V := (cpE_zero h).1
  obtain ⟨n, m, rfl, rfl, hn, hm, _⟩ := page_at h
  have e : unG M n m = hdG M n m := by unfold unG; rw [if_neg (fun g => g h), Int.toNat_natCast, Int.toNat_natCast]
  rw [e]
  have hl := hd_len M n m
  exact ⟨val_hd V hn hm, hl.2.2.1, hl.2.1⟩
theorem exit_sz {M : Cow} {s : Int} (h : csE M s = 0) : (exG M s).sz = M.sz ∧ (exG M s).fr.length = M.fr.length := by
  obtain ⟨n, rfl, hn, hl, hz, _⟩ := space_at h
  have e : exG M n = (exS M n M.sz.toNat).kill n := by unfold exG; rw [if_neg (fun g => g h), Int.toNat_natCast]
  rw [e]
  obtain ⟨a, b, _⟩ := ex_facts hn M.sz.toNat
  obtain ⟨_, _, h3, _⟩ := ex_val (csE_zero h).1 hn M.sz.toNat (by omega)
  exact ⟨h3, b⟩
theorem val_fk {M : Cow} {s : Int} (h : (fkG M s).2.2 = 0) : chE (fkG M s).1 = 0 ∧ (fkG M s).1.sz = M.sz ∧ (fkG M s).1.fr.length = M.fr.length := by
  unfold fkG at h ⊢
  split at h
  · rename_i hc; exact absurd h hc
  · rename_i hc
    rw [if_neg hc]
    have hc := Decidable.not_not.1 hc
    split at h
    · cases h
    · rename_i h8
      rw [if_neg h8]
      obtain ⟨n, rfl, hn, hl, hz, _⟩ := space_at hc
      rw [Int.toNat_natCast]
      exact ⟨val_fork (csE_zero hc).1 hn hl h8, (fk_szcp M n _).1, (fk_facts hn _).2.1⟩
/-- an operation that succeeds leaves the machine valid, its size and its frames as many -/
theorem val_play {M : Cow} {k s p x : Int} (h : (plG M k s p x).2.2 = 0) (hk : k = 0 ∨ k = 1 ∨ k = 2 ∨ k = 3) : chE (plG M k s p x).1 = 0 ∧ (plG M k s p x).1.sz = M.sz ∧ (plG M k s p x).1.fr.length = M.fr.length := by
  rcases hk with rfl | rfl | rfl | rfl
  · exact val_write h
  · exact val_fk h
  · exact val_unmap h
  · have h' : csE M s = 0 := h
    exact ⟨val_exit h', exit_sz h'⟩
-- ROOM
def cF (F : Nat) (L : List Pg) : Nat := L.countP fun p => decide (0 ≤ p.1) && decide (p.1 < (F : Int))
def cT (F : Nat) (S : List Sp) : Nat := (S.map fun s => cF F s.2).sum
def lT (S : List Sp) : Nat := (S.map fun s => s.2.length).sum
theorem cF_succ (F : Nat) : ∀ L : List Pg, cF (F + 1) L = cF F L + cnP F L
  | [] => rfl
  | a :: l => by
    have ih := cF_succ F l
    unfold cF cnP at ih ⊢
    rw [List.countP_cons, List.countP_cons, List.countP_cons, ih]
    simp only [Bool.and_eq_true, decide_eq_true_eq, beq_iff_eq]
    push_cast
    split <;> split <;> split <;> omega
theorem cF_0 (L : List Pg) : cF 0 L = 0 := by
  unfold cF
  rw [List.countP_eq_zero]
  intro a ha
  simp only [Bool.and_eq_true, decide_eq_true_eq]
  omega
theorem cT_succ (F : Nat) : ∀ S : List Sp, cT (F + 1) S = cT F S + cnS F S
  | [] => rfl
  | a :: l => by
    have ih := cT_succ F l
    unfold cT at ih ⊢
    rw [List.map_cons, List.sum_cons, List.map_cons, List.sum_cons, ih, cF_succ, cnS_cons]
    omega
theorem cT_0 : ∀ S : List Sp, cT 0 S = 0
  | [] => rfl
  | a :: l => by
    have ih := cT_0 l
    unfold cT at ih ⊢
    rw [List.map_cons, List.sum_cons, ih, cF_0]
theorem cT_ge {S : List Sp} : ∀ F : Nat, (∀ k, k < F → 1 ≤ cnS (k : Int) S) → F ≤ cT F S
  | 0, _ => Nat.zero_le _
  | F + 1, h => by
    have := cT_ge F (fun k hk => h k (by omega))
    rw [cT_succ]
    have := h F (by omega)
    omega
theorem cT_gt {S : List Sp} {k0 : Nat} (h2 : 2 ≤ cnS (k0 : Int) S) : ∀ F : Nat, (∀ k, k < F → 1 ≤ cnS (k : Int) S) → k0 < F → F + 1 ≤ cT F S
  | 0, _, h => absurd h (Nat.not_lt_zero _)
  | F + 1, h, hk => by
    rw [cT_succ]
    by_cases e : k0 = F
    · subst e
      have := cT_ge k0 (fun k hk => h k (by omega))
      omega
    · have := cT_gt h2 F (fun k hk => h k (by omega)) (by omega)
      have := h F (by omega)
      omega
theorem cF_le (F : Nat) (L : List Pg) : cF F L ≤ L.length := List.countP_le_length
theorem cT_le (F : Nat) : ∀ S : List Sp, cT F S ≤ lT S
  | [] => Nat.le_refl _
  | a :: l => by
    have ih := cT_le F l
    unfold cT lT at ih ⊢
    rw [List.map_cons, List.sum_cons, List.map_cons, List.sum_cons]
    have := cF_le F a.2
    omega
theorem cF_lt {F : Nat} {L : List Pg} {q : Pg} (h : q ∈ L) (hq : q.1 < 0) : cF F L + 1 ≤ L.length := by
  induction L with
  | nil => cases h
  | cons a l ih =>
    unfold cF at ih ⊢
    rw [List.countP_cons, List.length_cons]
    rcases List.mem_cons.1 h with rfl | h
    · have := cF_le F l
      unfold cF at this
      rw [if_neg (by simp only [Bool.and_eq_true, decide_eq_true_eq]; omega)]
      omega
    · have := ih h
      split <;> omega
theorem cT_lt {F : Nat} {S : List Sp} {q : Pg} (h : Pgs S q) (hq : q.1 < 0) : cT F S + 1 ≤ lT S := by
  obtain ⟨s, hs, hqs⟩ := h
  induction S with
  | nil => cases hs
  | cons a l ih =>
    have hl := cT_le F l
    unfold cT lT at ih hl ⊢
    rw [List.map_cons, List.sum_cons, List.map_cons, List.sum_cons]
    rcases List.mem_cons.1 hs with rfl | h
    · have := cF_lt (F := F) hqs hq
      omega
    · have := ih h
      have := cF_le F a.2
      omega
theorem lT_le {sz : Nat} : ∀ S : List Sp, (∀ s ∈ S, s.2.length ≤ sz) → lT S ≤ S.length * sz
  | [], _ => Nat.zero_le _
  | a :: l, h => by
    have ih := lT_le l (fun s hs => h s (List.mem_cons_of_mem _ hs))
    have := h a (by simp)
    unfold lT at ih ⊢
    rw [List.map_cons, List.sum_cons, List.length_cons, Nat.add_mul]
    omega
theorem csE_ne {M : Cow} {s : Int} (V : chE M = 0) : csE M s ≠ 16 := by
  unfold csE
  rw [if_neg (show ¬ chE M ≠ 0 from fun g => g V)]
  split <;> decide
theorem cpE_ne {M : Cow} {s p : Int} (V : chE M = 0) : cpE M s p ≠ 16 := by
  unfold cpE
  split
  · exact csE_ne V
  · split <;> decide
/-- with eight frames for each page of a space a write always finds one -/
theorem room {M : Cow} (V : chE M = 0) (hF : (M.fr.length : Int) = M.sz * 8) (s p x : Int) : (wrG1 M s p x).2 ≠ 16 := by
  unfold wrG1
  split
  · rename_i hc
    obtain ⟨z, f, st, a⟩ := chE_zero V
    exact cpE_ne V
  · rename_i hc
    have hc := Decidable.not_not.1 hc
    obtain ⟨n, m, rfl, rfl, hn, hm, _⟩ := page_at hc
    rw [Int.toNat_natCast, Int.toNat_natCast]
    obtain ⟨z, f, st, a⟩ := chE_zero V
    unfold wrM
    split
    · show (0 : Int) ≠ 16; decide
    · rename_i hi
      cases hf : frI M.fr with
      | some k => show (0 : Int) ≠ 16; decide
      | none =>
        exfalso
        have hall := frI_none hf
        have h1 : ∀ k, k < M.fr.length → 1 ≤ cnS (k : Int) M.sp := fun k hk => by
          have := (st k hk).1
          have := hall k hk
          omega
        unfold szG at z
        have hlen : ∀ t ∈ M.sp, t.2.length ≤ M.sz.toNat := fun t ht => by
          have := (f t ht).1
          unfold lnG at this
          split at this <;> omega
        have hL := lT_le M.sp hlen
        have hL8 : M.sp.length * M.sz.toNat ≤ 8 * M.sz.toNat := Nat.mul_le_mul_right _ z.2.1.2
        by_cases h0 : (pAt (sAt M.sp n).2 m).1 < 0
        · have g1 := cT_lt (F := M.fr.length) (S := M.sp) ⟨_, sAt_mem hn, pAt_mem hm⟩ h0
          have g2 := cT_ge M.fr.length h1
          omega
        · obtain ⟨j, hj⟩ := Int.eq_ofNat_of_zero_le (show 0 ≤ (pAt (sAt M.sp n).2 m).1 by omega)
          obtain ⟨hjl, hj1⟩ := shown_pos V hn hm hj
          have h2 : 2 ≤ cnS (j : Int) M.sp := by
            have e1 := (st j hjl).1
            have e2 : (fAt M.fr j).1 ≠ 1 := fun g => hi ⟨by rw [hj]; omega, by rw [hj, Int.toNat_natCast]; exact g⟩
            omega
          have g1 := cT_le M.fr.length M.sp
          have g2 := cT_gt h2 M.fr.length h1 hjl
          omega
theorem room_play {M : Cow} (V : chE M = 0) (hF : (M.fr.length : Int) = M.sz * 8) (k s p x : Int) : (plG M k s p x).2.2 ≠ 16 := by
  have hcs := csE_ne (s := s) V
  have hcp := cpE_ne (s := s) (p := p) V
  unfold plG
  split
  · exact room V hF s p x
  · split
    · unfold fkG
      split
      · exact hcs
      · split
        · show (9 : Int) ≠ 16; decide
        · show (0 : Int) ≠ 16; decide
    · split
      · exact hcp
      · split
        · exact hcs
        · exact hcp
end Go.Proofs.Ytoogdggiemacjaa.Cw
