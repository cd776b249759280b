import Derived.Test.YtncjicggolmofaaV4
namespace Go.Proofs.Ytncjicggolmofaa.Sb
open Go Go.RowKit
set_option linter.unusedVariables false
set_option linter.unusedSimpArgs false
theorem Vd.sg {S : Sc} (V : Vd S) {m : Nat} (hm : S.ob = m) : Sg m S.sl :=
  ⟨V.asc, fun i hi => by have h : ((cAt S.sl i).2.length : Int) = S.ob := V.ln i hi; omega⟩
theorem ls_ob {S : Sc} (V : Vd S) {m : Nat} (hm : S.ob = m) {o : Int} : o ∈ ls S true S.sl.length ↔ Ob m S.sl o := by
  rw [ls_iff]
  constructor
  · rintro ⟨i, hi, j, hj, h1, h2⟩
    have := V.ln i hi
    exact ⟨i, hi, j, by omega, h1, by rw [hm] at h2; exact h2⟩
  · rintro ⟨i, hi, j, hj, h1, h2⟩
    have := V.ln i hi
    exact ⟨i, hi, j, by omega, h1, by rw [hm]; exact h2⟩
theorem ls_pw {S : Sc} (V : Vd S) : ∀ k, k ≤ S.sl.length → (ls S true k).Pairwise (· < ·) ∧ ∀ x ∈ ls S true k, ∀ i, k ≤ i → i < S.sl.length → x < fr S i * S.ob
  | 0, _ => ⟨List.Pairwise.nil, fun x h => by cases h⟩
  | k + 1, hk => by
    obtain ⟨h1, h2⟩ := ls_pw V k (by omega)
    have hl := V.ln k (by omega)
    have hb := V.ob
    obtain ⟨g1, g2⟩ := nb_pw (fr S k) S.ob (us S k) true (us S k).length
    show (ls S true k ++ nb (fr S k) S.ob (us S k) true (us S k).length).Pairwise _ ∧ ∀ x ∈ ls S true k ++ nb (fr S k) S.ob (us S k) true (us S k).length, _
    refine ⟨List.pairwise_append.2 ⟨h1, g1, fun x hx y hy => ?_⟩, fun x hx i hi hil => ?_⟩
    · obtain ⟨j, hj, _, e⟩ := nb_iff.1 hy
      have := h2 x hx k (Nat.le_refl _) (by omega)
      omega
    · rcases List.mem_append.1 hx with hx | hx
      · exact h2 x hx i (by omega) hil
      · have a1 := g2 x hx
        have a2 := V.asc k i (by omega) hil
        have a3 : (fr S k + 1) * S.ob ≤ fr S i * S.ob := Int.mul_le_mul_of_nonneg_right (by unfold fr; omega) (by omega)
        rw [Int.add_mul] at a3
        omega
theorem obj_nodup {S : Sc} (V : Vd S) : (ls S true S.sl.length).Nodup := List.Pairwise.imp (fun h => Int.ne_of_lt h) (ls_pw V _ (Nat.le_refl _)).1
theorem nd_last {S : Sc} {n : Int} (h : chE S = 0) (hp : 0 < ndN S n) : (ndN S n - 1) * S.ob + aR S < n := by
  have hb := (vd_of h).ob
  have hr := aR_bd h
  by_cases hl : n ≤ aR S
  · rw [nd_le h hl] at hp; omega
  · rw [nd_gt h hl]
    obtain ⟨t, ht⟩ : ∃ t, t = n - aR S - 1 := ⟨_, rfl⟩
    rw [← ht]
    have h3 := Int.emod_add_mul_ediv t S.ob
    have h4 := Int.emod_nonneg t (b := S.ob) (by omega)
    have e2 : (t / S.ob + 1 - 1) * S.ob = S.ob * (t / S.ob) := by rw [Int.add_sub_cancel, Int.mul_comm]
    rw [e2]
    omega
theorem al_facts {S : Sc} {n : Int} {fs : Is} (h : alE S n fs = 0) :
    chE ⟨S.ob, alL S n fs⟩ = 0 ∧ (∀ o, o ∈ obj ⟨S.ob, alL S n fs⟩ ↔ o ∈ obj S ∨ o ∈ alI S n fs) ∧ (alI S n fs).Nodup ∧ (∀ x, x ∈ alI S n fs → x ∉ obj S) ∧ (obj ⟨S.ob, alL S n fs⟩).length = (obj S).length + (alI S n fs).length := by
  have hch : chE S = 0 := by
    by_cases c : chE S = 0
    · exact c
    · unfold alE at h; rw [if_neg c] at h; exact absurd h c
  have h1 := h
  unfold alE at h1
  rw [if_pos hch] at h1
  have hc : ¬ (n < 1 ∨ (fs.length : Int) ≠ ndN S n) := fun c => by rw [if_pos c] at h1; omega
  rw [if_neg hc] at h1
  obtain ⟨f1, f2⟩ := feE_ok _ _ h1
  have V := vd_of hch
  have hb := V.ob
  have hr := aR_bd hch
  have eR : aR S = (S.sl.length : Int) * S.ob - ((ud S S.sl.length : Nat) : Int) := if_pos hch
  have eT := fT_ud V S.sl.length (Nat.le_refl _)
  rw [← eR] at eT
  obtain ⟨m, hm⟩ : ∃ m : Nat, S.ob = m := ⟨S.ob.toNat, by omega⟩
  have I0 := alK_inv (V.sg hm) (fun i hi => V.us i hi) n.toNat S.sl.length (Nat.le_refl _)
  have hF : ∀ x, x ∈ frs (alK n.toNat S.sl S.sl.length).1 → x ∈ frs S.sl := fun x hx => by
    obtain ⟨c, hc, rfl⟩ := List.mem_map.1 hx
    obtain ⟨j, hj, rfl⟩ := List.mem_iff_getElem.1 hc
    rw [← cAt_get hj, alK_fr n.toNat S.sl _ j (Nat.le_refl _)]
    rw [alK_len] at hj
    exact List.mem_map.2 ⟨_, cAt_mem hj, rfl⟩
  have hlast : srt fs ≠ [] → fT S.sl S.sl.length + ((srt fs).length - 1) * m < n.toNat := fun hne => by
    have hp : 0 < (srt fs).length := List.length_pos_iff.2 hne
    rw [srt_len] at hp ⊢
    have hnd : 0 < ndN S n := by omega
    have := nd_last hch hnd
    have e : ndN S n = (fs.length : Int) := by omega
    rw [e, hm] at this
    have e2 : ((fs.length : Int) - 1) * (m : Int) = (((fs.length - 1) * m : Nat) : Int) := by rw [Int.natCast_mul]; congr 1; omega
    rw [e2] at this
    omega
  obtain ⟨I1, I2⟩ := alZs_inv (F := frs S.sl) (show 0 < m by omega) I0 hF (fun z hz => (f1 z (srt_mem.1 hz)).2) (srt_nodup f2) (alK_cnt n.toNat S.sl S.sl.length) hlast
  have hR : alR S n fs = (srt fs).foldl (alZ n.toNat m) (alK n.toNat S.sl S.sl.length) := by
    unfold alR
    rw [hm, Int.toNat_natCast]
  rw [← hR] at I1 I2
  have eL : alL S n fs = (alR S n fs).1 := if_pos h
  have eI : alI S n fs = (alR S n fs).2 := if_pos h
  have VT : Vd ⟨S.ob, alL S n fs⟩ := by
    refine ⟨hb, fun k hk => ?_, fun k hk => ?_, fun k hk => ?_, fun k hk => ?_⟩
    · change k < (alL S n fs).length at hk
      have hx : (cAt (alL S n fs) k).1 ∈ frs (alL S n fs) := List.mem_map.2 ⟨_, cAt_mem hk, rfl⟩
      show 0 ≤ (cAt (alL S n fs) k).1 ∧ (cAt (alL S n fs) k).1 < 256
      rcases I2 _ (by rw [← eL]; exact hx) with c | c
      · obtain ⟨c', hc', e⟩ := List.mem_map.1 c
        obtain ⟨j, hj, rfl⟩ := List.mem_iff_getElem.1 hc'
        rw [← cAt_get hj] at e
        rw [← e]
        exact V.fr j hj
      · exact (f1 _ (srt_mem.1 c)).1
    · show (cAt (alL S n fs) k).1 < (cAt (alL S n fs) (k + 1)).1
      rw [eL] at hk ⊢
      exact I1.sg.asc k (k + 1) (by omega) hk
    · show ((cAt (alL S n fs) k).2.length : Int) = S.ob
      rw [eL] at hk ⊢
      rw [I1.sg.len k hk, hm]
    · show 0 < cnt (cAt (alL S n fs) k).2
      rw [eL] at hk ⊢
      exact I1.pos k hk
  have hcT := chk_of VT
  have oS : obj S = ls S true S.sl.length := if_pos hch
  have oT : obj ⟨S.ob, alL S n fs⟩ = ls ⟨S.ob, alL S n fs⟩ true (alL S n fs).length := if_pos hcT
  have mem : ∀ o, o ∈ obj ⟨S.ob, alL S n fs⟩ ↔ o ∈ obj S ∨ o ∈ alI S n fs := fun o => by
    rw [oT, oS, eI]
    have a1 := ls_ob VT (m := m) hm (o := o)
    have a2 := ls_ob V hm (o := o)
    have a3 := I1.iff o
    rw [← eL] at a3
    exact (a1.trans a3).trans (or_congr_left a2.symm)
  have nin : ∀ x, x ∈ alI S n fs → x ∉ obj S := fun x hx c => by
    rw [oS] at c
    rw [eI] at hx
    exact I1.new x hx ((ls_ob V hm).1 c)
  have ndI : (alI S n fs).Nodup := by rw [eI]; exact I1.nd
  refine ⟨hcT, mem, ndI, nin, ?_⟩
  have ndT : (obj ⟨S.ob, alL S n fs⟩).Nodup := by rw [oT]; exact obj_nodup VT
  have ndS : (obj S ++ alI S n fs).Nodup := List.nodup_append.2 ⟨by rw [oS]; exact obj_nodup V, ndI, fun a ha b hb e => nin b hb (e ▸ ha)⟩
  have := (List.perm_ext_iff_of_nodup ndT ndS).2 (fun o => by rw [mem, List.mem_append])
  rw [this.length_eq, List.length_append]
end Go.Proofs.Ytncjicggolmofaa.Sb
