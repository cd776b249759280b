import Derived.Test.YtncjicggolmofaaL3
namespace Go.Proofs.Ytncjicggolmofaa.Sb
open Go Go.RowKit
set_option linter.unusedVariables false
set_option linter.unusedSimpArgs false
/-- how many flags are free -/
def fc (l : By) : Nat := l.length - cnt l
theorem nb_both (f m : Int) (l : By) : ∀ k, (nb f m l true k).length + (nb f m l false k).length = k
  | 0 => rfl
  | k + 1 => by
    have ih := nb_both f m l k
    by_cases e : l.getD k false = true
    · rw [nb_1 e, nb_0 (show l.getD k false ≠ false by rw [e]; decide), List.length_append]
      simp only [List.length_cons, List.length_nil]
      omega
    · have e2 : l.getD k false = false := by simpa using e
      rw [nb_0 e, nb_1 e2, List.length_append]
      simp only [List.length_cons, List.length_nil]
      omega
theorem nb_fc (f m : Int) (l : By) : (nb f m l false l.length).length = fc l := by
  have h := nb_both f m l l.length
  have h2 := nb_all f m l
  unfold fc
  omega
theorem uO_len (f : Int) (l : By) (n : Nat) : (uO f l n).length = min n (fc l) := by
  unfold uO
  rw [List.length_take, nb_fc]
/-- the free objects of the first k slabs -/
def fT (L : List Ca) : Nat → Nat
  | 0 => 0
  | k + 1 => fT L k + fc (cAt L k).2
theorem alK_cnt (n : Nat) (L : List Ca) : ∀ k, (alK n L k).2.length = min n (fT L k)
  | 0 => by simp [alK, fT]
  | k + 1 => by
    have ih := alK_cnt n L k
    show ((alK n L k).2 ++ uO _ _ (n - (alK n L k).2.length)).length = min n (fT L k + fc (cAt L k).2)
    rw [List.length_append, uO_len, ih]
    omega
theorem fc_rep (m : Nat) : fc (List.replicate m false) = m := by
  unfold fc cnt
  rw [List.length_replicate, List.count_replicate]
  simp
theorem alZ_cnt {n m t : Nat} {s : List Ca × Is} (f : Int) (h : s.2.length = min n t) : (alZ n m s f).2.length = min n (t + m) := by
  show (s.2 ++ uO _ _ (n - s.2.length)).length = _
  rw [List.length_append, uO_len, fc_rep, h]
  omega
theorem alZs_cnt {n m : Nat} : ∀ (zs : Is) (s : List Ca × Is) (t : Nat), s.2.length = min n t → (zs.foldl (alZ n m) s).2.length = min n (t + zs.length * m)
  | [], s, t, h => by simpa using h
  | z :: zs, s, t, h => by
    show (zs.foldl (alZ n m) (alZ n m s z)).2.length = _
    rw [alZs_cnt zs _ (t + m) (alZ_cnt z h), List.length_cons, Nat.add_mul]
    congr 1
    omega
theorem fT_ud {S : Sc} (V : Vd S) : ∀ k, k ≤ S.sl.length → ((fT S.sl k : Nat) : Int) = (k : Int) * S.ob - ((ud S k : Nat) : Int)
  | 0, _ => by simp [fT, ud]
  | k + 1, hk => by
    have ih := fT_ud V k (by omega)
    have hl := V.ln k (by omega)
    have hc : cnt (us S k) ≤ (us S k).length := List.count_le_length
    show ((fT S.sl k + fc (us S k) : Nat) : Int) = ((k + 1 : Nat) : Int) * S.ob - ((ud S k + cnt (us S k) : Nat) : Int)
    have e : ((k + 1 : Nat) : Int) * S.ob = (k : Int) * S.ob + S.ob := by rw [Int.natCast_add, Int.add_mul]; simp
    have e2 : ((fc (us S k) : Nat) : Int) = S.ob - ((cnt (us S k) : Nat) : Int) := by unfold fc; omega
    rw [e, Int.natCast_add, ih, Int.natCast_add, e2]
    omega
/-- what an Alloc that is allowed gives: just n objects -/
theorem alI_len {S : Sc} {n : Int} {fs : Is} (h : alE S n fs = 0) (hn : n ≤ 200 ∨ True) : ((alI S n fs).length : Int) = n := by
  have hch : chE S = 0 := by
    by_cases c : chE S = 0
    · exact c
    · unfold alE at h; rw [if_neg c] at h; exact absurd h c
  have h1 := h
  unfold alE at h1
  rw [if_pos hch] at h1
  have hc : ¬ (n < 1 ∨ (fs.length : Int) ≠ ndN S n) := fun c => by rw [if_pos c] at h1; omega
  have V := vd_of hch
  have hb := V.ob
  have hr := aR_bd hch
  have eR : aR S = (S.sl.length : Int) * S.ob - ((ud S S.sl.length : Nat) : Int) := if_pos hch
  have eT := fT_ud V S.sl.length (Nat.le_refl _)
  rw [← eR] at eT
  obtain ⟨m, hm⟩ : ∃ m : Nat, S.ob = m := ⟨S.ob.toNat, by omega⟩
  have hlen : (alI S n fs).length = min n.toNat (fT S.sl S.sl.length + fs.length * m) := by
    unfold alI
    rw [if_pos h]
    unfold alR
    rw [alZs_cnt (srt fs) _ _ (alK_cnt n.toNat S.sl S.sl.length), srt_len, hm, Int.toNat_natCast]
  have hnd : n ≤ ndN S n * S.ob + aR S := by
    by_cases hl : n ≤ aR S
    · rw [nd_le hch hl]; omega
    · rw [nd_gt hch hl]
      obtain ⟨t, ht⟩ : ∃ t, t = n - aR S - 1 := ⟨_, rfl⟩
      rw [← ht]
      have h3 := Int.emod_add_mul_ediv t S.ob
      have h5 := Int.emod_lt_of_pos t (b := S.ob) (by omega)
      have e1 : (t / S.ob + 1) * S.ob = S.ob * (t / S.ob) + S.ob := by rw [Int.add_mul, Int.mul_comm]; omega
      rw [e1]
      omega
  have hf : (fs.length : Int) = ndN S n := by omega
  rw [← hf, hm] at hnd
  have hnd2 : n ≤ ((fs.length * m : Nat) : Int) + aR S := by rw [Int.natCast_mul]; exact hnd
  rw [hlen]
  omega
end Go.Proofs.Ytncjicggolmofaa.Sb
