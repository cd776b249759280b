import Derived.Test.YtflplldamefhoaaR16
namespace Go.Proofs.Ytflplldamefhoaa.Bd
open Go Go.RowKit
set_option linter.unusedVariables false
def bwn (k : Nat) : Nat := (bw k).toNat
theorem bwn_eq (k : Nat) : ((bwn k : Nat) : Int) = bw k := by unfold bwn; have := bw_pos k; omega
/-- the first n frames from f on -/
def bl (f : Int) : Nat → Is
  | 0 => []
  | n + 1 => bl f n ++ [f + n]
/-- the frames of the first i blocks -/
def ol (l : Is) (k : Nat) : Nat → Is
  | 0 => []
  | i + 1 => ol l k i ++ bl (l.getD i 0) (bwn k)
/-- the frames of the blocks of the orders below k -/
def fl (L : Fl) : Nat → Is
  | 0 => []
  | k + 1 => fl L k ++ ol (L k) k (L k).length
theorem bl_len (f : Int) : ∀ n, (bl f n).length = n
  | 0 => rfl
  | n + 1 => by unfold bl; rw [List.length_append, bl_len]; rfl
theorem ol_len (l : Is) (k : Nat) : ∀ i, ((ol l k i).length : Int) = i * bw k
  | 0 => by simp [ol]
  | i + 1 => by
    unfold ol
    rw [List.length_append, bl_len, Int.natCast_add, ol_len, bwn_eq]
    rw [show ((i + 1 : Nat) : Int) = (i : Int) + 1 by omega, Int.add_mul, Int.one_mul]
theorem fl_len (L : Fl) : ∀ k, ((fl L k).length : Int) = cb L k
  | 0 => rfl
  | k + 1 => by
    unfold fl
    rw [List.length_append, Int.natCast_add, fl_len, ol_len]
    rfl
theorem bl_count (f z : Int) : ∀ n, (bl f n).count z = if f ≤ z ∧ z < f + n then 1 else 0
  | 0 => by rw [if_neg (by omega)]; rfl
  | n + 1 => by
    unfold bl
    rw [List.count_append, bl_count, List.count_singleton]
    by_cases e : z = f + n
    · rw [if_neg (by omega), if_pos (by simp [e]), if_pos (by omega)]
    · rw [if_neg (show ¬ ((f + (n : Int)) == z) = true by simp; omega)]
      by_cases h : f ≤ z ∧ z < f + n
      · rw [if_pos h, if_pos (by omega)]
      · rw [if_neg h, if_neg (by omega)]
theorem bl_dn {k : Nat} (hk : k < 5) {f : Int} (hm : f % bw k = 0) (z : Int) : (bl f (bwn k)).count z = if dn k z = f then 1 else 0 := by
  rw [bl_count, bwn_eq]
  by_cases e : dn k z = f
  · have := dn_le k z
    have := dn_lt k z
    rw [if_pos e, if_pos (by omega)]
  · rw [if_neg e, if_neg]
    rintro ⟨h1, h2⟩
    exact e (dn_eq hk hm h1 h2)
theorem ol_count {l : Is} {k : Nat} (hk : k < 5) (hs : Srt l) (hm : ∀ f ∈ l, f % bw k = 0) (z : Int) : ∀ i, i ≤ l.length → (ol l k i).count z = if dn k z ∈ l.take i then 1 else 0
  | 0, _ => by simp [ol]
  | i + 1, h => by
    unfold ol
    rw [List.count_append, ol_count hk hs hm z i (by omega), bl_dn hk (hm _ (getD_mem (by omega)))]
    have t := tk_mem hs (show i < l.length by omega) (dn k z)
    have n := tk_no hs (show i < l.length by omega)
    by_cases e : dn k z = l.getD i 0
    · rw [if_neg (by rw [e]; exact n), if_pos e, if_pos (t.2 (.inr e))]
    · rw [if_neg e]
      by_cases h2 : dn k z ∈ l.take i
      · rw [if_pos h2, if_pos (t.2 (.inl h2))]
      · rw [if_neg h2, if_neg (fun h3 => by rcases t.1 h3 with h4 | h4; exact h2 h4; exact e h4)]
theorem fl_count {p : Pm} {L : Fl} (h : Lst p L) (x : Nat) : ∀ k, k ≤ 5 → (fl L k).count (x : Int) = cn L k x
  | 0, _ => rfl
  | k + 1, hk => by
    unfold fl
    rw [List.count_append, fl_count h x k (by omega), ol_count (by omega) (h.srt k (by omega)) (fun f hf => (h.blk k (by omega) f hf).1) (x : Int) _ (Nat.le_refl _), List.take_length]
    rfl
theorem bl_mem {f z : Int} {n : Nat} (h : z ∈ bl f n) : f ≤ z ∧ z < f + n := by
  have := List.count_pos_iff.2 h
  rw [bl_count] at this
  by_cases e : f ≤ z ∧ z < f + n
  · exact e
  · rw [if_neg e] at this; omega
theorem ol_mem {l : Is} {k : Nat} {z : Int} : ∀ {i}, i ≤ l.length → z ∈ ol l k i → ∃ f ∈ l, f ≤ z ∧ z < f + bw k
  | 0, _, h => by simp [ol] at h
  | i + 1, hi, h => by
    unfold ol at h
    rcases List.mem_append.1 h with h1 | h1
    · exact ol_mem (by omega) h1
    · have := bl_mem h1
      rw [bwn_eq] at this
      exact ⟨_, getD_mem (by omega), this⟩
theorem fl_mem {p : Pm} {L : Fl} (hp : par p) (hl : Lst p L) {z : Int} : ∀ {k}, k ≤ 5 → z ∈ fl L k → 0 ≤ z ∧ z < 256
  | 0, _, h => by simp [fl] at h
  | k + 1, hk, h => by
    unfold fl at h
    rcases List.mem_append.1 h with h1 | h1
    · exact fl_mem hp hl (by omega) h1
    · obtain ⟨f, hf, h2, h3⟩ := ol_mem (Nat.le_refl _) h1
      have := blk_bd hp (hl.blk k (by omega) f hf)
      omega
theorem fr_count (L : Fl) (x : Nat) : ∀ n, (fr L n).count (x : Int) = if x < n ∧ 0 < cn L 5 x then 1 else 0
  | 0 => by rw [if_neg (by omega)]; rfl
  | n + 1 => by
    by_cases h : 0 < cn L 5 n
    · have e : fr L (n + 1) = fr L n ++ [(n : Int)] := by show (if 0 < cn L 5 n then fr L n ++ [(n : Int)] else fr L n) = _; rw [if_pos h]
      rw [e, List.count_append, fr_count, List.count_singleton]
      by_cases e : x = n
      · subst e
        rw [if_neg (by omega), if_pos (by simp), if_pos ⟨by omega, h⟩]
      · rw [if_neg (show ¬ (((n : Nat) : Int) == (x : Int)) = true by simp; omega)]
        by_cases h2 : x < n ∧ 0 < cn L 5 x
        · rw [if_pos h2, if_pos ⟨by omega, h2.2⟩]
        · rw [if_neg h2, if_neg (fun h3 => h2 ⟨by omega, h3.2⟩)]
    · have e : fr L (n + 1) = fr L n := by show (if 0 < cn L 5 n then fr L n ++ [(n : Int)] else fr L n) = _; rw [if_neg h]
      rw [e, fr_count]
      by_cases h2 : x < n ∧ 0 < cn L 5 x
      · rw [if_pos h2, if_pos ⟨by omega, h2.2⟩]
      · rw [if_neg h2, if_neg (fun h3 => by
          by_cases e : x = n
          · rw [e] at h3; exact h h3.2
          · exact h2 ⟨by omega, h3.2⟩)]
theorem fl_perm {p : Pm} {L : Fl} (hp : par p) (V : Vd p L) : (fl L 5).Perm (fr L 256) := by
  refine List.perm_iff_count.2 fun z => ?_
  by_cases hz : 0 ≤ z ∧ z < 256
  · obtain ⟨x, rfl⟩ := Int.eq_ofNat_of_zero_le hz.1
    have hx : x < 256 := by omega
    have h1 := (dj_iff L).1 ((vd_iff hp).1 V).2.1 x hx
    rw [fl_count V.toLst x 5 (Nat.le_refl _), fr_count]
    by_cases h : 0 < cn L 5 x
    · rw [if_pos ⟨hx, h⟩]; omega
    · rw [if_neg (fun h2 => h h2.2)]; omega
  · rw [List.count_eq_zero.2 (fun h => hz (fl_mem hp V.toLst (Nat.le_refl _) h)), List.count_eq_zero.2]
    intro h
    obtain ⟨m, h1, h2, _⟩ := fr_mem.1 h
    omega
theorem cnt_frs (p : Pm) (L : Fl) : cnt p L = ((frs p L).length : Nat) := by
  unfold cnt frs
  by_cases hc : chk p L = 0
  · obtain ⟨hp, V⟩ := chk_zero.1 hc
    rw [if_pos hc, if_pos hc, ← (fl_perm hp V).length_eq, fl_len]
  · rw [if_neg hc, if_neg hc]; rfl
end Go.Proofs.Ytflplldamefhoaa.Bd
