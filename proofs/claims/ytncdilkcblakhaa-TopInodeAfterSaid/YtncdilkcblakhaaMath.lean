/-
  DERIVED. Plain mathematics of inode blocks, masks and layouts. No program text.
-/
namespace Go.Proofs.Ytncdilkcblakhaa.In
set_option linter.unusedVariables false
abbrev By := List Int
abbrev Fs := List Bool
-- BLOCKS
/-- the error of Encode -/
def eE (s m : Int) : Int := if ¬ (0 ≤ s ∧ s ≤ 16) then 2 else if ¬ (0 ≤ m ∧ m < 2 ^ s.toNat) then 3 else 0
theorem eE_zero {s m : Int} (h : eE s m = 0) : 0 ≤ s ∧ s ≤ 16 ∧ 0 ≤ m ∧ m < 2 ^ s.toNat := by
  unfold eE at h
  split at h
  · omega
  · split at h
    · omega
    · omega
theorem eE_of {s m : Int} (h1 : 0 ≤ s ∧ s ≤ 16) (h2 : 0 ≤ m ∧ m < 2 ^ s.toNat) : eE s m = 0 := by
  unfold eE
  rw [if_neg (by omega), if_neg (by omega)]
theorem pw_le {s : Int} (h1 : 0 ≤ s ∧ s ≤ 16) : (1 : Int) ≤ 2 ^ s.toNat ∧ (2 : Int) ^ s.toNat ≤ 65536 := by
  obtain ⟨n, rfl⟩ := Int.eq_ofNat_of_zero_le h1.1
  have hn : n ≤ 16 := by omega
  have e : ((2 : Int) ^ (n : Int).toNat) = ((2 ^ n : Nat) : Int) := by simp
  have h : 2 ^ n ≤ 2 ^ 16 := Nat.pow_le_pow_right (by omega) hn
  have h0 : 0 < 2 ^ n := Nat.pow_pos (by omega)
  rw [e]
  constructor
  · omega
  · have : (2 : Nat) ^ 16 = 65536 := rfl
    omega
theorem eE_bd {s m : Int} (h : eE s m = 0) : 0 ≤ s ∧ s ≤ 16 ∧ 0 ≤ m ∧ m < 65536 := by
  obtain ⟨a, b, c, d⟩ := eE_zero h
  have := pw_le ⟨a, b⟩
  omega
theorem eE_vals (s m : Int) : eE s m = 0 ∨ eE s m = 2 ∨ eE s m = 3 := by
  unfold eE
  split
  · omega
  · split <;> omega
/-- the check byte -/
def ckb (s m : Int) : Int := (298 + s + m % 256 + m / 256) % 251
/-- an inode block -/
def hd (s m : Int) : By := [73, 78, 79, 68, s, m % 256, m / 256, ckb s m]
def blk (s m : Int) : By := hd s m ++ List.replicate 24 0
theorem blk_len (s m : Int) : (blk s m).length = 32 := by simp [blk, hd]
/-- bytes -/
def Byt (l : By) : Prop := ∀ x ∈ l, 0 ≤ x ∧ x < 256
theorem blk_byt {s m : Int} (h : eE s m = 0) : Byt (blk s m) := by
  obtain ⟨a, b, c, d⟩ := eE_bd h
  intro x hx
  simp only [blk, hd, ckb, List.mem_append, List.mem_cons, List.not_mem_nil, or_false, List.mem_replicate] at hx
  omega
theorem Byt.at {l : By} (h : Byt l) {k : Nat} (hk : k < l.length) : 0 ≤ l.getD k 0 ∧ l.getD k 0 < 256 := by
  rw [List.getD_eq_getElem?_getD, List.getElem?_eq_getElem hk]
  exact h _ (List.getElem_mem hk)
-- DECODE
def dS (b : By) : Int := b.getD 4 0
def dM (b : By) : Int := b.getD 5 0 + 256 * b.getD 6 0
def dE (b : By) : Int := if b.length ≠ 32 then 3 else if eE (dS b) (dM b) = 0 ∧ b = blk (dS b) (dM b) then 0 else 22
def dR (b : By) : Int × Int := if dE b = 0 then (dS b, dM b) else (0, 0)
theorem dE_zero {b : By} (h : dE b = 0) : b.length = 32 ∧ eE (dS b) (dM b) = 0 ∧ b = blk (dS b) (dM b) := by
  unfold dE at h
  split at h
  · omega
  · rename_i h1
    split at h
    · rename_i h2; exact ⟨by omega, h2⟩
    · omega
theorem dS_blk (s m : Int) : dS (blk s m) = s := rfl
theorem dM_blk (s m : Int) : dM (blk s m) = m := by
  show m % 256 + 256 * (m / 256) = m
  omega
theorem dE_blk {s m : Int} (h : eE s m = 0) : dE (blk s m) = 0 := by
  unfold dE
  rw [if_neg (by rw [blk_len]; simp), dS_blk, dM_blk, if_pos ⟨h, rfl⟩]
theorem dR_blk {s m : Int} (h : eE s m = 0) : dR (blk s m) = (s, m) := by
  unfold dR
  rw [if_pos (dE_blk h), dS_blk, dM_blk]
/-- a block that is no inode block but differs from one never decodes to the same -/
theorem notices {s m : Int} (h : eE s m = 0) {c : By} (hl : c.length = 32) (hne : c ≠ blk s m) : dE c = 22 ∨ (dE c = 0 ∧ ¬ (dR c = (s, m))) := by
  by_cases e : dE c = 0
  · refine Or.inr ⟨e, fun he => hne ?_⟩
    have := (dE_zero e).2.2
    unfold dR at he
    rw [if_pos e] at he
    injection he with h1 h2
    rw [h1, h2] at this
    exact this
  · left
    unfold dE at e ⊢
    rw [if_neg (by omega)] at e ⊢
    split
    · rename_i h2; rw [if_pos h2] at e; omega
    · rfl
-- MASKS
/-- the mask of the first k flags -/
def mk (l : Fs) : Nat → Nat
  | 0 => 0
  | k + 1 => mk l k + (if l.getD k false then 2 ^ k else 0)
theorem mk_lt (l : Fs) : ∀ k, mk l k < 2 ^ k
  | 0 => by simp [mk]
  | k + 1 => by
    have := mk_lt l k
    rw [mk, Nat.pow_succ]
    split <;> omega
theorem mk_bit (l : Fs) : ∀ k i, i < k → (mk l k / 2 ^ i % 2 = 1 ↔ l.getD i false = true)
  | k + 1, i, hi => by
    have hl := mk_lt l k
    have hp : 0 < 2 ^ i := Nat.pow_pos (by omega)
    rcases Nat.lt_or_ge i k with h | h
    · rw [← mk_bit l k i h, mk]
      split
      · have e : 2 ^ k = 2 ^ i * (2 * 2 ^ (k - i - 1)) := by
          rw [← Nat.mul_assoc, ← Nat.pow_succ, ← Nat.pow_add]; congr 1; omega
        rw [e, Nat.add_mul_div_left _ _ hp, Nat.add_mul_mod_self_left]
      · rw [Nat.add_zero]
    · obtain rfl : i = k := by omega
      rw [mk]
      split
      · rename_i hb
        have : (mk l i + 2 ^ i) / 2 ^ i = 1 := by
          rw [Nat.add_div_right _ hp, Nat.div_eq_of_lt hl]
        rw [this]; exact ⟨fun _ => hb, fun _ => rfl⟩
      · rename_i hb
        rw [Nat.add_zero, Nat.div_eq_of_lt hl]
        exact ⟨fun h => by simp at h, fun h => absurd h hb⟩
/-- the list of a mask -/
def bk (m : Int) (n : Nat) : Fs := (List.range n).map fun i => decide (m / 2 ^ i % 2 = 1)
theorem bk_len (m : Int) (n : Nat) : (bk m n).length = n := by simp [bk]
theorem bk_succ (m : Int) (n : Nat) : bk m (n + 1) = bk m n ++ [decide (m / 2 ^ n % 2 = 1)] := by
  unfold bk; rw [List.range_succ, List.map_append]; rfl
theorem bit_cast (a i : Nat) : ((a : Int) / 2 ^ i % 2 = 1) ↔ (a / 2 ^ i % 2 = 1) := by
  have e : ((a : Int) / 2 ^ i % 2) = ((a / 2 ^ i % 2 : Nat) : Int) := by simp
  rw [e]; omega
theorem bk_mk (l : Fs) : bk (mk l l.length : Int) l.length = l := by
  apply List.ext_getElem
  · rw [bk_len]
  · intro i h1 h2
    have e0 : (bk (mk l l.length : Int) l.length)[i] = decide ((mk l l.length : Int) / 2 ^ i % 2 = 1) := by simp [bk]
    rw [e0]
    have := mk_bit l l.length i h2
    rw [← bit_cast] at this
    have e : l.getD i false = l[i] := by rw [List.getD_eq_getElem?_getD, List.getElem?_eq_getElem h2]; rfl
    rw [e] at this
    cases hq : l[i] <;> simp_all
/-- the error of Mask, of Backed -/
def mE (l : Fs) : Int := if l.length ≤ 16 then 0 else 9
def mR (l : Fs) : Int := if l.length ≤ 16 then (mk l l.length : Int) else 0
def bE (m n : Int) : Int := if ¬ (0 ≤ n ∧ n ≤ 16) then 9 else if ¬ (0 ≤ m ∧ m < 2 ^ n.toNat) then 3 else 0
def bR (m n : Int) : Fs := if bE m n = 0 then bk m n.toNat else []
theorem bE_zero {m n : Int} (h : bE m n = 0) : 0 ≤ n ∧ n ≤ 16 ∧ 0 ≤ m ∧ m < 2 ^ n.toNat := by
  unfold bE at h
  split at h
  · omega
  · split at h
    · omega
    · omega
-- LAYOUT
abbrev Is := List Int
/-- the block behind the first k files -/
def fi (L : Is) : Nat → Int
  | 0 => 0
  | k + 1 => fi L k + (1 + L.getD k 0)
def goodF (L : Is) : Prop := ∀ x ∈ L, 1 ≤ x ∧ x ≤ 16
instance (L : Is) : Decidable (goodF L) := by unfold goodF; infer_instance
theorem goodF_at {L : Is} (h : goodF L) {k : Nat} (hk : k < L.length) : 1 ≤ L.getD k 0 ∧ L.getD k 0 ≤ 16 := by
  rw [List.getD_eq_getElem?_getD, List.getElem?_eq_getElem hk]
  exact h _ (List.getElem_mem hk)
theorem fi_bd {L : Is} (h : goodF L) : ∀ k, k ≤ L.length → (k : Int) ≤ fi L k ∧ fi L k ≤ 17 * k
  | 0, _ => by simp [fi]
  | k + 1, hk => by
    have a := fi_bd h k (by omega)
    have b := goodF_at h (show k < L.length by omega)
    rw [fi]
    omega
/-- the first blocks -/
def fl (L : Is) (k : Nat) : Is := (List.range k).map (fi L)
theorem fl_len (L : Is) (k : Nat) : (fl L k).length = k := by simp [fl]
theorem fl_succ (L : Is) (k : Nat) : fl L (k + 1) = fl L k ++ [fi L k] := by
  unfold fl; rw [List.range_succ, List.map_append]; rfl
def lE (L : Is) (s : Int) : Int := if 4 < L.length then 9 else if goodF L ∧ 0 ≤ s ∧ s ≤ 64 then 0 else 2
def lL (L : Is) (s : Int) : Is := fl L L.length ++ [fi L L.length, fi L L.length + s]
def lR (L : Is) (s : Int) : Is := if lE L s = 0 then lL L s else []
theorem lL_len (L : Is) (s : Int) : (lL L s).length = L.length + 2 := by simp [lL, fl_len]
theorem lL_at (L : Is) (s : Int) {k : Nat} (hk : k ≤ L.length) : (lL L s).getD k 0 = fi L k := by
  unfold lL
  rcases Nat.lt_or_ge k L.length with h | h
  · rw [List.getD_eq_getElem?_getD, List.getElem?_append_left (by rw [fl_len]; exact h)]
    unfold fl
    rw [List.getElem?_map, List.getElem?_range h]; rfl
  · obtain rfl : k = L.length := by omega
    rw [List.getD_eq_getElem?_getD, List.getElem?_append_right (by rw [fl_len]; omega), fl_len, Nat.sub_self]
    rfl
theorem lL_last (L : Is) (s : Int) : (lL L s).getD (L.length + 1) 0 = fi L L.length + s := by
  unfold lL
  rw [List.getD_eq_getElem?_getD, List.getElem?_append_right (by rw [fl_len]; omega), fl_len, show L.length + 1 - L.length = 1 by omega]
  rfl
end Go.Proofs.Ytncdilkcblakhaa.In
