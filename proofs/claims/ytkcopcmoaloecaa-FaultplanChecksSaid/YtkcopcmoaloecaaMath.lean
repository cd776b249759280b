import Derived.WalkKit
/-
  DERIVED. Fault cases as values: the error of one, the plan, the case after it, and how far the end is.
-/
namespace Go.Proofs.Ytkcopcmoaloecaa.Fp
open Go
set_option linter.unusedVariables false
set_option linter.unusedSimpArgs false
structure Fc where
  wr : Bool
  rg : Bool
  pr : Int
  sh : Bool
  fi : Bool
  be : Bool
  bu : Bool
  en : Int
  wb : Bool
  tr : Bool
  ow : Bool
  on : Bool
  ca : Bool
  ba : Bool
  di : Bool
  fu : Bool
  mi : Int
deriving DecidableEq
structure P5 where
  ac : Int
  er : Int
  wa : Int
  ke : Int
  us : Int
deriving DecidableEq
def p0 : P5 := ⟨0, 0, 0, 0, 0⟩
def c0 : Fc := ⟨false, false, 0, false, false, false, false, 0, false, false, false, false, false, false, false, false, 0⟩
def kindB (e : Int) : Bool := e == 0 || e == 1 || e == 2 || e == 3
def cwB (c : Fc) : Bool := c.pr == 3
def pgB (c : Fc) : Bool := c.en == 1
def swB (c : Fc) : Bool := c.en == 2
def hcB (c : Fc) : Bool := swB c || c.ow && (pgB c || c.en == 3)
/-- what the fields say agrees -/
def fmB (c : Fc) : Bool :=
  !(!c.fi && (c.sh || c.be || c.bu || c.ba || c.di || c.fu)) && !(decide (0 < c.mi) && c.en != 0) && !(c.sh && c.ow) && !(c.on && !c.ow) &&
  !(c.wb && (!pgB c || !cwB c || !c.on && !(c.sh && c.di))) &&
  (if c.en = 0 then !c.ow && !c.on && (c.fi || !c.ca) && (c.ca || !c.tr) else if c.en = 2 then c.ow && (c.ca || !c.tr) else if c.en = 3 then !c.ca && (c.fi || c.ow) && c.tr else !c.ca && (c.fi || c.ow))
/-- the error of a case -/
def chk (c : Fc) : Int := if kindB c.en = false then 1 else if c.mi < 0 ∨ 2 < c.mi then 2 else if c.rg = false then 0 else if c.pr ≠ 1 ∧ c.pr ≠ 3 then 1 else if fmB c = false then 3 else 0
/-- the rules -/
def rl (k : Nat) (c : Fc) : Bool := match k with
  | 0 => !c.rg
  | 1 => c.wr && !cwB c
  | 2 => c.be && !hcB c
  | 3 => pgB c && (!c.wr || c.wb)
  | 4 => c.bu && !hcB c
  | 5 => c.tr
  | 6 => pgB c && c.ow && c.on
  | 7 => pgB c && !c.sh
  | 8 => pgB c && !c.di && c.fu
  | 9 => pgB c
  | 10 => swB c && c.ca
  | 11 => swB c
  | 12 => !c.fi
  | 13 => c.ca
  | 14 => !c.ba
  | _ => true
def rp (k : Nat) (mi : Int) : P5 := match k with
  | 0 => ⟨1, 13, 0, 0, 0⟩
  | 1 => ⟨1, 12, 0, 0, 0⟩
  | 2 => ⟨1, 14, 0, 0, 0⟩
  | 3 => ⟨0, 0, 0, 0, 0⟩
  | 4 => ⟨2, 0, 4, 0, 0⟩
  | 5 => ⟨2, 0, 3, 0, 0⟩
  | 6 => ⟨8, 0, 0, 0, 0⟩
  | 7 => ⟨9, 0, 0, 0, 1⟩
  | 8 => ⟨2, 0, 5, 0, 0⟩
  | 9 => ⟨7, 0, 0, 0, 0⟩
  | 10 => ⟨10, 0, 0, 0, 0⟩
  | 11 => ⟨11, 0, 0, 0, 1⟩
  | 12 => ⟨3, 0, 0, mi, 1⟩
  | 13 => ⟨6, 0, 0, mi, 0⟩
  | 14 => ⟨4, 0, 0, mi, 1⟩
  | _ => ⟨5, 0, 0, 0, 1⟩
/-- the first number from k on that p holds of, n more at most -/
def fst (p : Nat → Bool) : Nat → Nat → Nat
  | 0, k => k
  | n + 1, k => if p k = true then k else fst p n (k + 1)
theorem fst_le (p : Nat → Bool) : ∀ n k, k ≤ fst p n k ∧ fst p n k ≤ k + n
  | 0, k => ⟨Nat.le_refl _, Nat.le_refl _⟩
  | n + 1, k => by
    unfold fst
    split
    · omega
    · have := fst_le p n (k + 1); omega
theorem fst_no (p : Nat → Bool) : ∀ n k j, k ≤ j → j < fst p n k → p j = false
  | 0, k, j, h, h2 => by unfold fst at h2; omega
  | n + 1, k, j, h, h2 => by
    unfold fst at h2
    split at h2
    · omega
    · rcases Nat.eq_or_lt_of_le h with rfl | h3
      · simpa using ‹¬ p k = true›
      · exact fst_no p n (k + 1) j h3 h2
theorem fst_is (p : Nat → Bool) : ∀ n k, p (k + n) = true → p (fst p n k) = true
  | 0, k, h => h
  | n + 1, k, h => by
    unfold fst
    split
    · assumption
    · exact fst_is p n (k + 1) (by rw [show k + 1 + n = k + (n + 1) by omega]; exact h)
theorem fst_eq {p : Nat → Bool} {n k : Nat} (h : ∀ j, j < k → p j = false) (hk : p k = true) (hn : k ≤ n) : fst p n 0 = k := by
  rcases Nat.lt_trichotomy (fst p n 0) k with h1 | h1 | h1
  · have h2 : p n = true ∨ n ≠ k := by
      rcases Nat.eq_or_lt_of_le hn with rfl | h3
      · exact .inl hk
      · exact .inr (by omega)
    exfalso
    have aux : ∀ m j, j + m = n → j ≤ k → (∀ i, i < k → p i = false) → k ≤ fst p m j := by
      intro m
      induction m with
      | zero => intro j e hj hh; unfold fst; omega
      | succ m ih =>
        intro j e hj hh
        unfold fst
        split
        · rcases Nat.lt_or_ge j k with h4 | h4
          · rw [hh j h4] at *; contradiction
          · exact h4
        · rcases Nat.lt_or_ge j k with h4 | h4
          · exact ih (j + 1) (by omega) h4 hh
          · have := (fst_le p m (j + 1)).1; omega
    have := aux n 0 (by omega) (by omega) h
    omega
  · exact h1
  · rw [fst_no p n 0 k (by omega) h1] at hk; cases hk
/-- the number of the first rule that applies -/
def ix (c : Fc) : Nat := fst (fun k => rl k c) 15 0
theorem ix_le (c : Fc) : ix c ≤ 15 := by have := (fst_le (fun k => rl k c) 15 0).2; unfold ix; omega
theorem ix_no {c : Fc} {j : Nat} (h : j < ix c) : rl j c = false := fst_no (fun k => rl k c) 15 0 j (Nat.zero_le _) h
theorem ix_is (c : Fc) : rl (ix c) c = true := fst_is (fun k => rl k c) 15 0 rfl
theorem ix_eq {c : Fc} {k : Nat} (h : ∀ j, j < k → rl j c = false) (hk : rl k c = true) (hn : k ≤ 15) : ix c = k := fst_eq h hk hn
def pl (c : Fc) : P5 := rp (ix c) c.mi
def plE (c : Fc) : P5 := if chk c = 0 then pl c else p0
def aw (c : Fc) (w : Int) : Fc := if w = 4 then { c with bu := false } else if w = 3 then { c with tr := false, en := if c.en = 3 then 1 else c.en } else if w = 5 then { c with fu := false } else c
def cr (c : Fc) (p : P5) : Fc :=
  if p.ac = 2 then aw c p.wa else if p.ac = 8 then { c with wb := true } else if p.ac = 7 then { c with di := true, wb := true } else if p.ac = 9 then { c with ow := true, on := true, wb := true }
  else if p.ac = 10 then { c with en := 1, ca := false, wb := c.on && cwB c } else if p.ac = 3 then { c with en := 1, mi := 0, ow := true, on := true, wb := cwB c } else if p.ac = 6 then { c with en := 1, mi := 0, ca := false }
  else if p.ac = 11 ∨ p.ac = 4 ∨ p.ac = 5 then { c with ca := true } else c
def nx (c : Fc) : Fc := cr c (pl c)
def afE (c : Fc) : Fc := if chk c = 0 then nx c else c0
def dn (c : Fc) : Bool := decide ((pl c).ac = 0 ∨ (pl c).ac = 1)
def dnE (c : Fc) : Bool := decide (chk c = 0) && dn c
/-- how far the end is -/
def far (c : Fc) : Nat := c.bu.toNat + c.tr.toNat + (c.fu && !c.di).toNat + (if c.en = 2 then (if c.ca then 2 else 3) else if c.en = 0 then (if c.ca then 2 else 3) else (c.wr && !c.wb).toNat)
theorem far_le (c : Fc) : far c ≤ 6 := by
  unfold far
  have h (b : Bool) : b.toNat ≤ 1 := by cases b <;> decide
  have := h c.bu; have := h c.tr; have := h (c.fu && !c.di); have := h (c.wr && !c.wb)
  split <;> (try split) <;> (try split) <;> omega
theorem chk_0 {c : Fc} (h : chk c = 0) (hr : c.rg = true) : (c.en = 0 ∨ c.en = 1 ∨ c.en = 2 ∨ c.en = 3) ∧ (0 ≤ c.mi ∧ c.mi ≤ 2) ∧ (c.pr = 1 ∨ c.pr = 3) ∧ fmB c = true := by
  unfold chk kindB at h
  split at h
  · omega
  split at h
  · omega
  split at h
  · simp_all
  split at h
  · omega
  split at h
  · omega
  refine ⟨?_, by omega, by omega, by simpa using ‹¬ fmB c = false›⟩
  simp_all
  omega
theorem rp_ac1 {k : Nat} {m : Int} (hk : k ≤ 15) : (rp k m).ac = 1 ↔ k ≤ 2 := by
  match k, hk with
  | 0, _ | 1, _ | 2, _ | 3, _ | 4, _ | 5, _ | 6, _ | 7, _ | 8, _ | 9, _ | 10, _ | 11, _ | 12, _ | 13, _ | 14, _ | 15, _ => simp [rp]
theorem rp_ac0 {k : Nat} {m : Int} (hk : k ≤ 15) : (rp k m).ac = 0 ↔ k = 3 := by
  match k, hk with
  | 0, _ | 1, _ | 2, _ | 3, _ | 4, _ | 5, _ | 6, _ | 7, _ | 8, _ | 9, _ | 10, _ | 11, _ | 12, _ | 13, _ | 14, _ | 15, _ => simp [rp]
theorem ix_low {c : Fc} (h0 : rl 0 c = false) (h1 : rl 1 c = false) (h2 : rl 2 c = false) : 3 ≤ ix c := by
  rcases Nat.lt_or_ge (ix c) 3 with h | h
  · have e := ix_is c
    have : ix c = 0 ∨ ix c = 1 ∨ ix c = 2 := by omega
    rcases this with h3 | h3 | h3 <;> rw [h3] at e <;> simp_all
  · exact h
/-- a step that leads on: valid, nearer the end, not refused, and with what the law of private regions says -/
def Nxt (c d : Fc) : Prop := chk d = 0 ∧ far d < far c ∧ rl 0 d = false ∧ rl 1 d = false ∧ rl 2 d = false ∧ d ≠ c ∧ d.sh = c.sh ∧ d.rg = c.rg ∧ (c.sh = false → d.di = c.di) ∧ (c.sh = true → d.ow = false)
set_option maxHeartbeats 8000000 in
theorem nxt_of {c : Fc} (h : chk c = 0) (h4 : 4 ≤ ix c) : Nxt c (nx c) := by
  have h0 : rl 0 c = false := ix_no (by omega)
  have h1 : rl 1 c = false := ix_no (by omega)
  have h2 : rl 2 c = false := ix_no (by omega)
  have h3 : rl 3 c = false := ix_no (by omega)
  have hi := ix_is c
  have hr : c.rg = true := by simpa [rl] using h0
  obtain ⟨e1, e2, e3, e4⟩ := chk_0 h hr
  unfold nx pl
  have n4 : 4 < ix c → rl 4 c = false := fun hj => ix_no hj
  have n5 : 5 < ix c → rl 5 c = false := fun hj => ix_no hj
  have n6 : 6 < ix c → rl 6 c = false := fun hj => ix_no hj
  have n7 : 7 < ix c → rl 7 c = false := fun hj => ix_no hj
  have n8 : 8 < ix c → rl 8 c = false := fun hj => ix_no hj
  have n9 : 9 < ix c → rl 9 c = false := fun hj => ix_no hj
  have n10 : 10 < ix c → rl 10 c = false := fun hj => ix_no hj
  have n11 : 11 < ix c → rl 11 c = false := fun hj => ix_no hj
  have n12 : 12 < ix c → rl 12 c = false := fun hj => ix_no hj
  have n13 : 13 < ix c → rl 13 c = false := fun hj => ix_no hj
  have n14 : 14 < ix c → rl 14 c = false := fun hj => ix_no hj
  have hk15 := ix_le c
  clear h
  generalize ix c = k at *
  obtain ⟨wr, rg, pr, sh, fi, be, bu, en, wb, tr, ow, on, ca, ba, di, fu, mi⟩ := c
  dsimp only at hr e1 e2 e3
  subst hr
  have hk : k = 4 ∨ k = 5 ∨ k = 6 ∨ k = 7 ∨ k = 8 ∨ k = 9 ∨ k = 10 ∨ k = 11 ∨ k = 12 ∨ k = 13 ∨ k = 14 ∨ k = 15 := by omega
  rcases hk with rfl | rfl | rfl | rfl | rfl | rfl | rfl | rfl | rfl | rfl | rfl | rfl
  all_goals
    simp only [rl, rp, cr, aw, cwB, hcB, pgB, swB, Nat.reduceLT, forall_const, false_implies, Int.reduceEq, if_true, if_false] at hi h0 h1 h2 h3 n4 n5 n6 n7 n8 n9 n10 n11 n12 n13 n14 ⊢
    clear h4 hk15
    rcases e1 with rfl | rfl | rfl | rfl <;> rcases e3 with rfl | rfl
  all_goals try (simp at hi; done)
  all_goals try (simp at n9; done)
  all_goals try (simp at n11; done)
  all_goals simp [fmB, pgB, cwB] at e4
  all_goals simp [Nxt, chk, kindB, fmB, far, rl, pgB, cwB, hcB, swB]
  all_goals try (grind (splits := 40))
  all_goals (clear n10 n13 n14; (try clear n12); cases wr <;> cases on <;> cases wb <;> cases ow <;> cases ca <;> simp at e4 hi h2 h3 n4 ⊢ <;> grind (splits := 40))
theorem dn_iff (c : Fc) : dn c = true ↔ ix c ≤ 3 := by
  have := ix_le c
  unfold dn pl
  rw [decide_eq_true_iff, rp_ac0 this, rp_ac1 this]
  omega
theorem nx_same {c : Fc} (h : ix c ≤ 3) : nx c = c := by
  unfold nx pl
  have : ix c = 0 ∨ ix c = 1 ∨ ix c = 2 ∨ ix c = 3 := by omega
  rcases this with e | e | e | e <;> rw [e] <;> rfl
/-- the end is where nothing changes -/
theorem nx_iff {c : Fc} (h : chk c = 0) : decide (nx c = c) = dn c := by
  rcases Nat.lt_or_ge (ix c) 4 with h4 | h4
  · rw [decide_eq_true (nx_same (by omega)), (dn_iff c).2 (by omega)]
  · rw [decide_eq_false (nxt_of h h4).2.2.2.2.2.1]
    cases e : dn c
    · rfl
    · have := (dn_iff c).1 e; omega
end Go.Proofs.Ytkcopcmoaloecaa.Fp
