import Derived.Test.YtimclgmajhhheaaRh
/-
  DERIVED. Queues of asks as lists of four numbers: errors, what is missing for an ask, what a queue is granted.
-/
namespace Go.Proofs.Ytimclgmajhhheaa.Gr
open Go Ac
set_option linter.unusedVariables false
structure A4 where
  pc : Int
  ac : Int
  ke : Int
  us : Int
def q0 : A4 := ⟨0, 0, 0, 0⟩
def qAt (Q : List A4) (k : Nat) : A4 := Q.getD k q0
def okQ (a : A4) : Prop := (0 ≤ a.pc ∧ a.pc ≤ 7) ∧ 0 ≤ a.ac ∧ inr a.ke ∧ inr a.us
instance (a : A4) : Decidable (okQ a) := by unfold okQ; infer_instance
def aok (Q : List A4) : Prop := ∀ k, k < Q.length → okQ (qAt Q k)
instance (Q : List A4) : Decidable (aok Q) := by unfold aok; infer_instance
def freeP (Q : List A4) (n : Nat) (p : Int) : Prop := ∀ k, k < n → (qAt Q k).pc ≠ p
instance (Q : List A4) (n : Nat) (p : Int) : Decidable (freeP Q n p) := by unfold freeP; infer_instance
def dst (Q : List A4) : Prop := ∀ j, j < Q.length → freeP Q j (qAt Q j).pc
instance (Q : List A4) : Decidable (dst Q) := by unfold dst; infer_instance
/-- the error of a queue -/
def ckQ (Q : List A4) : Int := if aok Q then (if dst Q then 0 else 7) else 2
theorem ckQ_2 {Q : List A4} (h : ¬ aok Q) : ckQ Q = 2 := if_neg h
theorem ckQ_7 {Q : List A4} (h : aok Q) (h2 : ¬ dst Q) : ckQ Q = 7 := by unfold ckQ; rw [if_pos h, if_neg h2]
theorem ckQ_0 {Q : List A4} (h : aok Q) (h2 : dst Q) : ckQ Q = 0 := by unfold ckQ; rw [if_pos h, if_pos h2]
theorem ckQ_ok {Q : List A4} (h : ckQ Q = 0) : aok Q ∧ dst Q := by
  unfold ckQ at h
  by_cases a : aok Q
  · rw [if_pos a] at h
    by_cases d : dst Q
    · exact ⟨a, d⟩
    · rw [if_neg d] at h; omega
  · rw [if_neg a] at h; omega
theorem qAt_get {Q : List A4} {k : Nat} (h : k < Q.length) : qAt Q k = Q[k] := by
  unfold qAt; rw [List.getD_eq_getElem?_getD, List.getElem?_eq_getElem h]; rfl
theorem qAt_left {Q R : List A4} {k : Nat} (h : k < Q.length) : qAt (Q ++ R) k = qAt Q k := by
  unfold qAt; rw [List.getD_eq_getElem?_getD, List.getD_eq_getElem?_getD, List.getElem?_append_left h]
theorem qAt_last (Q : List A4) (a : A4) : qAt (Q ++ [a]) Q.length = a := by
  unfold qAt; rw [List.getD_eq_getElem?_getD, List.getElem?_append_right (Nat.le_refl _), Nat.sub_self]; rfl
-- PUSH
def psE (Q : List A4) (a : A4) : Int := if ckQ Q = 0 then (if okQ a then (if freeP Q Q.length a.pc then 0 else 7) else 2) else ckQ Q
def psL (Q : List A4) (a : A4) : List A4 := if psE Q a = 0 then Q ++ [a] else []
theorem ck_snoc {Q : List A4} {a : A4} (h : ckQ Q = 0) : ckQ (Q ++ [a]) = psE Q a := by
  obtain ⟨h1, h2⟩ := ckQ_ok h
  have hl : (Q ++ [a]).length = Q.length + 1 := by simp
  unfold psE
  rw [if_pos h]
  by_cases ok : okQ a
  · rw [if_pos ok]
    have ha : aok (Q ++ [a]) := fun k hk => by
      rw [hl] at hk
      by_cases e : k = Q.length
      · rw [e, qAt_last]; exact ok
      · rw [qAt_left (by omega)]; exact h1 k (by omega)
    have hi : ∀ j, j ≤ Q.length → ∀ p, freeP (Q ++ [a]) j p ↔ freeP Q j p := fun j hj p =>
      ⟨fun g k hk => by have := g k hk; rwa [qAt_left (by omega)] at this, fun g k hk => by rw [qAt_left (by omega)]; exact g k hk⟩
    by_cases f : freeP Q Q.length a.pc
    · rw [if_pos f]
      refine ckQ_0 ha (fun j hj => ?_)
      rw [hl] at hj
      by_cases e : j = Q.length
      · subst e; rw [qAt_last]; exact (hi _ (Nat.le_refl _) _).2 f
      · rw [qAt_left (by omega)]; exact (hi _ (by omega) _).2 (h2 j (by omega))
    · rw [if_neg f]
      refine ckQ_7 ha (fun g => f ?_)
      have := g Q.length (by rw [hl]; omega)
      rw [qAt_last] at this
      exact (hi _ (Nat.le_refl _) _).1 this
  · rw [if_neg ok]
    exact ckQ_2 (fun g => ok (by have := g Q.length (by rw [hl]; omega); rwa [qAt_last] at this))
-- CANCEL
def cnE (Q : List A4) (p : Int) : Int := if ckQ Q = 0 then (if freeP Q Q.length p then 6 else 0) else ckQ Q
def flt (Q : List A4) (p : Int) : List A4 := Q.filter fun a => decide (a.pc ≠ p)
def cnL (Q : List A4) (p : Int) : List A4 := if cnE Q p = 0 then flt Q p else []
theorem flt_all {Q : List A4} {p : Int} (h : ∀ a ∈ Q, a.pc ≠ p) : flt Q p = Q := List.filter_eq_self.2 fun a ha => decide_eq_true (h a ha)
theorem flt_cut {Q : List A4} {p : Int} (hd : dst Q) {i : Nat} (hi : i < Q.length) (hp : (qAt Q i).pc = p) : flt Q p = Q.take i ++ Q.drop (i + 1) := by
  have e : Q = Q.take i ++ (Q[i] :: Q.drop (i + 1)) := by
    rw [← List.drop_eq_getElem_cons hi, List.take_append_drop]
  have hl : flt (Q.take i) p = Q.take i := flt_all (fun a ha => by
    obtain ⟨k, hk, rfl⟩ := List.mem_iff_getElem.1 ha
    have hk2 : k < i := by rw [List.length_take] at hk; omega
    have := hd i hi k hk2
    rw [qAt_get (by omega), hp] at this
    rwa [List.getElem_take])
  have hr : flt (Q.drop (i + 1)) p = Q.drop (i + 1) := flt_all (fun a ha => by
    obtain ⟨k, hk, rfl⟩ := List.mem_iff_getElem.1 ha
    rw [List.length_drop] at hk
    have := hd (i + 1 + k) (by omega) i (by omega)
    rw [qAt_get (k := i + 1 + k) (by omega), hp] at this
    rw [List.getElem_drop]
    exact fun h => this h.symm)
  have hm : decide (Q[i].pc ≠ p) = false := by rw [← qAt_get hi, hp]; simp
  conv => lhs; rw [e]
  unfold flt at hl hr ⊢
  rw [List.filter_append, hl, List.filter_cons, hm, hr]
  rfl
theorem flt_snoc {Q : List A4} {p : Int} {k : Nat} (hk : k < Q.length) : flt (Q.take (k + 1)) p = if (qAt Q k).pc = p then flt (Q.take k) p else flt (Q.take k) p ++ [qAt Q k] := by
  rw [List.take_succ_eq_append_getElem hk, ← qAt_get hk]
  unfold flt
  rw [List.filter_append, List.filter_cons, List.filter_nil]
  by_cases c : (qAt Q k).pc = p
  · rw [if_pos c, decide_eq_false (fun h => h c)]; simp
  · rw [if_neg c, decide_eq_true c]; simp
-- SHORT
structure S3 where
  c : Int
  s : Int
  k : Bool
def z3 : S3 := ⟨0, 0, false⟩
def tot (a : A4) : Int := a.ke + a.us
def mxM (n : Int) : Int := if n ≤ -1048576 then -1048576 else n
def shE (a : A4) (L : List A5) : Int := if okQ a then mE L a.ac else 2
def shS (a : A4) (L : List A5) (n m : Int) : S3 := if 0 ≤ stp L (tot a) (pth L a.ac) then ⟨tot a - rm L (stp L (tot a) (pth L a.ac)), stp L (tot a) (pth L a.ac), false⟩
  else if n < a.ke then ⟨a.ke - mxM n, -1, true⟩ else if m < tot a then ⟨tot a - mxM m, -1, false⟩ else ⟨0, -1, false⟩
def shV (a : A4) (L : List A5) (n m : Int) : S3 := if shE a L = 0 then shS a L n m else z3
def hpP (a : A4) (L : List A5) (n m : Int) : Prop := okQ a ∧ mE L a.ac = 0 ∧ (∀ x ∈ pth L a.ac, tot a ≤ mx L x.toNat) ∧ a.ke ≤ n ∧ tot a ≤ m
instance (a : A4) (L : List A5) (n m : Int) : Decidable (hpP a L n m) := by unfold hpP; infer_instance
/-- can an ask never be granted? -/
def hpB (a : A4) (L : List A5) (n m : Int) : Bool := !decide (hpP a L n m)
-- SERVE
def accs (Q : List A4) (L : List A5) : Prop := ∀ k, k < Q.length → (qAt Q k).ac < L.length
instance (Q : List A4) (L : List A5) : Decidable (accs Q L) := by unfold accs; infer_instance
def svE (Q : List A4) (L : List A5) : Int := if ckQ Q = 0 then (if chE L = 0 then (if accs Q L then 0 else 6) else chE L) else ckQ Q
/-- the accounts and the supplies behind the first i asks, if they are granted -/
def svL (Q : List A4) (L : List A5) : Nat → List A5
  | 0 => L
  | i + 1 => adL (svL Q L i) (qAt Q i).ac (tot (qAt Q i))
def sumK (Q : List A4) : Nat → Int
  | 0 => 0
  | i + 1 => sumK Q i + (qAt Q i).ke
def sumT (Q : List A4) : Nat → Int
  | 0 => 0
  | i + 1 => sumT Q i + tot (qAt Q i)
def svS (Q : List A4) (L : List A5) (n m : Int) (i : Nat) : S3 := shS (qAt Q i) (svL Q L i) (n - sumK Q i) (m - sumT Q i)
/-- is ask i granted behind the others? -/
def gr (Q : List A4) (L : List A5) (n m : Int) (i : Nat) : Prop := (svS Q L n m i).c ≤ 0
instance (Q : List A4) (L : List A5) (n m : Int) (i : Nat) : Decidable (gr Q L n m i) := by unfold gr; infer_instance
def svF (Q : List A4) (L : List A5) (n m : Int) : Nat → Nat → Nat
  | 0, i => i
  | f + 1, i => if i < Q.length ∧ gr Q L n m i then svF Q L n m f (i + 1) else i
/-- how many asks are granted -/
def svK (Q : List A4) (L : List A5) (n m : Int) : Nat := svF Q L n m Q.length 0
theorem svF_all {Q : List A4} {L : List A5} {n m : Int} : ∀ (f i : Nat), (∀ j, j < i → gr Q L n m j) → i ≤ Q.length → Q.length ≤ i + f →
    (∀ j, j < svF Q L n m f i → gr Q L n m j) ∧ svF Q L n m f i ≤ Q.length ∧ (svF Q L n m f i < Q.length → ¬ gr Q L n m (svF Q L n m f i))
  | 0, i, h, hi, hf => ⟨h, hi, fun g => absurd (show Q.length ≤ i by omega) (by show ¬ _; have : i < Q.length := g; omega)⟩
  | f + 1, i, h, hi, hf => by
    by_cases c : i < Q.length ∧ gr Q L n m i
    · have e : svF Q L n m (f + 1) i = svF Q L n m f (i + 1) := if_pos c
      rw [e]
      exact svF_all f (i + 1) (fun j hj => if x : j = i then x ▸ c.2 else h j (by omega)) (by omega) (by omega)
    · have e : svF Q L n m (f + 1) i = i := if_neg c
      rw [e]
      exact ⟨h, hi, fun g q => c ⟨g, q⟩⟩
theorem svK_all (Q : List A4) (L : List A5) (n m : Int) : (∀ j, j < svK Q L n m → gr Q L n m j) ∧ svK Q L n m ≤ Q.length ∧ (svK Q L n m < Q.length → ¬ gr Q L n m (svK Q L n m)) :=
  svF_all Q.length 0 (fun j hj => by omega) (Nat.zero_le _) (by omega)
theorem svK_eq {Q : List A4} {L : List A5} {n m : Int} {k : Nat} (h : ∀ j, j < k → gr Q L n m j) (hk : k ≤ Q.length) (h2 : k < Q.length → ¬ gr Q L n m k) : svK Q L n m = k := by
  obtain ⟨a, b, c⟩ := svK_all Q L n m
  rcases Nat.lt_trichotomy (svK Q L n m) k with g | g | g
  · exact absurd (h _ g) (c (by omega))
  · exact g
  · exact absurd (a _ g) (h2 (by omega))
-- WHAT IS GRANTED FITS
theorem pth_ge {L : List A5} (V : Vd L) {a : Int} (h0 : 0 ≤ a) (h1 : a < L.length) : ∀ x ∈ pth L a, 0 ≤ x ∧ x < L.length := fun x hx => by
  have := pth_mem V.tr V.len.2 a (by omega) h1 x hx; omega
theorem stp_lo {L : List A5} {t : Int} : ∀ {l : Is}, (∀ x ∈ l, 0 ≤ x) → -1 ≤ stp L t l
  | [], _ => by show (-1 : Int) ≤ -1; omega
  | x :: l, h => by
    have := h x (List.mem_cons_self ..)
    have ih := stp_lo (L := L) (t := t) (l := l) (fun y hy => h y (List.mem_cons_of_mem _ hy))
    show -1 ≤ (if _ then x else stp L t l)
    split <;> omega
theorem sh_pos {a : A4} {L : List A5} {n m : Int} (V : Vd L) (ok : okQ a) (h1 : a.ac < L.length) (h : (shS a L n m).c ≤ 0) :
    stp L (tot a) (pth L a.ac) = -1 ∧ a.ke ≤ n ∧ tot a ≤ m := by
  have hp := pth_ge V ok.2.1 h1
  have hs := stp_mem (L := L) (n := tot a) (l := pth L a.ac) (fun x hx => (hp x hx).1)
  have hl := stp_lo (L := L) (t := tot a) (l := pth L a.ac) (fun x hx => (hp x hx).1)
  unfold shS at h
  have i1 := ok.2.2.1
  have i2 := ok.2.2.2
  unfold inr at i1 i2
  by_cases c : 0 ≤ stp L (tot a) (pth L a.ac)
  · rw [if_pos c] at h
    have := (hs.2 c).2
    unfold rm at h
    dsimp only at h
    omega
  · rw [if_neg c] at h
    by_cases c2 : n < a.ke
    · rw [if_pos c2] at h
      unfold mxM at h
      dsimp only at h
      split at h <;> omega
    · rw [if_neg c2] at h
      by_cases c3 : m < tot a
      · rw [if_pos c3] at h
        unfold mxM tot at *
        dsimp only at h
        split at h <;> omega
      · exact ⟨by omega, by omega, by omega⟩
theorem sh_nn {a : A4} {L : List A5} {n m : Int} (V : Vd L) (ok : okQ a) (h1 : a.ac < L.length) : 0 ≤ (shS a L n m).c := by
  rcases Int.lt_or_le (shS a L n m).c 0 with h | h
  · obtain ⟨g1, g2, g3⟩ := sh_pos (n := n) (m := m) V ok h1 (by omega)
    unfold shS at h
    rw [if_neg (by omega), if_neg (by omega), if_neg (by omega)] at h
    exact absurd h (by decide)
  · exact h
theorem sh_fit {a : A4} {L : List A5} (V : Vd L) (ok : okQ a) (h1 : a.ac < L.length) (h : stp L (tot a) (pth L a.ac) = -1) : inr (tot a) ∧ Vd (adL L a.ac (tot a)) := by
  have hp := pth_ge V ok.2.1 h1
  have hs := (stp_mem (L := L) (n := tot a) (l := pth L a.ac) (fun x hx => (hp x hx).1)).1 (by omega)
  obtain ⟨k, hk⟩ := Int.eq_ofNat_of_zero_le ok.2.1
  have i1 := ok.2.2.1
  have i2 := ok.2.2.2
  unfold inr at i1 i2
  have hm : a.ac ∈ pth L a.ac := by
    rw [hk]
    rw [pth_cons V.tr V.len.2 (show k < L.length by omega)]
    exact List.mem_cons_self ..
  have r := hs _ hm
  have g := V.rg a.ac.toNat (by omega)
  unfold inr at g
  have ht : 0 ≤ tot a := by unfold tot; omega
  have own0 := V.sta a.ac.toNat (by omega)
  exact ⟨⟨ht, by omega⟩, vd_ad V ok.2.1 h1 hs (by omega)⟩
/-- behind the asks that are granted the accounts are valid, and there is nothing overdrawn -/
theorem sv_vd {Q : List A4} {L : List A5} {n m : Int} (V : Vd L) (ok : aok Q) (ha : accs Q L) : ∀ i, i ≤ Q.length → (∀ j, j < i → gr Q L n m j) →
    Vd (svL Q L i) ∧ (svL Q L i).length = L.length
  | 0, _, _ => ⟨V, rfl⟩
  | i + 1, hi, h => by
    obtain ⟨W, hl⟩ := sv_vd V ok ha i (by omega) (fun j hj => h j (by omega))
    have hac := ha i (by omega)
    have g := sh_pos W (ok i (by omega)) (by omega) (h i (by omega))
    exact ⟨(sh_fit W (ok i (by omega)) (by omega) g.1).2, by show (adL _ _ _).length = _; rw [adL_len, hl]⟩
end Go.Proofs.Ytimclgmajhhheaa.Gr
