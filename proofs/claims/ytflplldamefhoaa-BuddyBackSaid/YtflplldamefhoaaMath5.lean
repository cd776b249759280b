import Derived.Test.YtflplldamefhoaaR4
namespace Go.Proofs.Ytflplldamefhoaa.Bd
open Go
set_option linter.unusedVariables false
theorem good_max {p : Pm} {S : Int → Prop} {x : Int} : ∀ (n j : Nat), 4 - j = n → j < 5 → good p S j (dn j x) → ∃ i, j ≤ i ∧ i < 5 ∧ mxl p S i (dn i x)
  | 0, j, hn, hj, h => ⟨j, Nat.le_refl _, hj, h, fun h4 => by omega⟩
  | n + 1, j, hn, hj, h => by
    rcases Classical.em (good p S (j + 1) (dn (j + 1) x)) with h2 | h2
    · obtain ⟨i, h3, h4, h5⟩ := good_max n (j + 1) (by omega) (by omega) h2
      exact ⟨i, by omega, h4, h5⟩
    · exact ⟨j, Nat.le_refl _, hj, h, fun _ => by rw [dn_dn (by omega) (by omega)]; exact h2⟩
/-- what is left of a set when the blocks of the orders above k, and those of the order k below f, are taken out -/
def Lf (p : Pm) (S : Int → Prop) (k : Nat) (f x : Int) : Prop := S x ∧ (∀ i, k < i → i < 5 → ¬ mxl p S i (dn i x)) ∧ ¬ (mxl p S k (dn k x) ∧ dn k x < f)
theorem mxl_iff {p : Pm} {S : Int → Prop} {k : Nat} {f : Int} (hk : k < 5) (hb : blk p k f) : (∀ x, f ≤ x → x < f + bw k → Lf p S k f x) ↔ mxl p S k f := by
  have hs : ∀ x, f ≤ x → x < f + bw k → dn k x = f := fun x a b => dn_eq hk hb.1 a b
  constructor
  · intro h
    have gd : good p S k f := ⟨hb, fun x a b => (h x a b).1⟩
    refine ⟨gd, fun h4 hg => ?_⟩
    obtain ⟨i, h1, h2, h3⟩ := good_max (4 - (k + 1)) (k + 1) rfl (by omega) hg
    exact (h f (Int.le_refl _) (by have := bw_pos k; omega)).2.1 i (by omega) h2 h3
  · intro h x a b
    refine ⟨h.1.2 x a b, fun i h1 h2 h3 => ?_, fun h3 => by have := hs x a b; omega⟩
    have e : dn (k + 1) x = dn (k + 1) f := dn_of (by omega) (by omega) ((hs x a b).trans (dn_self hb.1).symm)
    refine h.2 (by omega) ?_
    rw [← e]
    exact good_sub h3.1 (by omega) h2
theorem lf_yes {p : Pm} {S : Int → Prop} {k : Nat} {f x : Int} (hk : k < 5) (h : mxl p S k f) : Lf p S k (f + 1) x ↔ Lf p S k f x ∧ ¬ (f ≤ x ∧ x < f + bw k) := by
  have hb := h.1.1
  have hx : dn k x = f ↔ f ≤ x ∧ x < f + bw k := by
    constructor
    · intro e; have := dn_le k x; have := dn_lt k x; omega
    · rintro ⟨a, b⟩; exact dn_eq hk hb.1 a b
  unfold Lf
  constructor
  · rintro ⟨h1, h2, h3⟩
    refine ⟨⟨h1, h2, fun h4 => h3 ⟨h4.1, by omega⟩⟩, fun h4 => h3 ⟨?_, ?_⟩⟩
    · rw [hx.2 h4]; exact h
    · rw [hx.2 h4]; omega
  · rintro ⟨⟨h1, h2, h3⟩, h4⟩
    refine ⟨h1, h2, fun h5 => ?_⟩
    by_cases e : dn k x = f
    · exact h4 (hx.1 e)
    · exact h3 ⟨h5.1, by omega⟩
theorem lf_no {p : Pm} {S : Int → Prop} {k : Nat} {f x : Int} (h : ¬ mxl p S k f) : Lf p S k (f + 1) x ↔ Lf p S k f x := by
  unfold Lf
  constructor
  · rintro ⟨h1, h2, h3⟩
    exact ⟨h1, h2, fun h4 => h3 ⟨h4.1, by omega⟩⟩
  · rintro ⟨h1, h2, h3⟩
    refine ⟨h1, h2, fun h5 => ?_⟩
    by_cases e : dn k x = f
    · rw [e] at h5; exact h h5.1
    · exact h3 ⟨h5.1, by omega⟩
/-- a new order begins -/
theorem lf_begin {p : Pm} {S : Int → Prop} {k : Nat} {x : Int} : Lf p S k p.st x ↔ S x ∧ ∀ i, k < i → i < 5 → ¬ mxl p S i (dn i x) := by
  unfold Lf
  constructor
  · rintro ⟨h1, h2, _⟩; exact ⟨h1, h2⟩
  · rintro ⟨h1, h2⟩
    exact ⟨h1, h2, fun h => by have := h.1.1.1.2.1; omega⟩
theorem lf_end {p : Pm} {S : Int → Prop} {k : Nat} {x : Int} (hk : k < 5) : Lf p S k (p.st + p.ct) x ↔ S x ∧ ∀ i, k ≤ i → i < 5 → ¬ mxl p S i (dn i x) := by
  unfold Lf
  constructor
  · rintro ⟨h1, h2, h3⟩
    refine ⟨h1, fun i hi h5 h => ?_⟩
    by_cases e : i = k
    · subst e
      exact h3 ⟨h, by have := h.1.1.2.2; have := bw_pos i; omega⟩
    · exact h2 i (by omega) h5 h
  · rintro ⟨h1, h2⟩
    exact ⟨h1, fun i hi h5 => h2 i (by omega) h5, fun h => h2 k (Nat.le_refl _) hk h.1⟩
/-- the blocks of an order that lie below f -/
def Pt (p : Pm) (S : Int → Prop) (k : Nat) (f : Int) (l : Is) : Prop := Srt l ∧ ∀ g, g ∈ l ↔ mxl p S k g ∧ g < f
theorem pt_nil {p : Pm} {S : Int → Prop} {k : Nat} : Pt p S k p.st [] := ⟨List.Pairwise.nil, fun g => ⟨fun h => (by cases h), fun h => by have := h.1.1.1.2.1; omega⟩⟩
theorem pt_yes {p : Pm} {S : Int → Prop} {k : Nat} {f : Int} {l : Is} (h : Pt p S k f l) (hm : mxl p S k f) : Pt p S k (f + 1) (l ++ [f]) := by
  refine ⟨List.pairwise_append.2 ⟨h.1, List.pairwise_singleton _ _, fun a ha b hb => ?_⟩, fun g => ?_⟩
  · rw [List.mem_singleton.1 hb]; exact ((h.2 a).1 ha).2
  · rw [List.mem_append, List.mem_singleton, h.2]
    constructor
    · rintro (⟨h1, h2⟩ | h1)
      · exact ⟨h1, by omega⟩
      · rw [h1]; exact ⟨hm, by omega⟩
    · rintro ⟨h1, h2⟩
      by_cases e : g = f
      · exact .inr e
      · exact .inl ⟨h1, by omega⟩
theorem pt_no {p : Pm} {S : Int → Prop} {k : Nat} {f : Int} {l : Is} (h : Pt p S k f l) (hm : ¬ mxl p S k f) : Pt p S k (f + 1) l := by
  refine ⟨h.1, fun g => ?_⟩
  rw [h.2]
  constructor
  · rintro ⟨h1, h2⟩; exact ⟨h1, by omega⟩
  · rintro ⟨h1, h2⟩
    by_cases e : g = f
    · rw [e] at h1; exact absurd h1 hm
    · exact ⟨h1, by omega⟩
theorem pt_end {p : Pm} {S : Int → Prop} {k : Nat} {l : Is} (h : Pt p S k (p.st + p.ct) l) : Srt l ∧ ∀ g, g ∈ l ↔ mxl p S k g := by
  refine ⟨h.1, fun g => ?_⟩
  rw [h.2]
  exact ⟨fun x => x.1, fun x => ⟨x, by have := x.1.1.2.2; have := bw_pos k; omega⟩⟩
theorem pt_len {p : Pm} {S : Int → Prop} {k : Nat} {f : Int} {l : Is} (hp : par p) (h : Pt p S k f l) : l.length ≤ 256 := by
  rcases len_srt (a := 0) (b := 256) h.1 (fun x hx => by have := blk_bd hp ((h.2 x).1 hx).1.1.1; have := bw_pos k; omega) with h1 | h1
  · omega
  · rw [h1]; simp
/-- the set of the frames whose count is above nought -/
def SC (c : Nat → Nat) (x : Int) : Prop := ∃ n : Nat, x = n ∧ n < 256 ∧ 0 < c n
theorem sc_nat {c : Nat → Nat} {n : Nat} (h : n < 256) : SC c n ↔ 0 < c n := by
  constructor
  · rintro ⟨m, e, _, h2⟩
    have : n = m := by omega
    rw [this]; exact h2
  · intro h2; exact ⟨n, rfl, h, h2⟩
end Go.Proofs.Ytflplldamefhoaa.Bd
