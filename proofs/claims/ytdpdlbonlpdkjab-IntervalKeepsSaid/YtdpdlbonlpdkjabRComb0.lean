/-
  Plain mathematics of the reference's combine. No program text.
-/
import Derived.Test.YtdpdlbonlpdkjabMerge0
namespace Go.Proofs.Ytdpdlbonlpdkjab.Iv
set_option linter.unusedVariables false
theorem cnt_same {e : List Int} {a n : Int} (h : ∀ x ∈ e, x ≤ a ↔ x ≤ n) : cnt e a = cnt e n := by
  unfold cnt
  apply List.countP_congr
  intro x hx
  simpa using h x hx
theorem mem_same {L : IL} (hL : asc (edges L)) {a n : Int} (h : ∀ x ∈ edges L, x ≤ a ↔ x ≤ n) : mem L a = mem L n := by
  rw [mem_cnt hL, mem_cnt hL, cnt_same h]
theorem mem_append (A B : IL) (n : Int) : mem (A ++ B) n = (mem A n || mem B n) := by simp [mem]
theorem mem_low {L : IL} (hL : asc (edges L)) {n : Int} (h : ∀ x ∈ edges L, n < x) : mem L n = false := by
  rw [mem_cnt hL, cnt_none h]; rfl
theorem mem_high {L : IL} (hL : asc (edges L)) {n : Int} (h : ∀ x ∈ edges L, x ≤ n) : mem L n = false := by
  rw [mem_cnt hL, cnt_all h, edges_length, odd_dbl]
structure CI (L M : IL) (keep : Bool → Bool → Bool) (p : List Int) (i : Nat) (out : IL) : Prop where
  a : asc (edges out)
  b : ∀ x ∈ edges out, x ≤ p.getD i 0
  m : ∀ n, mem out n = (decide (n < p.getD i 0) && keep (mem L n) (mem M n))
structure PI (L M : IL) (keep : Bool → Bool → Bool) (p : List Int) : Prop where
  hL : asc (edges L)
  hM : asc (edges M)
  hp : asc p
  eL : ∀ x ∈ edges L, x ∈ p
  eM : ∀ x ∈ edges M, x ∈ p
  k0 : keep false false = false
theorem asc_least {p : List Int} (hp : asc p) {x : Int} (hx : x ∈ p) : p.getD 0 0 ≤ x := by
  obtain ⟨k, hk, rfl⟩ := mem_getD hx
  rcases Nat.eq_zero_or_pos k with rfl | h
  · exact Int.le_refl _
  · exact Int.le_of_lt (asc_getD hp h hk)
theorem CI.start {L M : IL} {keep : Bool → Bool → Bool} {p : List Int} (h : PI L M keep p) : CI L M keep p 0 [] :=
  ⟨List.Pairwise.nil, fun x hx => (by cases hx), fun n => by
    by_cases c : n < p.getD 0 0
    · rw [mem_low h.hL fun x hx => Int.lt_of_lt_of_le c (asc_least h.hp (h.eL x hx)), mem_low h.hM fun x hx => Int.lt_of_lt_of_le c (asc_least h.hp (h.eM x hx)), h.k0]
      simp [mem]
    · rw [decide_eq_false c]; simp [mem]⟩
/-- between two neighbours of p nothing turns -/
theorem PI.flat {L M : IL} {keep : Bool → Bool → Bool} {p : List Int} (h : PI L M keep p) {i : Nat} (hi : i + 1 < p.length) {n : Int} (h1 : p.getD i 0 ≤ n) (h2 : n < p.getD (i + 1) 0) : keep (mem L n) (mem M n) = keep (mem L (p.getD i 0)) (mem M (p.getD i 0)) := by
  have key : ∀ x ∈ p, x ≤ p.getD i 0 ↔ x ≤ n := by
    intro x hx
    obtain ⟨k, hk, rfl⟩ := mem_getD hx
    rcases Nat.lt_or_ge i k with c | c
    · have : p.getD (i + 1) 0 ≤ p.getD k 0 := by
        rcases Nat.lt_or_ge (i + 1) k with d | d
        · exact Int.le_of_lt (asc_getD h.hp d hk)
        · have : k = i + 1 := by omega
          rw [this]; exact Int.le_refl _
      have := asc_getD h.hp c hk
      constructor <;> intro <;> omega
    · have : p.getD k 0 ≤ p.getD i 0 := by
        rcases Nat.lt_or_ge k i with d | d
        · exact Int.le_of_lt (asc_getD h.hp d (by omega))
        · have : k = i := by omega
          rw [this]; exact Int.le_refl _
      constructor <;> intro <;> omega
  rw [← mem_same h.hL fun x hx => key x (h.eL x hx), ← mem_same h.hM fun x hx => key x (h.eM x hx)]
theorem CI.skip {L M : IL} {keep : Bool → Bool → Bool} {p : List Int} {i : Nat} {out : IL} (c : CI L M keep p i out) (h : PI L M keep p) (hi : i + 1 < p.length) (hk : keep (mem L (p.getD i 0)) (mem M (p.getD i 0)) = false) : CI L M keep p (i + 1) out := by
  have hlt := asc_getD h.hp (show i < i + 1 by omega) hi
  refine ⟨c.a, fun x hx => Int.le_trans (c.b x hx) (Int.le_of_lt hlt), fun n => ?_⟩
  rw [c.m n]
  by_cases c1 : n < p.getD i 0
  · rw [decide_eq_true c1, decide_eq_true (Int.lt_trans c1 hlt)]
  · rw [decide_eq_false c1, Bool.false_and]
    by_cases c2 : n < p.getD (i + 1) 0
    · rw [h.flat hi (by omega) c2, hk, Bool.and_false]
    · rw [decide_eq_false c2, Bool.false_and]
theorem CI.app {L M : IL} {keep : Bool → Bool → Bool} {p : List Int} {i : Nat} {out : IL} (c : CI L M keep p i out) (h : PI L M keep p) (hi : i + 1 < p.length) (hk : keep (mem L (p.getD i 0)) (mem M (p.getD i 0)) = true) (hne : ∀ x ∈ edges out, x ≠ p.getD i 0) : CI L M keep p (i + 1) (out ++ [(p.getD i 0, p.getD (i + 1) 0)]) := by
  have hlt := asc_getD h.hp (show i < i + 1 by omega) hi
  refine ⟨?_, fun x hx => ?_, fun n => ?_⟩
  · rw [edges_append]
    unfold asc
    rw [List.pairwise_append]
    refine ⟨c.a, by simp [edges]; exact hlt, fun x hx y hy => ?_⟩
    have := c.b x hx
    have := hne x hx
    simp only [edges, List.mem_cons, List.not_mem_nil, or_false] at hy
    rcases hy with rfl | rfl <;> omega
  · rw [edges_append] at hx
    rcases List.mem_append.1 hx with hx | hx
    · exact Int.le_trans (c.b x hx) (Int.le_of_lt hlt)
    · (simp only [edges, List.mem_cons, List.not_mem_nil, or_false] at hx; omega)
  · rw [mem_append, c.m n]
    have e : mem [(p.getD i 0, p.getD (i + 1) 0)] n = (decide (p.getD i 0 ≤ n) && decide (n < p.getD (i + 1) 0)) := by simp [mem]
    rw [e]
    by_cases c1 : n < p.getD i 0
    · rw [decide_eq_true c1, decide_eq_true (Int.lt_trans c1 hlt), decide_eq_false (by omega : ¬ p.getD i 0 ≤ n)]; simp
    · rw [decide_eq_false c1, Bool.false_and, Bool.false_or, decide_eq_true (by omega : p.getD i 0 ≤ n), Bool.true_and]
      by_cases c2 : n < p.getD (i + 1) 0
      · rw [h.flat hi (by omega) c2, hk, Bool.and_true]
      · rw [decide_eq_false c2, Bool.false_and]
theorem CI.ext {L M : IL} {keep : Bool → Bool → Bool} {p : List Int} {i : Nat} {out : IL} {f : Int} (c : CI L M keep p i (out ++ [(f, p.getD i 0)])) (h : PI L M keep p) (hi : i + 1 < p.length) (hk : keep (mem L (p.getD i 0)) (mem M (p.getD i 0)) = true) : CI L M keep p (i + 1) (out ++ [(f, p.getD (i + 1) 0)]) := by
  have hlt := asc_getD h.hp (show i < i + 1 by omega) hi
  have ha := c.a
  rw [edges_append] at ha
  unfold asc at ha
  rw [List.pairwise_append] at ha
  have hft : f < p.getD i 0 := by have := ha.2.1; simp [edges] at this; exact this
  have hof : ∀ x ∈ edges out, x < f := fun x hx => ha.2.2 x hx f (by simp [edges])
  refine ⟨?_, fun x hx => ?_, fun n => ?_⟩
  · rw [edges_append]
    unfold asc
    rw [List.pairwise_append]
    refine ⟨ha.1, List.pairwise_cons.2 ⟨fun z hz => by simp only [edges, List.mem_cons, List.not_mem_nil, or_false] at hz; omega, by simp [edges]⟩, fun x hx y hy => ?_⟩
    have := hof x hx
    simp only [edges, List.mem_cons, List.not_mem_nil, or_false] at hy
    rcases hy with rfl | rfl <;> omega
  · rw [edges_append] at hx
    rcases List.mem_append.1 hx with hx | hx
    · have := hof x hx; omega
    · (simp only [edges, List.mem_cons, List.not_mem_nil, or_false] at hx; omega)
  · have hm := c.m n
    rw [mem_append] at hm ⊢
    have e1 : mem [(f, p.getD i 0)] n = (decide (f ≤ n) && decide (n < p.getD i 0)) := by simp [mem]
    have e2 : mem [(f, p.getD (i + 1) 0)] n = (decide (f ≤ n) && decide (n < p.getD (i + 1) 0)) := by simp [mem]
    rw [e1] at hm
    rw [e2]
    by_cases c1 : n < p.getD i 0
    · rw [decide_eq_true c1] at hm
      rw [decide_eq_true (Int.lt_trans c1 hlt), hm]
    · have ho : mem out n = false := mem_high ha.1 fun x hx => by have := hof x hx; omega
      rw [ho, Bool.false_or, decide_eq_true (by omega : f ≤ n), Bool.true_and]
      by_cases c2 : n < p.getD (i + 1) 0
      · rw [h.flat hi (by omega) c2, hk, Bool.and_true]
      · rw [decide_eq_false c2, Bool.false_and]
theorem CI.done {L M : IL} {keep : Bool → Bool → Bool} {p : List Int} {i : Nat} {out : IL} (c : CI L M keep p i out) (h : PI L M keep p) (hi : ¬ i + 1 < p.length) (hi2 : i = 0 ∨ i < p.length) : asc (edges out) ∧ ∀ n, mem out n = keep (mem L n) (mem M n) := by
  refine ⟨c.a, fun n => ?_⟩
  rw [c.m n]
  by_cases c1 : n < p.getD i 0
  · rw [decide_eq_true c1, Bool.true_and]
  · rw [decide_eq_false c1, Bool.false_and]
    have up : ∀ x ∈ p, x ≤ n := fun x hx => by
      obtain ⟨k, hk, rfl⟩ := mem_getD hx
      have : p.getD k 0 ≤ p.getD i 0 := by
        rcases Nat.lt_or_ge k i with d | d
        · exact Int.le_of_lt (asc_getD h.hp d (by omega))
        · have : k = i := by omega
          rw [this]; exact Int.le_refl _
      omega
    rw [mem_high h.hL fun x hx => up x (h.eL x hx), mem_high h.hM fun x hx => up x (h.eM x hx), h.k0]
theorem set_last (out : IL) (f t q : Int) : edges (out ++ [(f, q)]) = (edges (out ++ [(f, t)])).set (2 * out.length + 1) q := by
  rw [edges_append, edges_append]
  have : 2 * out.length + 1 = (edges out).length + 1 := by rw [edges_length]
  rw [this, List.set_append_right _ _ (by omega), Nat.add_sub_cancel_left]
  rfl
end Go.Proofs.Ytdpdlbonlpdkjab.Iv
