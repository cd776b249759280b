import Derived.Test.YtiopfeleaifpbabCk1
namespace Go.Proofs.Ytiopfeleaifpbab.Bd
open Go
set_option linter.unusedVariables false
-- HOW MANY FREE BLOCKS CONTAIN A FRAME
def cn (L : Fl) : Nat → Nat → Nat
  | 0, _ => 0
  | k + 1, x => cn L k x + if cov L k x then 1 else 0
def c2 (L : Fl) (k i x : Nat) : Nat := cn L k x + if dn k x ∈ (L k).take i then 1 else 0
def c3 (L : Fl) (k i : Nat) (a f : Int) (x : Nat) : Nat := c2 L k i x + if dn k x = a ∧ (x : Int) < f then 1 else 0
theorem c2_zero (L : Fl) (k x : Nat) : c2 L k 0 x = cn L k x := by unfold c2; simp
theorem c2_all (L : Fl) (k x : Nat) : c2 L k (L k).length x = cn L (k + 1) x := by unfold c2; rw [List.take_length]; rfl
theorem c3_zero (L : Fl) (k i : Nat) (a : Int) (x : Nat) : c3 L k i a a x = c2 L k i x := by
  unfold c3
  rw [if_neg]
  · rfl
  · rintro ⟨h1, h2⟩
    have := dn_le k x
    omega
theorem tk_mem {l : Is} (hs : Srt l) {i : Nat} (hi : i < l.length) (f : Int) : f ∈ l.take (i + 1) ↔ f ∈ l.take i ∨ f = l.getD i 0 := by
  rw [List.take_succ_eq_append_getElem hi, List.mem_append, List.mem_singleton, List.getD_eq_getElem?_getD, List.getElem?_eq_getElem hi]; rfl
theorem tk_no {l : Is} (hs : Srt l) {i : Nat} (hi : i < l.length) : l.getD i 0 ∉ l.take i := by
  intro h
  obtain ⟨j, hj, e⟩ := List.mem_iff_getElem.1 h
  rw [List.length_take] at hj
  rw [List.getElem_take] at e
  have := srt_at hs (show j < i by omega) hi
  rw [List.getD_eq_getElem?_getD, List.getElem?_eq_getElem (by omega : j < l.length)] at this
  simp only [Option.getD_some] at this
  omega
theorem c3_all {L : Fl} {k i : Nat} (hk : k < 5) (hs : Srt (L k)) (hi : i < (L k).length) (hm : (L k).getD i 0 % bw k = 0) (x : Nat) : c3 L k i ((L k).getD i 0) ((L k).getD i 0 + bw k) x = c2 L k (i + 1) x := by
  unfold c3 c2
  have hn := tk_no hs hi
  have hl := dn_lt k x
  by_cases e : dn k x = (L k).getD i 0
  · rw [if_neg (show ¬ (dn k x ∈ (L k).take i) by rw [e]; exact hn), if_pos (show dn k x = (L k).getD i 0 ∧ (x : Int) < (L k).getD i 0 + bw k from ⟨e, by omega⟩), if_pos ((tk_mem hs hi _).2 (.inr e))]
  · rw [if_neg (show ¬ (dn k x = (L k).getD i 0 ∧ (x : Int) < (L k).getD i 0 + bw k) from fun h => e h.1)]
    by_cases h : dn k x ∈ (L k).take i
    · rw [if_pos h, if_pos ((tk_mem hs hi _).2 (.inl h))]
    · rw [if_neg h, if_neg (fun h2 => by rcases (tk_mem hs hi _).1 h2 with h3 | h3; exact h h3; exact e h3)]
theorem c3_step {L : Fl} {k i : Nat} {a : Int} {f : Nat} (hf : dn k f = a) (x : Nat) : c3 L k i a ((f : Int) + 1) x = if x = f then c3 L k i a f x + 1 else c3 L k i a f x := by
  unfold c3
  by_cases e : x = f
  · subst e
    rw [if_pos rfl, if_pos ⟨hf, by omega⟩, if_neg (fun h => by omega)]
  · rw [if_neg e]
    by_cases h : dn k x = a ∧ (x : Int) < (f : Int)
    · rw [if_pos h, if_pos ⟨h.1, by omega⟩]
    · rw [if_neg h, if_neg (fun h2 => h ⟨h2.1, by omega⟩)]
theorem c3_self {L : Fl} {k i : Nat} {a : Int} {f : Nat} (hf : dn k f = a) (hn : a ∉ (L k).take i) : c3 L k i a f f = cn L k f := by
  unfold c3 c2
  rw [if_neg (show ¬ (dn k f = a ∧ (f : Int) < (f : Int)) from fun h => by omega), if_neg (show ¬ (dn k f ∈ (L k).take i) by rw [hf]; exact hn)]
  rfl
theorem cn_mono (L : Fl) (x : Nat) : ∀ {i j : Nat}, i ≤ j → cn L i x ≤ cn L j x := by
  intro i j h
  induction h with
  | refl => exact Nat.le_refl _
  | step _ ih => exact Nat.le_trans ih (Nat.le_add_right _ _)
theorem cn_one {L : Fl} {k : Nat} {x : Nat} (h : cov L k x) : cn L (k + 1) x = cn L k x + 1 := by
  show cn L k x + _ = _
  rw [if_pos h]
theorem cn_no {L : Fl} {k : Nat} {x : Nat} (h : ¬ cov L k x) : cn L (k + 1) x = cn L k x := by
  show cn L k x + _ = _
  rw [if_neg h]; rfl
/-- one above means two free blocks -/
theorem dj_iff (L : Fl) : Dj L ↔ ∀ x : Nat, x < 256 → cn L 5 x ≤ 1 := by
  constructor
  · intro h x hx
    rcases Classical.em (∃ k, k < 5 ∧ cov L k x) with ⟨k, hk, hc⟩ | hn
    · have H : ∀ n, n ≤ 5 → cn L n x = if k < n then 1 else 0 := by
        intro n
        induction n with
        | zero => intro _; simp [cn]
        | succ n ih =>
          intro hn
          have ih := ih (by omega)
          by_cases e : cov L n x
          · have : k = n := h x hx k hk n (by omega) hc e
            subst this
            rw [cn_one e, ih, if_neg (by omega), if_pos (by omega)]
          · rw [cn_no e, ih]
            have : k ≠ n := fun e2 => e (by rw [← e2]; exact hc)
            by_cases hkn : k < n
            · rw [if_pos hkn, if_pos (by omega)]
            · rw [if_neg hkn, if_neg (by omega)]
      rw [H 5 (Nat.le_refl _), if_pos hk]; exact Nat.le_refl _
    · have H : ∀ n, n ≤ 5 → cn L n x = 0 := by
        intro n
        induction n with
        | zero => intro _; rfl
        | succ n ih =>
          intro hn2
          rw [cn_no (fun e => hn ⟨n, by omega, e⟩)]
          exact ih (by omega)
      rw [H 5 (Nat.le_refl _)]; omega
  · intro h x hx k hk j hj a b
    have two : ∀ k j, k < j → j < 5 → cov L k x → cov L j x → False := fun k j hkj hj a b => by
      have h1 := cn_one a
      have h2 := cn_one b
      have h3 := cn_mono L x (show k + 1 ≤ j by omega)
      have h4 := cn_mono L x (show j + 1 ≤ 5 by omega)
      have := h x hx
      omega
    rcases Nat.lt_trichotomy k j with e | e | e
    · exact (two k j e hj a b).elim
    · exact e
    · exact (two j k e hk b a).elim
theorem cn_pos {L : Fl} {x : Nat} : ∀ {n : Nat}, 0 < cn L n x ↔ ∃ k, k < n ∧ cov L k x
  | 0 => by simp [cn]
  | n + 1 => by
    by_cases e : cov L n x
    · rw [cn_one e]
      exact ⟨fun _ => ⟨n, by omega, e⟩, fun _ => by omega⟩
    · rw [cn_no e, cn_pos]
      constructor
      · rintro ⟨k, h1, h2⟩; exact ⟨k, by omega, h2⟩
      · rintro ⟨k, h1, h2⟩
        refine ⟨k, ?_, h2⟩
        rcases Nat.lt_or_ge k n with h3 | h3
        · exact h3
        · have : k = n := by omega
          subst this; exact absurd h2 e
theorem cn_in {L : Fl} {x : Nat} : 0 < cn L 5 x ↔ InS L x := cn_pos
theorem cn_le (L : Fl) (x : Nat) : ∀ n, cn L n x ≤ n
  | 0 => Nat.le_refl _
  | n + 1 => by
    have := cn_le L x n
    show cn L n x + _ ≤ _
    split <;> omega
theorem c2_le (L : Fl) (k i x : Nat) : c2 L k i x ≤ k + 1 := by
  have := cn_le L x k
  unfold c2; split <;> omega
theorem c3_le (L : Fl) (k i : Nat) (a f : Int) (x : Nat) : c3 L k i a f x ≤ k + 2 := by
  have := c2_le L k i x
  unfold c3; split <;> omega
end Go.Proofs.Ytiopfeleaifpbab.Bd
