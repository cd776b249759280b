import Derived.Test.YtioffnpnoohbiaaL2
namespace Go.Proofs.Ytioffnpnoohbiaa.Rm
open Go Go.RowKit
set_option linter.unusedVariables false
set_option linter.unusedSimpArgs false
/-- is a mapping in the set that a script makes -/
def inL : List (Bool × Mp) → Mp → Bool → Bool
  | [], _, b => b
  | o :: l, m, b => inL l m (if o.2 = m then !o.1 else b)
theorem inL_app : ∀ (l r : List (Bool × Mp)) (m : Mp) (b : Bool), inL (l ++ r) m b = inL r m (inL l m b)
  | [], _, _, _ => rfl
  | o :: l, r, m, b => by simp only [List.cons_append, inL]; exact inL_app l r m _
def inK (O : List (Bool × Mp)) (k : Nat) (m : Mp) : Bool := inL (O.take k) m false
theorem oAt_get {O : List (Bool × Mp)} {k : Nat} (h : k < O.length) : oAt O k = O[k] := by
  unfold oAt
  rw [List.getD_eq_getElem?_getD, List.getElem?_eq_getElem h]; rfl
theorem inK_snoc {O : List (Bool × Mp)} {k : Nat} (h : k < O.length) (m : Mp) : inK O (k + 1) m = if (oAt O k).2 = m then !(oAt O k).1 else inK O k m := by
  unfold inK
  rw [List.take_succ_eq_append_getElem h, inL_app, ← oAt_get h]
  rfl
theorem inK_0 (O : List (Bool × Mp)) (m : Mp) : inK O 0 m = false := rfl
theorem inK_eq {O : List (Bool × Mp)} {k : Nat} (h : k < O.length) {m : Mp} (e : (oAt O k).2 = m) : inK O (k + 1) m = !(oAt O k).1 := by rw [inK_snoc h, if_pos e]
theorem inK_ne {O : List (Bool × Mp)} {k : Nat} (h : k < O.length) {m : Mp} (e : ¬ (oAt O k).2 = m) : inK O (k + 1) m = inK O k m := by rw [inK_snoc h, if_neg e]
/-- what is known of the list and of all that was added, behind k operations -/
structure Inv (O : List (Bool × Mp)) (k : Nat) (S AL : List Mp) : Prop where
  ck : ck S = 0
  mem : ∀ m, m ∈ S ↔ vM m ∧ inK O k m = true
  val : ∀ m ∈ AL, vM m
  sub : ∀ m ∈ S, m ∈ AL
  len : S.length ≤ k
  alen : AL.length ≤ k
theorem Inv.start (O : List (Bool × Mp)) : Inv O 0 [] [] := ⟨by decide, fun m => by simp [inK_0], fun m h => (by cases h), fun m h => (by cases h), Nat.le_refl _, Nat.le_refl _⟩
theorem Inv.skip {O : List (Bool × Mp)} {k : Nat} {S AL : List Mp} (h : Inv O k S AL) (hk : k < O.length) (c : ¬ vM (oAt O k).2 ∨ inK O k (oAt O k).2 = !(oAt O k).1) : Inv O (k + 1) S AL := by
  refine ⟨h.ck, fun m => ?_, h.val, h.sub, by have := h.len; omega, by have := h.alen; omega⟩
  rw [h.mem]
  by_cases e : (oAt O k).2 = m
  · rw [inK_eq hk e]
    rcases c with c | c
    · rw [e] at c; simp [c]
    · rw [e] at c; rw [c]
  · rw [inK_ne hk e]
theorem Inv.add {O : List (Bool × Mp)} {k : Nat} {S AL : List Mp} (h : Inv O k S AL) (hk : k < O.length) (hv : vM (oAt O k).2) (hi : inK O k (oAt O k).2 = false) (hr : (oAt O k).1 = false) : (oAt O k).2 ∉ S ∧ adE S (oAt O k).2 = 0 ∧ Inv O (k + 1) (adL S (oAt O k).2) (AL ++ [(oAt O k).2]) := by
  have hm : (oAt O k).2 ∉ S := fun g => by have := ((h.mem _).1 g).2; rw [hi] at this; cases this
  have E : adE S (oAt O k).2 = 0 := by unfold adE; rw [if_pos h.ck, if_pos hv, if_neg hm]
  have EL : adL S (oAt O k).2 = ins S (oAt O k).2 := if_pos E
  obtain ⟨o1, o2⟩ := ck_ok h.ck
  refine ⟨hm, E, ?_⟩
  rw [EL]
  refine ⟨ck_0 (ins_aok o1 hv) (ins_srt o2 hm), fun m => ?_, fun m hx => ?_, fun m hx => ?_, by rw [ins_length]; have := h.len; omega, by simp; exact h.alen⟩
  · rw [ins_mem, h.mem]
    by_cases e : (oAt O k).2 = m
    · rw [inK_eq hk e, hr, ← e]; simp [hv]
    · rw [inK_ne hk e]
      constructor
      · rintro (g | g)
        · exact absurd g.symm e
        · exact g
      · exact Or.inr
  · rcases List.mem_append.1 hx with g | g
    · exact h.val m g
    · rw [List.mem_singleton.1 g]; exact hv
  · rcases ins_mem.1 hx with g | g
    · exact List.mem_append.2 (Or.inr (by simp [g]))
    · exact List.mem_append.2 (Or.inl (h.sub m g))
theorem Inv.rem {O : List (Bool × Mp)} {k : Nat} {S AL : List Mp} (h : Inv O k S AL) (hk : k < O.length) (hv : vM (oAt O k).2) (hi : inK O k (oAt O k).2 = true) (hr : (oAt O k).1 = true) : reE S (oAt O k).2 = 0 ∧ Inv O (k + 1) (reL S (oAt O k).2) AL := by
  have hm : (oAt O k).2 ∈ S := (h.mem _).2 ⟨hv, hi⟩
  have E : reE S (oAt O k).2 = 0 := by unfold reE; rw [if_pos h.ck, if_pos hm]
  have EL : reL S (oAt O k).2 = S.filter (fun x => decide (x ≠ (oAt O k).2)) := if_pos E
  obtain ⟨o1, o2⟩ := ck_ok h.ck
  refine ⟨E, ?_⟩
  rw [EL]
  refine ⟨ck_0 (fun m hx => o1 m (List.mem_filter.1 hx).1) (o2.sublist List.filter_sublist), fun m => ?_, h.val, fun m hx => h.sub m (List.mem_filter.1 hx).1, Nat.le_trans (List.length_filter_le _ _) (by have := h.len; omega), by have := h.alen; omega⟩
  rw [List.mem_filter, h.mem, decide_eq_true_eq]
  by_cases e : (oAt O k).2 = m
  · rw [inK_eq hk e, hr, e]; simp
  · rw [inK_ne hk e]
    exact ⟨fun g => g.1, fun g => ⟨g, fun c => e c.symm⟩⟩
theorem Inv.no {O : List (Bool × Mp)} {k : Nat} {S AL : List Mp} (h : Inv O k S AL) {m : Mp} : (¬ vM m → adE S m = 2 ∧ reE S m = 6) ∧ (vM m → inK O k m = true → adE S m = 7) ∧ (inK O k m = false → reE S m = 6) := by
  have n1 : ∀ hm : m ∉ S, reE S m = 6 := fun hm => by unfold reE; rw [if_pos h.ck, if_neg hm]
  refine ⟨fun g => ⟨by unfold adE; rw [if_pos h.ck, if_neg g], n1 fun k => g ((h.mem m).1 k).1⟩, fun g k => ?_, fun g => n1 fun k => by have := ((h.mem m).1 k).2; rw [g] at this; cases this⟩
  unfold adE; rw [if_pos h.ck, if_pos g, if_pos ((h.mem m).2 ⟨g, k⟩)]
/-- each of a list once, where it is last -/
def dd : List Mp → List Mp
  | [] => []
  | a :: l => if a ∈ l then dd l else a :: dd l
theorem dd_mem : ∀ {l : List Mp} {m : Mp}, m ∈ dd l ↔ m ∈ l
  | [], m => Iff.rfl
  | a :: l, m => by
    unfold dd
    by_cases c : a ∈ l
    · rw [if_pos c, dd_mem (l := l), List.mem_cons]
      exact ⟨Or.inr, fun g => g.elim (fun e => e ▸ c) (fun g => g)⟩
    · rw [if_neg c, List.mem_cons, List.mem_cons, dd_mem (l := l)]
theorem dd_nodup : ∀ l : List Mp, (dd l).Nodup
  | [] => List.nodup_nil
  | a :: l => by
    unfold dd
    by_cases c : a ∈ l
    · rw [if_pos c]; exact dd_nodup l
    · rw [if_neg c]; exact List.nodup_cons.2 ⟨fun g => c (dd_mem.1 g), dd_nodup l⟩
def cnt (O : List (Bool × Mp)) (l : List Mp) : Nat := ((dd l).filter fun m => inK O O.length m).length
theorem cnt_cons (O : List (Bool × Mp)) (a : Mp) (l : List Mp) : cnt O (a :: l) = (if a ∉ l ∧ inK O O.length a = true then 1 else 0) + cnt O l := by
  unfold cnt
  by_cases c : a ∈ l
  · rw [show dd (a :: l) = dd l from if_pos c, if_neg (fun g => g.1 c), Nat.zero_add]
  · rw [show dd (a :: l) = a :: dd l from if_neg c, List.filter_cons]
    by_cases d : inK O O.length a = true
    · rw [if_pos d, if_pos ⟨c, d⟩, List.length_cons, Nat.add_comm]
    · rw [if_neg d, if_neg (fun g => d g.2), Nat.zero_add]
theorem Inv.count {O : List (Bool × Mp)} {S AL : List Mp} (h : Inv O O.length S AL) : cnt O AL = S.length := by
  unfold cnt
  refine List.Perm.length_eq ((List.perm_ext_iff_of_nodup ((dd_nodup AL).sublist List.filter_sublist) (srt_nodup (ck_ok h.ck).2)).2 fun m => ?_)
  rw [List.mem_filter, dd_mem, h.mem]
  exact ⟨fun g => ⟨h.val m g.1, g.2⟩, fun g => ⟨h.sub m ((h.mem m).2 g), g.2⟩⟩
theorem Inv.has {O : List (Bool × Mp)} {S AL : List Mp} (h : Inv O O.length S AL) {m : Mp} (hm : m ∈ AL) : hs S m = inK O O.length m := by
  unfold hs
  have hv := h.val m hm
  by_cases c : inK O O.length m = true
  · rw [c]; exact decide_eq_true ⟨h.ck, (h.mem m).2 ⟨hv, c⟩⟩
  · rw [Bool.not_eq_true] at c
    rw [c]
    exact decide_eq_false fun g => by have := ((h.mem m).1 g.2).2; rw [c] at this; cases this
theorem Ms.drop {w : World} {b off : Nat} {L : List Mp} (h : Ms w (some ⟨b, off, none⟩) L) (i : Nat) : Ms w (some ⟨b, off + i * 2, none⟩) (L.drop i) := fun hn => by
  have hi : i < L.length := by
    rcases Nat.lt_or_ge i L.length with g | g
    · exact g
    · exact absurd (List.drop_eq_nil_of_le g) hn
  obtain ⟨b', off', e, hl, hc⟩ := h (by rintro rfl; simp at hi)
  injection e with e
  injection e with e1 e2
  subst e1 e2
  refine ⟨b, off + i * 2, rfl, hl, fun k hk j hj => ?_⟩
  rw [List.length_drop] at hk
  have := hc (i + k) (by omega) j hj
  rw [at_drop, ← this]
  congr 2; omega
/-- what lies behind a row is not touched when the row grows -/
theorem own_apart {b0 c n c2 c3 : Nat} {w0 w1 w2 : World} {A A2 : Option Addr} {L AL : List Mp} (h : OwM w0.heap.size w1 (.slice A L.length c) L) (hA : OwM b0 w0 (.slice A2 AL.length c2) AL) (hg : w1.grownBy w2 (Value.slice A2 n c3).ownBlock) : OwM w0.heap.size w2 (.slice A L.length c) L := by
  obtain ⟨hl, h | ⟨g, cap, cur, e, hgB, hh, r⟩⟩ := h
  · exact ⟨hl, .inl h⟩
  · refine ⟨hl, .inr ⟨g, cap, cur, e, hgB, (hg.block g (blk_lt hh) ?_).trans hh, r⟩⟩
    obtain ⟨_, ⟨e2, _⟩ | ⟨g2, _, cur2, e2, _, hh2, _⟩⟩ := hA
    · injection e2 with e2; subst e2; exact Option.some_ne_none _
    · injection e2 with e2; subst e2
      have := blk_lt hh2
      intro e3
      have : g = g2 := by simpa [Value.ownBlock] using e3
      omega
end Go.Proofs.Ytioffnpnoohbiaa.Rm
