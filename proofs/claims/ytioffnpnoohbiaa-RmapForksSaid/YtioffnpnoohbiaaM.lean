/-
  DERIVED. Lists of mappings (a space and a page each): their error, the place of a mapping, lists with one more, one less, without a space, and copied.
-/
import Derived.Test.YtioffnpnoohbiaaRows
namespace Go.Proofs.Ytioffnpnoohbiaa.Rm
open Go
set_option linter.unusedVariables false
abbrev Is := List Int
structure Mp where
  s : Int
  p : Int
deriving DecidableEq
instance : Inhabited Mp := ⟨⟨0, 0⟩⟩
def m0 : Mp := ⟨0, 0⟩
def at' (L : List Mp) (k : Nat) : Mp := L.getD k m0
def vM (m : Mp) : Prop := (0 ≤ m.s ∧ m.s < 8) ∧ 0 ≤ m.p ∧ m.p < 512
instance (m : Mp) : Decidable (vM m) := by unfold vM; infer_instance
def ltM (a b : Mp) : Prop := a.s < b.s ∨ (a.s = b.s ∧ a.p < b.p)
instance (a b : Mp) : Decidable (ltM a b) := by unfold ltM; infer_instance
theorem ltM_irr (a : Mp) : ¬ ltM a a := by unfold ltM; omega
theorem ltM_tr {a b c : Mp} (h : ltM a b) (k : ltM b c) : ltM a c := by unfold ltM at *; omega
theorem ltM_tri (a b : Mp) : ltM a b ∨ a = b ∨ ltM b a := by
  obtain ⟨s, p⟩ := a
  obtain ⟨t, q⟩ := b
  unfold ltM
  simp only [Mp.mk.injEq]
  omega
theorem ltM_ne {a b : Mp} (h : ltM a b) : a ≠ b := fun e => ltM_irr b (e ▸ h)
theorem ltM_as {a b : Mp} (h : ltM a b) : ¬ ltM b a := fun k => ltM_irr _ (ltM_tr h k)
/-- what the comparison answers -/
def cmI (x y : Int) : Int := if x < y then -1 else if y < x then 1 else 0
def cmM (a b : Mp) : Int := if cmI a.s b.s = 0 then cmI a.p b.p else cmI a.s b.s
theorem cmI_neg {x y : Int} : cmI x y < 0 ↔ x < y := by unfold cmI; split <;> (try split) <;> simp_all
theorem cmI_zero {x y : Int} : cmI x y = 0 ↔ x = y := by unfold cmI; split <;> (try split) <;> simp_all <;> omega
theorem cmM_neg {a b : Mp} : cmM a b < 0 ↔ ltM a b := by
  unfold cmM ltM
  by_cases h : cmI a.s b.s = 0
  · rw [if_pos h, cmI_neg]; rw [cmI_zero] at h; omega
  · rw [if_neg h, cmI_neg]; rw [cmI_zero] at h; omega
theorem cmM_zero {a b : Mp} : cmM a b = 0 ↔ a = b := by
  obtain ⟨s, p⟩ := a
  obtain ⟨t, q⟩ := b
  unfold cmM
  simp only [Mp.mk.injEq]
  by_cases h : cmI s t = 0
  · rw [if_pos h, cmI_zero]; rw [cmI_zero] at h; omega
  · rw [if_neg h]; constructor
    · intro e; exact absurd e h
    · intro e; exact absurd (cmI_zero.2 e.1) h
theorem cmM_ge {a b : Mp} : 0 ≤ cmM a b ↔ ¬ ltM a b := by rw [← cmM_neg]; omega
/-- sorted, without repetition -/
abbrev Srt (L : List Mp) : Prop := L.Pairwise ltM
def aok (L : List Mp) : Prop := ∀ m ∈ L, vM m
instance (L : List Mp) : Decidable (aok L) := by unfold aok; infer_instance
/-- the error of a list -/
def ck (L : List Mp) : Int := if aok L then (if Srt L then 0 else 10) else 2
theorem ck_2 {L : List Mp} (h : ¬ aok L) : ck L = 2 := if_neg h
theorem ck_10 {L : List Mp} (h : aok L) (h2 : ¬ Srt L) : ck L = 10 := by unfold ck; rw [if_pos h, if_neg h2]
theorem ck_0 {L : List Mp} (h : aok L) (h2 : Srt L) : ck L = 0 := by unfold ck; rw [if_pos h, if_pos h2]
theorem ck_ok {L : List Mp} (h : ck L = 0) : aok L ∧ Srt L := by
  unfold ck at h
  by_cases a : aok L
  · rw [if_pos a] at h
    by_cases s : Srt L
    · exact ⟨a, s⟩
    · rw [if_neg s] at h; simp at h
  · rw [if_neg a] at h; simp at h
theorem ck_iff {L : List Mp} : ck L = 0 ↔ aok L ∧ Srt L := ⟨ck_ok, fun h => ck_0 h.1 h.2⟩
theorem at_mem {L : List Mp} {k : Nat} (h : k < L.length) : at' L k ∈ L := by
  unfold at'
  rw [List.getD_eq_getElem?_getD, List.getElem?_eq_getElem h]
  exact List.getElem_mem h
theorem at_get {L : List Mp} {k : Nat} (h : k < L.length) : at' L k = L[k] := by
  unfold at'
  rw [List.getD_eq_getElem?_getD, List.getElem?_eq_getElem h]; rfl
theorem aok_at {L : List Mp} (h : ∀ k, k < L.length → vM (at' L k)) : aok L := by
  intro m hm
  obtain ⟨k, hk, rfl⟩ := List.getElem_of_mem hm
  rw [← at_get hk]; exact h k hk
theorem mem_at {L : List Mp} {m : Mp} (h : m ∈ L) : ∃ k, k < L.length ∧ at' L k = m := by
  obtain ⟨k, hk, rfl⟩ := List.getElem_of_mem h
  exact ⟨k, hk, at_get hk⟩
/-- neighbours in order: the whole list is -/
theorem srt_at {L : List Mp} (h : ∀ k, 1 ≤ k → k < L.length → ltM (at' L (k - 1)) (at' L k)) : Srt L := by
  induction L with
  | nil => exact List.Pairwise.nil
  | cons a l ih =>
    have hl : Srt l := ih fun k h1 h2 => by
      have := h (k + 1) (by omega) (by simpa using h2)
      have e : k = (k - 1) + 1 := by omega
      rw [Nat.add_sub_cancel] at this
      have e2 : at' (a :: l) k = at' l (k - 1) := by rw [e]; rfl
      rw [e2] at this
      exact this
    refine List.Pairwise.cons ?_ hl
    match l, hl, h with
    | [], _, _ => intro b hb; cases hb
    | b :: r, hl, h =>
      have h0 : ltM a b := h 1 (by omega) (by simp)
      intro x hx
      rcases List.mem_cons.1 hx with rfl | hx
      · exact h0
      · exact ltM_tr h0 ((List.pairwise_cons.1 hl).1 x hx)
theorem srt_lt {L : List Mp} (h : Srt L) {i j : Nat} (hij : i < j) (hj : j < L.length) : ltM (at' L i) (at' L j) := by
  rw [at_get (by omega), at_get hj]
  exact List.pairwise_iff_getElem.1 h i j (by omega) hj hij
theorem srt_nodup {L : List Mp} (h : Srt L) : L.Nodup := h.imp fun h => ltM_ne h
/-- sorted lists with the same members are the same -/
theorem srt_ext {L R : List Mp} (h : Srt L) (k : Srt R) (e : ∀ m, m ∈ L ↔ m ∈ R) : L = R := by
  refine List.Perm.eq_of_pairwise (le := ltM) (fun a b _ _ h1 h2 => absurd h2 (ltM_as h1)) h k ?_
  exact (List.perm_ext_iff_of_nodup (srt_nodup h) (srt_nodup k)).2 e
/-- how many come before a mapping -/
def ix : List Mp → Mp → Nat
  | [], _ => 0
  | a :: l, m => if ltM a m then ix l m + 1 else 0
theorem ix_le : ∀ (L : List Mp) (m : Mp), ix L m ≤ L.length
  | [], _ => Nat.le_refl _
  | a :: l, m => by
    unfold ix
    split
    · have := ix_le l m; simp; omega
    · exact Nat.zero_le _
theorem ix_eq : ∀ (L : List Mp) (m : Mp) (i : Nat), i ≤ L.length → (∀ t, t < i → ltM (at' L t) m) → (i < L.length → ¬ ltM (at' L i) m) → ix L m = i
  | [], m, i, h, _, _ => by simp at h; subst h; rfl
  | c :: l, m, 0, _, _, h3 => by
    have : ¬ ltM c m := h3 (by simp)
    unfold ix; rw [if_neg this]
  | c :: l, m, i + 1, h1, h2, h3 => by
    have : ltM c m := h2 0 (by omega)
    unfold ix
    rw [if_pos this, ix_eq l m i (by simpa using h1) (fun t ht => h2 (t + 1) (by omega)) (fun hi => h3 (by simpa using hi))]
theorem ix_lt : ∀ {L : List Mp} {m : Mp} {t : Nat}, t < ix L m → ltM (at' L t) m
  | [], m, t, h => absurd h (Nat.not_lt_zero _)
  | a :: l, m, t, h => by
    unfold ix at h
    by_cases c : ltM a m
    · rw [if_pos c] at h
      match t with
      | 0 => exact c
      | t + 1 => exact ix_lt (L := l) (t := t) (by omega)
    · rw [if_neg c] at h; exact absurd h (Nat.not_lt_zero _)
theorem ix_ge : ∀ {L : List Mp} {m : Mp}, ix L m < L.length → ¬ ltM (at' L (ix L m)) m
  | [], m, h => absurd h (Nat.not_lt_zero _)
  | a :: l, m, h => by
    unfold ix at h ⊢
    by_cases c : ltM a m
    · rw [if_pos c] at h ⊢
      exact ix_ge (L := l) (by simpa using h)
    · rw [if_neg c]; exact c
/-- a sorted list has a mapping exactly at its place -/
theorem ix_mem {L : List Mp} (h : Srt L) (m : Mp) : m ∈ L ↔ ix L m < L.length ∧ at' L (ix L m) = m := by
  constructor
  · intro hm
    obtain ⟨k, hk, e⟩ := mem_at hm
    have : ix L m = k := ix_eq L m k (by omega) (fun t ht => e ▸ srt_lt h ht hk) (fun _ => by rw [e]; exact ltM_irr m)
    exact ⟨by omega, by rw [this]; exact e⟩
  · rintro ⟨h1, h2⟩
    rw [← h2]; exact at_mem h1
/-- a list with a mapping at its place -/
def ins (L : List Mp) (m : Mp) : List Mp := L.take (ix L m) ++ m :: L.drop (ix L m)
theorem ins_perm (L : List Mp) (m : Mp) : (ins L m).Perm (m :: L) := by
  unfold ins
  refine List.perm_middle.trans ?_
  rw [List.take_append_drop]
theorem ins_mem {L : List Mp} {m x : Mp} : x ∈ ins L m ↔ x = m ∨ x ∈ L := by rw [(ins_perm L m).mem_iff]; exact List.mem_cons
theorem ins_length (L : List Mp) (m : Mp) : (ins L m).length = L.length + 1 := by rw [(ins_perm L m).length_eq]; rfl
theorem at_take {L : List Mp} {n k : Nat} (h : k < n) : at' (L.take n) k = at' L k := by
  unfold at'; rw [List.getD_eq_getElem?_getD, List.getD_eq_getElem?_getD, List.getElem?_take_of_lt h]
theorem at_drop {L : List Mp} {n k : Nat} : at' (L.drop n) k = at' L (n + k) := by
  unfold at'; rw [List.getD_eq_getElem?_getD, List.getD_eq_getElem?_getD, List.getElem?_drop]
theorem ins_srt {L : List Mp} {m : Mp} (h : Srt L) (hm : m ∉ L) : Srt (ins L m) := by
  unfold ins
  refine List.pairwise_append.2 ⟨h.sublist (List.take_sublist _ _), List.pairwise_cons.2 ⟨?_, h.sublist (List.drop_sublist _ _)⟩, ?_⟩
  · intro x hx
    obtain ⟨k, hk, rfl⟩ := mem_at hx
    rw [List.length_drop] at hk
    rw [at_drop]
    rcases ltM_tri m (at' L (ix L m + k)) with c | c | c
    · exact c
    · exact absurd (c ▸ at_mem (by omega)) hm
    · have h0 := ix_ge (L := L) (m := m) (by omega)
      rcases Nat.eq_zero_or_pos k with rfl | hk0
      · exact absurd c h0
      · exact absurd (ltM_tr (srt_lt h (show ix L m < ix L m + k by omega) (by omega)) c) h0
  · intro a ha b hb
    obtain ⟨k, hk, rfl⟩ := mem_at ha
    rw [List.length_take] at hk
    rw [at_take (by omega)]
    rcases List.mem_cons.1 hb with rfl | hb
    · exact ix_lt (by omega)
    · obtain ⟨j, hj, rfl⟩ := mem_at hb
      rw [List.length_drop] at hj
      rw [at_drop]
      exact srt_lt h (by omega) (by omega)
theorem ins_aok {L : List Mp} {m : Mp} (h : aok L) (hm : vM m) : aok (ins L m) := fun x hx => by
  rcases ins_mem.1 hx with rfl | hx
  · exact hm
  · exact h x hx
/-- what the calls answer -/
def adE (L : List Mp) (m : Mp) : Int := if ck L = 0 then (if vM m then (if m ∈ L then 7 else 0) else 2) else ck L
def adL (L : List Mp) (m : Mp) : List Mp := if adE L m = 0 then ins L m else []
def reE (L : List Mp) (m : Mp) : Int := if ck L = 0 then (if m ∈ L then 0 else 6) else ck L
def reL (L : List Mp) (m : Mp) : List Mp := if reE L m = 0 then L.filter (fun x => decide (x ≠ m)) else []
def drL (L : List Mp) (s : Int) : List Mp := if ck L = 0 then L.filter (fun x => decide (x.s ≠ s)) else []
def hs (L : List Mp) (m : Mp) : Bool := decide (ck L = 0 ∧ m ∈ L)
theorem er_cut {L : List Mp} {m : Mp} (h : Srt L) (hm : m ∈ L) : L.filter (fun x => decide (x ≠ m)) = L.take (ix L m) ++ L.drop (ix L m + 1) := by
  obtain ⟨hi, e⟩ := (ix_mem h m).1 hm
  have es : L = L.take (ix L m) ++ m :: L.drop (ix L m + 1) := by
    have := List.take_append_drop (ix L m) L
    rw [List.drop_eq_getElem_cons hi, ← at_get hi, e] at this
    exact this.symm
  have nd := srt_nodup h
  generalize L.take (ix L m) = A at *
  generalize L.drop (ix L m + 1) = B at *
  subst es
  rw [List.nodup_append] at nd
  obtain ⟨n1, n2, n3⟩ := nd
  rw [List.nodup_cons] at n2
  rw [List.filter_append, List.filter_cons, if_neg (by simp)]
  congr 1
  · refine List.filter_eq_self.2 fun x hx => decide_eq_true ?_
    exact n3 x hx m (List.mem_cons_self ..)
  · refine List.filter_eq_self.2 fun x hx => decide_eq_true ?_
    rintro rfl; exact n2.1 hx
/-- the mappings of a space, in another one -/
def mv (L : List Mp) (f t : Int) : List Mp := (L.filter (fun x => decide (x.s = f))).map fun x => ⟨t, x.p⟩
def inS (s : Int) : Prop := 0 ≤ s ∧ s < 8
instance (s : Int) : Decidable (inS s) := by unfold inS; infer_instance
/-- is one of them there already -/
def clash (L : List Mp) (f t : Int) : Prop := ∃ x ∈ L, x.s = f ∧ (⟨t, x.p⟩ : Mp) ∈ L
instance (L : List Mp) (f t : Int) : Decidable (clash L f t) := by unfold clash; infer_instance
def cpE (L : List Mp) (f t : Int) : Int := if ck L = 0 then (if inS f ∧ inS t then (if clash L f t then 7 else 0) else 2) else ck L
/-- a list is the sorted list of the members of the two -/
def CpL (L : List Mp) (f t : Int) (R : List Mp) : Prop := if cpE L f t = 0 then Srt R ∧ R.Perm (L ++ mv L f t) else R = []
theorem CpL.uniq {L R S : List Mp} {f t : Int} (h : CpL L f t R) (k : CpL L f t S) : R = S := by
  unfold CpL at h k
  by_cases c : cpE L f t = 0
  · rw [if_pos c] at h k
    exact srt_ext h.1 k.1 fun m => (h.2.trans k.2.symm).mem_iff
  · rw [if_neg c] at h k
    rw [h, k]
theorem mv_mem {L : List Mp} {f t : Int} {m : Mp} : m ∈ mv L f t ↔ m.s = t ∧ ∃ x ∈ L, x.s = f ∧ x.p = m.p := by
  unfold mv
  simp only [List.mem_map, List.mem_filter, decide_eq_true_eq]
  constructor
  · rintro ⟨x, ⟨h1, h2⟩, rfl⟩; exact ⟨rfl, x, h1, h2, rfl⟩
  · rintro ⟨h1, x, h2, h3, h4⟩; exact ⟨x, ⟨h2, h3⟩, by rw [h4, ← h1]⟩
theorem mv_nodup {L : List Mp} {f t : Int} (h : L.Nodup) : (mv L f t).Nodup := by
  unfold mv
  rw [List.Nodup, List.pairwise_map]
  refine (List.Pairwise.and_mem.1 (h.sublist List.filter_sublist)).imp ?_
  rintro a b ⟨ha, hb, hne⟩ e
  simp only [List.mem_filter, decide_eq_true_eq] at ha hb
  apply hne
  obtain ⟨s, p⟩ := a
  obtain ⟨s2, p2⟩ := b
  simp only [Mp.mk.injEq, true_and] at e
  simp only at ha hb
  rw [ha.2, hb.2, e]
theorem mv_apart {L : List Mp} {f t : Int} (h : ¬ clash L f t) {m : Mp} (hm : m ∈ mv L f t) : m ∉ L := by
  obtain ⟨h1, x, h2, h3, h4⟩ := mv_mem.1 hm
  intro hl
  exact h ⟨x, h2, h3, by rw [h4, ← h1]; exact hl⟩
theorem cp_nodup {L : List Mp} {f t : Int} (h : Srt L) (k : ¬ clash L f t) : (L ++ mv L f t).Nodup :=
  List.nodup_append.2 ⟨srt_nodup h, mv_nodup (srt_nodup h), fun a ha b hb e => mv_apart k hb (e ▸ ha)⟩
end Go.Proofs.Ytioffnpnoohbiaa.Rm
