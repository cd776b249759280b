import Derived.Test.YthoeolaleeogbaaPteBits
/-
  DERIVED. The mathematics of a translation cache: entries as triples (space, page, word); no word of the dump.
-/
namespace Go.Proofs.Ythoeolaleeogbaa.Tb
open Go Go.Proofs.Ythoeolaleeogbaa.Pt
set_option linter.unusedVariables false
abbrev Te := Int × Int × Int
/-- is a word a translation, and is it a huge one -/
def isTr (W : Int) : Bool := good W && (uk W == 1)
def hg (W : Int) : Bool := good W && f6 W
theorem hg_tr {W : Int} (h : hg W = true) : isTr W = true := by
  unfold hg at h
  unfold isTr
  rw [Bool.and_eq_true] at h
  obtain ⟨h1, h2⟩ := h
  have e := (good_iff.1 h1).1
  rw [h2] at e
  have := suits_huge (err_bd e).2.2.2.2
  simp [h1, this]
def fp (W p : Int) : Int := if hg W then p - p % 8 else p
def cov (e : Te) (s p : Int) : Bool := (e.1 == s) && (e.2.1 == fp e.2.2 p)
def ovl (a b : Te) : Bool := cov a b.1 b.2.1 || cov b a.1 a.2.1
def okSP (s p : Int) : Bool := decide (0 ≤ s ∧ s < 8) && decide (0 ≤ p ∧ p < 512)
def okE (e : Te) : Bool := okSP e.1 e.2.1 && (isTr e.2.2 && (e.2.1 == fp e.2.2 e.2.1))
/-- the error of an entry by itself, and behind others -/
def oneE (e : Te) : Int := if okSP e.1 e.2.1 = false then 2 else if (isTr e.2.2 && (e.2.1 == fp e.2.2 e.2.1)) = false then 3 else 0
def entE (e : Te) (l : List Te) : Int := if oneE e ≠ 0 then oneE e else if l.any (fun o => ovl o e) = true then 7 else 0
def chkL (before : List Te) : List Te → Int
  | [] => 0
  | e :: r => if entE e before ≠ 0 then entE e before else chkL (before ++ [e]) r
def chkT (size : Int) (l : List Te) : Int := if size < 1 ∨ 16 < size then 1 else if size < l.length then 8 else chkL [] l
theorem oneE_ok {e : Te} : oneE e = 0 ↔ okE e = true := by
  unfold oneE okE
  cases okSP e.1 e.2.1 <;> cases (isTr e.2.2 && (e.2.1 == fp e.2.2 e.2.1)) <;> simp
theorem entE_ok {e : Te} {l : List Te} : entE e l = 0 ↔ okE e = true ∧ ∀ o ∈ l, ovl o e = false := by
  unfold entE
  by_cases h : oneE e = 0
  · rw [if_neg (by simpa using h)]
    by_cases h2 : l.any (fun o => ovl o e) = true
    · rw [if_pos h2]
      obtain ⟨o, ho, ht⟩ := List.any_eq_true.1 h2
      constructor
      · intro e; omega
      · rintro ⟨_, h3⟩; rw [h3 o ho] at ht; cases ht
    · rw [if_neg h2]
      refine ⟨fun _ => ⟨oneE_ok.1 h, fun o ho => ?_⟩, fun _ => rfl⟩
      rcases hq : ovl o e with _ | _
      · rfl
      · exact absurd (List.any_eq_true.2 ⟨o, ho, hq⟩) h2
  · rw [if_pos h]
    exact ⟨fun e => absurd e h, fun ⟨h1, _⟩ => absurd (oneE_ok.2 h1) h⟩
def okL (l : List Te) : Prop := (∀ e ∈ l, okE e = true) ∧ l.Pairwise fun a b => ovl a b = false
theorem chkL_ok : ∀ {r before : List Te}, chkL before r = 0 ↔ (∀ e ∈ r, okE e = true ∧ ∀ o ∈ before, ovl o e = false) ∧ r.Pairwise fun a b => ovl a b = false
  | [], before => by simp [chkL]
  | e :: r, before => by
    unfold chkL
    by_cases h : entE e before = 0
    · rw [if_neg (by simpa using h), chkL_ok (r := r) (before := before ++ [e])]
      obtain ⟨h1, h2⟩ := entE_ok.1 h
      constructor
      · rintro ⟨h3, h4⟩
        refine ⟨fun x hx => ?_, List.pairwise_cons.2 ⟨fun x hx => (h3 x hx).2 e (by simp), h4⟩⟩
        rcases List.mem_cons.1 hx with rfl | hx
        · exact ⟨h1, h2⟩
        · exact ⟨(h3 x hx).1, fun o ho => (h3 x hx).2 o (by simp [ho])⟩
      · rintro ⟨h3, h4⟩
        obtain ⟨h5, h6⟩ := List.pairwise_cons.1 h4
        refine ⟨fun x hx => ⟨(h3 x (List.mem_cons_of_mem _ hx)).1, fun o ho => ?_⟩, h6⟩
        rcases List.mem_append.1 ho with ho | ho
        · exact (h3 x (List.mem_cons_of_mem _ hx)).2 o ho
        · rw [List.mem_singleton.1 ho]; exact h5 x hx
    · rw [if_pos h]
      exact ⟨fun e => absurd e h, fun ⟨h3, _⟩ => absurd (entE_ok.2 (h3 e List.mem_cons_self)) h⟩
theorem chkT_ok {size : Int} {l : List Te} : chkT size l = 0 ↔ (1 ≤ size ∧ size ≤ 16) ∧ (l.length : Int) ≤ size ∧ okL l := by
  unfold chkT okL
  by_cases h1 : size < 1 ∨ 16 < size
  · rw [if_pos h1]; exact ⟨fun e => by omega, fun h => by omega⟩
  · rw [if_neg h1]
    by_cases h2 : size < l.length
    · rw [if_pos h2]; exact ⟨fun e => by omega, fun h => by omega⟩
    · rw [if_neg h2, chkL_ok]
      constructor
      · rintro ⟨a, b⟩; exact ⟨by omega, by omega, fun e he => (a e he).1, b⟩
      · rintro ⟨_, _, a, b⟩; exact ⟨fun e he => ⟨a e he, fun o ho => by cases ho⟩, b⟩
theorem chkL_step {l : List Te} {k : Nat} (h : k < l.length) : chkL (l.take k) (l.drop k) = if entE l[k] (l.take k) ≠ 0 then entE l[k] (l.take k) else chkL (l.take (k + 1)) (l.drop (k + 1)) := by
  rw [List.drop_eq_getElem_cons h]
  show (if entE l[k] (l.take k) ≠ 0 then entE l[k] (l.take k) else chkL (l.take k ++ [l[k]]) (l.drop (k + 1))) = _
  rw [List.take_append_getElem]
-- WHAT COVERS WHAT
theorem okE_bd {e : Te} (h : okE e = true) : (0 ≤ e.1 ∧ e.1 < 8) ∧ (0 ≤ e.2.1 ∧ e.2.1 < 512) ∧ isTr e.2.2 = true ∧ e.2.1 = fp e.2.2 e.2.1 := by
  unfold okE okSP at h
  simp only [Bool.and_eq_true, decide_eq_true_eq, beq_iff_eq] at h
  exact ⟨h.1.1, h.1.2, h.2.1, h.2.2⟩
theorem cov_iff {e : Te} {s p : Int} : cov e s p = true ↔ e.1 = s ∧ e.2.1 = fp e.2.2 p := by unfold cov; simp
theorem ovl_of_both {a b : Te} {s p : Int} (ha : a.2.1 = fp a.2.2 a.2.1) (hb : b.2.1 = fp b.2.2 b.2.1) (h1 : cov a s p = true) (h2 : cov b s p = true) : ovl a b = true := by
  obtain ⟨e1, e2⟩ := cov_iff.1 h1
  obtain ⟨e3, e4⟩ := cov_iff.1 h2
  unfold ovl
  rw [Bool.or_eq_true, cov_iff, cov_iff]
  unfold fp at *
  cases ca : hg a.2.2 <;> cases cb : hg b.2.2 <;> simp [ca, cb] at * <;> omega
/-- the reference's word for covering, at a page that is 0 or more and at one that isn't -/
def hitR (e : Te) (s p : Int) : Bool := (e.1 == s) && (if hg e.2.2 then decide (0 ≤ p) && (e.2.1 == p - p.tmod 8) else e.2.1 == p)
theorem hitR_cov {e : Te} (s p : Int) (h : 0 ≤ e.2.1) : hitR e s p = cov e s p := by
  unfold hitR cov fp
  cases hg e.2.2
  · rfl
  · simp only [if_true]
    rw [Bool.eq_iff_iff]
    simp only [Bool.and_eq_true, beq_iff_eq, decide_eq_true_eq]
    rcases Int.lt_or_le p 0 with c | c
    · constructor
      · rintro ⟨_, h1, _⟩; omega
      · rintro ⟨_, h1⟩; omega
    · rw [Int.tmod_eq_emod_of_nonneg c]
      constructor
      · rintro ⟨a, _, b⟩; exact ⟨a, b⟩
      · rintro ⟨a, b⟩; exact ⟨a, c, b⟩
/-- the reference's word for overlapping -/
def ovlR (a b : Te) : Bool := (List.range 8).any fun i => hitR a b.1 (b.2.1 - b.2.1.tmod 8 + (i : Int)) && hitR b b.1 (b.2.1 - b.2.1.tmod 8 + (i : Int))
theorem ovlR_ovl {a b : Te} (ha : okE a = true) (hb : okE b = true) : ovlR a b = ovl a b := by
  obtain ⟨_, a1, _, a3⟩ := okE_bd ha
  obtain ⟨_, b1, _, b3⟩ := okE_bd hb
  have ht : b.2.1.tmod 8 = b.2.1 % 8 := Int.tmod_eq_emod_of_nonneg b1.1
  unfold ovlR
  rw [Bool.eq_iff_iff, List.any_eq_true, ht]
  unfold ovl
  rw [Bool.or_eq_true, cov_iff, cov_iff]
  constructor
  · rintro ⟨i, hi, h⟩
    rw [Bool.and_eq_true, hitR_cov _ _ a1.1, hitR_cov _ _ b1.1, cov_iff, cov_iff] at h
    have hi' := List.mem_range.1 hi
    obtain ⟨⟨h1, h2⟩, _, h4⟩ := h
    unfold fp at *
    cases ca : hg a.2.2 <;> cases cb : hg b.2.2 <;> simp [ca, cb] at * <;> omega
  · intro h
    have key : ∃ i : Nat, i < 8 ∧ a.1 = b.1 ∧ a.2.1 = fp a.2.2 (b.2.1 - b.2.1 % 8 + (i : Int)) ∧ b.2.1 = fp b.2.2 (b.2.1 - b.2.1 % 8 + (i : Int)) := by
      unfold fp at *
      cases ca : hg a.2.2 <;> cases cb : hg b.2.2 <;> simp [ca, cb] at *
      · exact ⟨(b.2.1 % 8).toNat, by omega, by omega, by omega, by omega⟩
      · exact ⟨(a.2.1 % 8).toNat, by omega, by omega, by omega, by omega⟩
      · exact ⟨(b.2.1 % 8).toNat, by omega, by omega, by omega, by omega⟩
      · exact ⟨0, by omega, by omega, by omega, by omega⟩
    obtain ⟨i, hi, h1, h2, h3⟩ := key
    refine ⟨i, List.mem_range.2 hi, ?_⟩
    rw [Bool.and_eq_true, hitR_cov _ _ a1.1, hitR_cov _ _ b1.1, cov_iff, cov_iff]
    exact ⟨⟨h1, h2⟩, rfl, h3⟩
-- THE CALLS
def lookT (size : Int) (l : List Te) (s p : Int) : Option Te := if chkT size l ≠ 0 then none else l.find? fun e => cov e s p
def newE (s p W : Int) : Te := (s, fp W p, W)
def shed (size : Int) (l : List Te) : List Te := if (l.length : Int) = size then l.drop 1 else l
def fillL (size : Int) (l : List Te) (s p W : Int) : List Te := shed size (l.filter fun e => !ovl e (newE s p W)) ++ [newE s p W]
def placeE (size : Int) (l : List Te) (s p : Int) : Int := if chkT size l ≠ 0 then chkT size l else if okSP s p = false then 2 else 0
def fillE (size : Int) (l : List Te) (s p W : Int) : Int := if placeE size l s p ≠ 0 then placeE size l s p else if isTr W = false then 3 else 0
def invL (l : List Te) (s p : Int) : List Te := l.filter fun e => !cov e s p
def flL (l : List Te) (s : Int) : List Te := l.filter fun e => !(e.1 == s)
def flE (size : Int) (l : List Te) (s : Int) : Int := if chkT size l ≠ 0 then chkT size l else if decide (0 ≤ s ∧ s < 8) = false then 2 else 0
theorem newE_ok {s p W : Int} (h : okSP s p = true) (ht : isTr W = true) : okE (newE s p W) = true := by
  unfold okE newE okSP fp at *
  simp only [Bool.and_eq_true, decide_eq_true_eq, beq_iff_eq] at *
  obtain ⟨h1, h2⟩ := h
  cases hg W <;> simp [ht] <;> omega
theorem okL_filter {l : List Te} (h : okL l) (f : Te → Bool) : okL (l.filter f) :=
  ⟨fun e he => h.1 e ((List.mem_filter.1 he).1), h.2.filter f⟩
theorem okL_drop {l : List Te} (h : okL l) (k : Nat) : okL (l.drop k) :=
  ⟨fun e he => h.1 e (List.mem_of_mem_drop he), h.2.sublist (List.drop_sublist k l)⟩
theorem okL_shed {l : List Te} {size : Int} (h : okL l) : okL (shed size l) := by
  unfold shed; split
  · exact okL_drop h 1
  · exact h
theorem mem_shed {l : List Te} {size : Int} {e : Te} (h : e ∈ shed size l) : e ∈ l := by
  unfold shed at h; split at h
  · exact List.mem_of_mem_drop h
  · exact h
theorem shed_length {l : List Te} {size : Int} (h : (l.length : Int) ≤ size) (h1 : 1 ≤ size) : ((shed size l).length : Int) + 1 ≤ size := by
  unfold shed; split
  · rw [List.length_drop]; omega
  · omega
theorem fill_ok {size : Int} {l : List Te} {s p W : Int} (h : fillE size l s p W = 0) : chkT size (fillL size l s p W) = 0 := by
  unfold fillE placeE at h
  have h1 : chkT size l = 0 := by
    by_cases c : chkT size l = 0
    · exact c
    · simp [c] at h
  have h2 : okSP s p = true := by
    cases c : okSP s p
    · simp [c, h1] at h
    · rfl
  have h3 : isTr W = true := by
    cases c : isTr W
    · simp [c, h1, h2] at h
    · rfl
  obtain ⟨a, b, c⟩ := chkT_ok.1 h1
  have hx := newE_ok h2 h3
  have hl := List.length_filter_le (fun e => !ovl e (newE s p W)) l
  have hs := shed_length (l := l.filter fun e => !ovl e (newE s p W)) (size := size) (by omega) a.1
  refine chkT_ok.2 ⟨a, by unfold fillL; rw [List.length_append]; simp; omega, ?_, ?_⟩
  · intro e he
    rcases List.mem_append.1 he with he | he
    · exact (okL_shed (okL_filter c _)).1 e he
    · rw [List.mem_singleton.1 he]; exact hx
  · refine List.pairwise_append.2 ⟨(okL_shed (okL_filter c _)).2, List.pairwise_singleton _ _, fun e he x hx => ?_⟩
    rw [List.mem_singleton.1 hx]
    have := (List.mem_filter.1 (mem_shed he)).2
    simpa using this
theorem filter_ok {size : Int} {l : List Te} (h : chkT size l = 0) (f : Te → Bool) : chkT size (l.filter f) = 0 := by
  obtain ⟨a, b, c⟩ := chkT_ok.1 h
  have hl := List.length_filter_le f l
  exact chkT_ok.2 ⟨a, by omega, okL_filter c f⟩
end Go.Proofs.Ythoeolaleeogbaa.Tb
