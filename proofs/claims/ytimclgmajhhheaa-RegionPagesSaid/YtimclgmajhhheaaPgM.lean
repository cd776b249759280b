import Derived.Test.YtimclgmajhhheaaL2
namespace Go.Proofs.Ytimclgmajhhheaa.Rg
open Go Go.RowKit Ac
set_option linter.unusedVariables false
/-- how many of the first k regions of a list have a page -/
def cntH (L : List R6) (x : Int) : Nat → Int
  | 0 => 0
  | k + 1 => cntH L x k + (if hasB (rAt L k) x = true then 1 else 0)
def sumP (L : List R6) : Nat → Int
  | 0 => 0
  | k + 1 => sumP L k + (rAt L k).pg
theorem cnt_bd (L : List R6) (x : Int) : ∀ k : Nat, 0 ≤ cntH L x k ∧ cntH L x k ≤ k
  | 0 => ⟨Int.le_refl _, Int.le_refl _⟩
  | k + 1 => by
    have := cnt_bd L x k
    show 0 ≤ cntH L x k + _ ∧ cntH L x k + _ ≤ _
    split <;> omega
theorem cnt_t {L : List R6} {x : Int} {k : Nat} (h : hasB (rAt L k) x = true) : cntH L x (k + 1) = cntH L x k + 1 := by show _ + (if _ then _ else _) = _; rw [if_pos h]
theorem cnt_f {L : List R6} {x : Int} {k : Nat} (h : hasB (rAt L k) x = false) : cntH L x (k + 1) = cntH L x k := by show _ + (if _ then _ else _) = _; rw [h]; simp
def wantI (a n x : Int) : Int := if a ≤ x ∧ x - a < n then 0 else 1
/-- an element of what is left -/
structure Pc (r q : R6) : Prop where
  ok : Ok q
  pr : q.pr = r.pr
  fi : q.fi = r.fi
  pg : ∀ x, hasB q x = true → pgE q x = pgE r x
  le : q.pg ≤ r.pg
theorem pc_self {r : R6} (h : Ok r) : Pc r r := ⟨h, rfl, rfl, fun _ _ => rfl, Int.le_refl _⟩
theorem has_iff {q : R6} (h : Ok q) (x : Int) : hasB q x = true ↔ q.st ≤ x ∧ x < q.st + q.pg := by
  unfold hasB
  rw [decide_eq_true_iff]
  exact ⟨fun g => g.2, fun g => ⟨h, g⟩⟩
theorem pc_low {r : R6} {p : Int} (h : Ok r) (h1 : r.st < p) (h2 : p < r.st + r.pg) : Pc r (lowR r p) := by
  have hl := low_ok h h1 h2
  refine ⟨hl, rfl, rfl, fun x hx => ?_, by unfold lowR; dsimp only; omega⟩
  have g := (has_iff hl x).1 hx
  unfold pgE
  unfold lowR at g ⊢ hl
  dsimp only at g ⊢
  by_cases c : r.fi = -1
  · rw [if_neg (fun q => q.1 c), if_neg (fun q => q.1 c)]
  · rw [if_pos ⟨c, hl, g⟩, if_pos ⟨c, h, by omega⟩]
theorem pc_upp {r : R6} {p : Int} (h : Ok r) (h1 : r.st < p) (h2 : p < r.st + r.pg) : Pc r (uppR r p) := by
  have hl := upp_ok h h1 h2
  refine ⟨hl, rfl, rfl, fun x hx => ?_, by unfold uppR; dsimp only; omega⟩
  have g := (has_iff hl x).1 hx
  unfold pgE
  unfold uppR at g ⊢ hl
  dsimp only at g ⊢
  by_cases c : r.fi = -1
  · rw [if_neg (fun q => q.1 c), if_neg (fun q => q.1 c)]
  · simp only [if_neg c] at hl ⊢
    rw [if_pos ⟨c, hl, g⟩, if_pos ⟨c, h, by omega⟩]; omega
theorem cu_ok {r : R6} {a n : Int} (h : cuE r a n = 0) : Ok r ∧ 1 ≤ n ∧ 0 ≤ a ∧ a + n ≤ 512 := by
  unfold cuE at h
  by_cases c : ckE r = 0
  · rw [if_pos c] at h
    by_cases c1 : n < 1
    · rw [if_pos c1] at h; omega
    · rw [if_neg c1] at h
      by_cases c2 : a < 0 ∨ 512 - n < a
      · rw [if_pos c2] at h; omega
      · exact ⟨ok_iff.1 c, by omega, by omega, by omega⟩
  · rw [if_neg c] at h; exact absurd h c
theorem cu_len (r : R6) (a n : Int) : (cuL r a n).length ≤ 2 := by
  unfold cuL
  repeat' split
  all_goals simp
theorem r_mem {L : List R6} {k : Nat} (h : k < L.length) : rAt L k ∈ L := by
  unfold rAt; rw [List.getD_eq_getElem?_getD, List.getElem?_eq_getElem h]; exact List.getElem_mem h
theorem cu_each {r : R6} {a n : Int} (he : cuE r a n = 0) {k : Nat} (hk : k < (cuL r a n).length) : Pc r (rAt (cuL r a n) k) := by
  obtain ⟨h, h1, h2, h3⟩ := cu_ok he
  have m := r_mem hk
  generalize rAt (cuL r a n) k = q at m
  by_cases c : r.st + r.pg ≤ a ∨ a + n ≤ r.st
  · rw [cu_out he c, List.mem_singleton] at m
    subst m; exact pc_self h
  · rw [cu_in he c, List.mem_append] at m
    rcases m with m | m
    · by_cases c1 : r.st < a
      · rw [if_pos c1, List.mem_singleton] at m
        subst m; exact pc_low h c1 (by omega)
      · rw [if_neg c1] at m; cases m
    · by_cases c1 : a + n < r.st + r.pg
      · rw [if_pos c1, List.mem_singleton] at m
        subst m; exact pc_upp h (by omega) c1
      · rw [if_neg c1] at m; cases m
theorem cnt_1 (q : R6) (x : Int) : cntH [q] x 1 = if hasB q x = true then 1 else 0 := by
  show (0 : Int) + (if hasB (rAt [q] 0) x = true then 1 else 0) = _; rw [Int.zero_add]; rfl
theorem cnt_2 (q q2 : R6) (x : Int) : cntH [q, q2] x 2 = (if hasB q x = true then 1 else 0) + (if hasB q2 x = true then 1 else 0) := by
  show (0 : Int) + (if hasB (rAt [q, q2] 0) x = true then 1 else 0) + (if hasB (rAt [q, q2] 1) x = true then 1 else 0) = _; rw [Int.zero_add]; rfl
theorem cu_cnt {r : R6} {a n x : Int} (he : cuE r a n = 0) (hx : r.st ≤ x) (hx2 : x < r.st + r.pg) : cntH (cuL r a n) x (cuL r a n).length = wantI a n x := by
  obtain ⟨h, h1, h2, h3⟩ := cu_ok he
  unfold wantI
  by_cases c : r.st + r.pg ≤ a ∨ a + n ≤ r.st
  · rw [cu_out he c, if_neg (by omega)]
    show cntH [r] x 1 = 1
    rw [cnt_1, if_pos ((has_iff h x).2 ⟨hx, hx2⟩)]
  · rw [cu_in he c]
    by_cases c1 : r.st < a
    · have hl := has_iff (low_ok h c1 (by omega)) x
      unfold lowR at hl
      dsimp only at hl
      rw [if_pos c1]
      by_cases c2 : a + n < r.st + r.pg
      · have hu := has_iff (upp_ok h (p := a + n) (by omega) c2) x
        unfold uppR at hu
        dsimp only at hu
        rw [if_pos c2]
        show cntH [lowR r a, uppR r (a + n)] x 2 = _
        rw [cnt_2]
        unfold lowR uppR
        by_cases e : a ≤ x ∧ x - a < n
        · rw [if_pos e, if_neg (fun g => by have := hl.1 g; omega), if_neg (fun g => by have := hu.1 g; omega)]; rfl
        · rw [if_neg e]
          by_cases e2 : x < a
          · rw [if_pos (hl.2 (by omega)), if_neg (fun g => by have := hu.1 g; omega)]; rfl
          · rw [if_neg (fun g => by have := hl.1 g; omega), if_pos (hu.2 (by omega))]; rfl
      · rw [if_neg c2]
        show cntH [lowR r a] x 1 = _
        rw [cnt_1]
        unfold lowR
        by_cases e : a ≤ x ∧ x - a < n
        · rw [if_pos e, if_neg (fun g => by have := hl.1 g; omega)]
        · rw [if_neg e, if_pos (hl.2 (by omega))]
    · rw [if_neg c1]
      by_cases c2 : a + n < r.st + r.pg
      · have hu := has_iff (upp_ok h (p := a + n) (by omega) c2) x
        unfold uppR at hu
        dsimp only at hu
        rw [if_pos c2]
        show cntH [uppR r (a + n)] x 1 = _
        rw [cnt_1]
        unfold uppR
        by_cases e : a ≤ x ∧ x - a < n
        · rw [if_pos e, if_neg (fun g => by have := hu.1 g; omega)]
        · rw [if_neg e, if_pos (hu.2 (by omega))]
      · rw [if_neg c2, if_pos (by omega)]
        rfl
theorem cu_sum {r : R6} {a n : Int} (he : cuE r a n = 0) : sumP (cuL r a n) (cuL r a n).length ≤ r.pg := by
  obtain ⟨h, h1, h2, h3⟩ := cu_ok he
  have o1 := h.1.1
  by_cases c : r.st + r.pg ≤ a ∨ a + n ≤ r.st
  · rw [cu_out he c]
    show (0 : Int) + r.pg ≤ r.pg
    omega
  · rw [cu_in he c]
    by_cases c1 : r.st < a
    · rw [if_pos c1]
      by_cases c2 : a + n < r.st + r.pg
      · rw [if_pos c2]
        show (0 : Int) + (a - r.st) + (r.pg - (a + n - r.st)) ≤ r.pg
        omega
      · rw [if_neg c2]
        show (0 : Int) + (a - r.st) ≤ r.pg
        omega
    · rw [if_neg c1]
      by_cases c2 : a + n < r.st + r.pg
      · rw [if_pos c2]
        show (0 : Int) + (r.pg - (a + n - r.st)) ≤ r.pg
        omega
      · rw [if_neg c2]
        show (0 : Int) ≤ r.pg
        omega
theorem sum_bd {L : List R6} (h : ∀ k, k < L.length → 0 ≤ (rAt L k).pg ∧ (rAt L k).pg ≤ 512) : ∀ k, k ≤ L.length → 0 ≤ sumP L k ∧ sumP L k ≤ 512 * k
  | 0, _ => ⟨Int.le_refl _, Int.le_refl _⟩
  | k + 1, hk => by
    have := sum_bd h k (by omega)
    have := h k (by omega)
    show 0 ≤ sumP L k + (rAt L k).pg ∧ sumP L k + (rAt L k).pg ≤ _
    omega
end Go.Proofs.Ytimclgmajhhheaa.Rg
