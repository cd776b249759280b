/-
  Plain mathematics of lists of intervals: edges, members, validity, merging. No program text.
-/
namespace Go.Proofs.Ytdpdlbonlpdkjab.Iv
set_option linter.unusedVariables false
abbrev IL := List (Int × Int)
def edges : IL → List Int
  | [] => []
  | (f, t) :: l => f :: t :: edges l
theorem edges_length : ∀ L : IL, (edges L).length = 2 * L.length
  | [] => rfl
  | (f, t) :: l => by simp [edges, edges_length l]; omega
theorem edges_append : ∀ (L M : IL), edges (L ++ M) = edges L ++ edges M
  | [], M => rfl
  | (f, t) :: l, M => by simp [edges, edges_append l M]
theorem edges_inj : ∀ {L M : IL}, edges L = edges M → L = M
  | [], [], _ => rfl
  | [], (f, t) :: m, h => by simp [edges] at h
  | (f, t) :: l, [], h => by simp [edges] at h
  | (f, t) :: l, (f', t') :: m, h => by
    simp only [edges, List.cons.injEq] at h
    obtain ⟨rfl, rfl, h⟩ := h
    rw [edges_inj h]
def pairAt (L : IL) (k : Nat) : Int × Int := L.getD k (0, 0)
theorem edges_even : ∀ (L : IL) (k : Nat), (edges L).getD (2 * k) 0 = (pairAt L k).1
  | [], k => by simp [edges, pairAt]
  | (f, t) :: l, 0 => by simp [edges, pairAt]
  | (f, t) :: l, k + 1 => by
    have := edges_even l k
    rw [show 2 * (k + 1) = 2 * k + 1 + 1 by omega]
    simpa [edges, pairAt] using this
theorem edges_odd : ∀ (L : IL) (k : Nat), (edges L).getD (2 * k + 1) 0 = (pairAt L k).2
  | [], k => by simp [edges, pairAt]
  | (f, t) :: l, 0 => by simp [edges, pairAt]
  | (f, t) :: l, k + 1 => by
    have := edges_odd l k
    rw [show 2 * (k + 1) + 1 = 2 * k + 1 + 1 + 1 by omega]
    simpa [edges, pairAt] using this
/-- the edge number n -/
def edg (L : IL) (n : Nat) : Int := (edges L).getD n 0
def mem (L : IL) (n : Int) : Bool := L.any fun p => decide (p.1 ≤ n) && decide (n < p.2)
def cnt (e : List Int) (n : Int) : Nat := e.countP fun x => decide (x ≤ n)
def odd (k : Nat) : Bool := k % 2 == 1
def asc (e : List Int) : Prop := e.Pairwise (· < ·)
theorem cnt_cons (x : Int) (e : List Int) (n : Int) : cnt (x :: e) n = cnt e n + if x ≤ n then 1 else 0 := by
  simp [cnt, List.countP_cons]
theorem cnt_append (e f : List Int) (n : Int) : cnt (e ++ f) n = cnt e n + cnt f n := by simp [cnt, List.countP_append]
theorem cnt_none {e : List Int} {n : Int} (h : ∀ x ∈ e, n < x) : cnt e n = 0 := by
  unfold cnt
  rw [List.countP_eq_zero]
  intro x hx
  have := h x hx
  simpa using this
theorem cnt_all {e : List Int} {n : Int} (h : ∀ x ∈ e, x ≤ n) : cnt e n = e.length := by
  unfold cnt
  rw [List.countP_eq_length]
  intro x hx
  simpa using h x hx
theorem odd_two (k : Nat) : odd (k + 1 + 1) = odd k := by unfold odd; rw [show k + 1 + 1 = k + 2 by omega, Nat.add_mod_right]
theorem odd_succ (k : Nat) : odd (k + 1) = !odd k := by
  unfold odd
  rcases Nat.mod_two_eq_zero_or_one k with h | h
  · rw [h, show (k + 1) % 2 = 1 by omega]; rfl
  · rw [h, show (k + 1) % 2 = 0 by omega]; rfl
theorem mem_cnt : ∀ {L : IL}, asc (edges L) → ∀ n, mem L n = odd (cnt (edges L) n)
  | [], _, n => by simp [mem, cnt, edges, odd]
  | (f, t) :: l, h, n => by
    have h1 := List.pairwise_cons.1 h
    have h2 := List.pairwise_cons.1 h1.2
    have ih := mem_cnt (L := l) h2.2 n
    have e1 : mem ((f, t) :: l) n = ((decide (f ≤ n) && decide (n < t)) || mem l n) := rfl
    rw [e1, ih]
    show _ = odd (cnt (f :: t :: edges l) n)
    rw [cnt_cons, cnt_cons]
    have hft := h1.1 t (by simp)
    by_cases c1 : t ≤ n
    · rw [if_pos c1, if_pos (by omega : f ≤ n), odd_two]
      rw [decide_eq_false (by omega : ¬ n < t)]; simp
    · have hz : cnt (edges l) n = 0 := cnt_none fun x hx => by have := h2.1 x hx; omega
      rw [hz, if_neg c1]
      by_cases c2 : f ≤ n
      · rw [if_pos c2, decide_eq_true c2, decide_eq_true (by omega : n < t)]; rfl
      · rw [if_neg c2, decide_eq_false c2]; rfl
/-- i elements are at most n, and the others are greater -/
def splits (e : List Int) (i : Nat) (n : Int) : Prop := i ≤ e.length ∧ (∀ k, k < i → e.getD k 0 ≤ n) ∧ ∀ k, i ≤ k → k < e.length → n < e.getD k 0
theorem getD_mem {e : List Int} {k : Nat} (h : k < e.length) : e.getD k 0 ∈ e := by
  rw [List.getD_eq_getElem?_getD, List.getElem?_eq_getElem h]; exact List.getElem_mem h
theorem mem_getD {e : List Int} {x : Int} (h : x ∈ e) : ∃ k, k < e.length ∧ e.getD k 0 = x := by
  obtain ⟨k, hk, hx⟩ := List.mem_iff_getElem.1 h
  exact ⟨k, hk, by rw [List.getD_eq_getElem?_getD, List.getElem?_eq_getElem hk]; exact hx⟩
theorem splits.cnt {e : List Int} {i : Nat} {n : Int} (h : splits e i n) : cnt e n = i := by
  obtain ⟨h1, h2, h3⟩ := h
  rw [← List.take_append_drop i e, cnt_append, cnt_all, cnt_none]
  · simp; omega
  · intro x hx
    obtain ⟨k, hk, rfl⟩ := mem_getD hx
    rw [List.length_drop] at hk
    have := h3 (i + k) (by omega) (by omega)
    simpa [List.getD_eq_getElem?_getD, List.getElem?_drop] using this
  · intro x hx
    obtain ⟨k, hk, rfl⟩ := mem_getD hx
    rw [List.length_take] at hk
    have := h2 k (by omega)
    simpa [List.getD_eq_getElem?_getD, List.getElem?_take, show k < i by omega] using this
theorem asc_getD {e : List Int} (h : asc e) {j k : Nat} (hjk : j < k) (hk : k < e.length) : e.getD j 0 < e.getD k 0 := by
  have := List.pairwise_iff_getElem.1 h j k (by omega) hk hjk
  simpa [List.getD_eq_getElem?_getD, List.getElem?_eq_getElem hk, List.getElem?_eq_getElem (show j < e.length by omega)] using this
/-- Where the i-th edge comes next: behind it one more is passed. -/
theorem splits.at {e : List Int} (he : asc e) {i : Nat} {n : Int} (h : splits e i n) (hi : i < e.length) : splits e (i + 1) (e.getD i 0) :=
  ⟨hi, fun k hk => by
    rcases Nat.lt_or_ge k i with h1 | h1
    · exact Int.le_of_lt (asc_getD he h1 hi)
    · have : k = i := by omega
      rw [this]; exact Int.le_refl _, fun k h1 h2 => asc_getD he (by omega) h2⟩
theorem splits.up {e : List Int} {i : Nat} {n m : Int} (h : splits e i n) (hnm : n ≤ m) (hm : i < e.length → m < e.getD i 0) (he : asc e) : splits e i m :=
  ⟨h.1, fun k hk => Int.le_trans (h.2.1 k hk) hnm, fun k h1 h2 => by
    rcases Nat.lt_or_ge i k with h3 | h3
    · exact Int.lt_trans (hm (by omega)) (asc_getD he h3 h2)
    · have : k = i := by omega
      rw [this]; exact hm (by omega)⟩
/-- Two ascending lists of edges with the same members are the same. -/
theorem asc_ext : ∀ {E F : List Int}, asc E → asc F → (∀ n, odd (cnt E n) = odd (cnt F n)) → E = F
  | [], [], _, _, _ => rfl
  | [], y :: F, _, hF, h => by
    have h1 := List.pairwise_cons.1 hF
    have := h y
    rw [cnt_cons, cnt_none (e := F) (fun x hx => h1.1 x hx), if_pos (Int.le_refl _)] at this
    simp [cnt, odd] at this
  | x :: E, [], hE, _, h => by
    have h1 := List.pairwise_cons.1 hE
    have := h x
    rw [cnt_cons, cnt_none (e := E) (fun y hy => h1.1 y hy), if_pos (Int.le_refl _)] at this
    simp [cnt, odd] at this
  | x :: E, y :: F, hE, hF, h => by
    have h1 := List.pairwise_cons.1 hE
    have h2 := List.pairwise_cons.1 hF
    have hxy : x = y := by
      rcases Int.lt_trichotomy x y with c | c | c
      · have := h x
        rw [cnt_cons, cnt_none (e := E) (fun z hz => h1.1 z hz), if_pos (Int.le_refl _), cnt_none (e := y :: F) (fun z hz => by rcases List.mem_cons.1 hz with rfl | hz; exact c; exact Int.lt_trans c (h2.1 z hz))] at this
        simp [odd] at this
      · exact c
      · have := h y
        rw [cnt_cons y, cnt_none (e := F) (fun z hz => h2.1 z hz), if_pos (Int.le_refl _), cnt_none (e := x :: E) (fun z hz => by rcases List.mem_cons.1 hz with rfl | hz; exact c; exact Int.lt_trans c (h1.1 z hz))] at this
        simp [odd] at this
    subst hxy
    rw [asc_ext h1.2 h2.2 fun n => ?_]
    have := h n
    rw [cnt_cons, cnt_cons] at this
    by_cases c : x ≤ n
    · rw [if_pos c, odd_succ, odd_succ] at this
      simpa using this
    · rw [cnt_none (e := E) (fun z hz => by have := h1.1 z hz; omega), cnt_none (e := F) (fun z hz => by have := h2.1 z hz; omega)]
theorem il_ext {L M : IL} (hL : asc (edges L)) (hM : asc (edges M)) (h : ∀ n, mem L n = mem M n) : L = M :=
  edges_inj (asc_ext hL hM fun n => by rw [← mem_cnt hL, ← mem_cnt hM, h])
/-- The edges of what has been collected: the intervals, and the begin of one that is not ended yet. -/
def sofar (out : IL) (st : Int) (ins : Bool) : List Int := edges out ++ if ins then [st] else []
/-- What a merge knows behind the place p. -/
structure MI (ea eb : List Int) (keep : Bool → Bool → Bool) (p : Int) (i j : Nat) (out : IL) (st : Int) (ins : Bool) : Prop where
  sa : splits ea i p
  sb : splits eb j p
  hins : ins = keep (odd i) (odd j)
  ha : asc (sofar out st ins)
  hp : ∀ x ∈ sofar out st ins, x ≤ p
  hm : ∀ n, n ≤ p → odd (cnt (sofar out st ins) n) = keep (odd (cnt ea n)) (odd (cnt eb n))
theorem odd_dbl (k : Nat) : odd (2 * k) = false := by unfold odd; rw [show 2 * k % 2 = 0 by omega]; rfl
theorem odd_sofar (out : IL) (st : Int) (ins : Bool) : odd (sofar out st ins).length = ins := by
  unfold sofar
  rw [List.length_append, edges_length]
  cases ins
  · simp [odd_dbl]
  · simp [odd_succ, odd_dbl]
theorem MI.start {a b : IL} {keep : Bool → Bool → Bool} (hk : keep false false = false) : ∃ p, MI (edges a) (edges b) keep p 0 0 [] 0 false := by
  have low : ∀ e : List Int, ∃ p : Int, ∀ x ∈ e, p < x := by
    intro e
    induction e with
    | nil => exact ⟨0, fun x hx => by cases hx⟩
    | cons y e ih =>
      obtain ⟨p, hp⟩ := ih
      refine ⟨min p (y - 1), fun x hx => ?_⟩
      rcases List.mem_cons.1 hx with rfl | hx
      · omega
      · have := hp x hx; omega
  obtain ⟨p, hp⟩ := low (edges a ++ edges b)
  refine ⟨p, ⟨Nat.zero_le _, fun k hk => by omega, fun k _ h => hp _ (List.mem_append_left _ (getD_mem h))⟩, ⟨Nat.zero_le _, fun k hk => by omega, fun k _ h => hp _ (List.mem_append_right _ (getD_mem h))⟩, hk.symm, List.Pairwise.nil, fun x hx => by simp [sofar, edges] at hx, fun n hn => ?_⟩
  rw [cnt_none (e := edges a) (fun x hx => by have := hp x (List.mem_append_left _ hx); omega), cnt_none (e := edges b) (fun x hx => by have := hp x (List.mem_append_right _ hx); omega)]
  simp [sofar, edges, cnt, odd, hk]
/-- A step: the place goes on to 'at', the counts to i', j'; the result is turned there if it must be. -/
theorem MI.step {ea eb : List Int} {keep : Bool → Bool → Bool} {p q : Int} {i j i' j' : Nat} {out out' : IL} {st st' : Int} {ins ins' : Bool} (h : MI ea eb keep p i j out st ins) (hA : asc ea) (hB : asc eb) (hq : p < q)
    (ia : i < ea.length → q ≤ ea.getD i 0) (ib : j < eb.length → q ≤ eb.getD j 0) (sa : splits ea i' q) (sb : splits eb j' q) (hins : ins' = keep (odd i') (odd j'))
    (hE : sofar out' st' ins' = if ins' = ins then sofar out st ins else sofar out st ins ++ [q]) : MI ea eb keep q i' j' out' st' ins' := by
  have mid : ∀ n, p ≤ n → n < q → odd (cnt (sofar out st ins) n) = keep (odd (cnt ea n)) (odd (cnt eb n)) := fun n h1 h2 => by
    rw [(h.sa.up h1 (fun hl => Int.lt_of_lt_of_le h2 (ia hl)) hA).cnt, (h.sb.up h1 (fun hl => Int.lt_of_lt_of_le h2 (ib hl)) hB).cnt, cnt_all fun x hx => Int.le_trans (h.hp x hx) h1, odd_sofar, h.hins]
  have all : ∀ n, n < q → odd (cnt (sofar out st ins) n) = keep (odd (cnt ea n)) (odd (cnt eb n)) := fun n h2 => by
    rcases Int.le_total n p with h1 | h1
    · exact h.hm n h1
    · exact mid n h1 h2
  have hpq : ∀ x ∈ sofar out' st' ins', x ≤ q := fun x hx => by
    rw [hE] at hx
    split at hx
    · have := h.hp x hx; omega
    · rcases List.mem_append.1 hx with hx | hx
      · have := h.hp x hx; omega
      · simp at hx; omega
  refine ⟨sa, sb, hins, ?_, hpq, fun n hn => ?_⟩
  · rw [hE]
    split
    · exact h.ha
    · unfold asc
      rw [List.pairwise_append]
      refine ⟨h.ha, by simp, fun x hx y hy => ?_⟩
      have := h.hp x hx
      simp at hy; omega
  · rcases Int.lt_or_eq_of_le hn with h1 | rfl
    · rw [← all n h1, hE]
      split
      · rfl
      · rw [cnt_append, cnt_none (e := [q]) (fun x hx => by simp at hx; omega), Nat.add_zero]
    · rw [cnt_all hpq, odd_sofar, sa.cnt, sb.cnt, hins]
theorem MI.done {a b out : IL} {keep : Bool → Bool → Bool} {p : Int} {i j : Nat} {st : Int} {ins : Bool} (h : MI (edges a) (edges b) keep p i j out st ins) (hk : keep false false = false) (hA : asc (edges a)) (hB : asc (edges b))
    (hi : i = 2 * a.length) (hj : j = 2 * b.length) : asc (edges out) ∧ ∀ n, mem out n = keep (mem a n) (mem b n) := by
  have hf : ins = false := by rw [h.hins, hi, hj, odd_dbl, odd_dbl, hk]
  have he : sofar out st ins = edges out := by rw [hf]; simp [sofar]
  have h1 : asc (edges out) := he ▸ h.ha
  refine ⟨h1, fun n => ?_⟩
  rw [mem_cnt h1, mem_cnt hA, mem_cnt hB]
  rcases Int.le_total n p with c | c
  · have := h.hm n c; rwa [he] at this
  · have ha := h.sa.up c (fun hl => by rw [edges_length] at hl; omega) hA
    have hb := h.sb.up c (fun hl => by rw [edges_length] at hl; omega) hB
    rw [ha.cnt, hb.cnt, cnt_all fun x hx => Int.le_trans (h.hp x (he.symm ▸ hx)) c, edges_length, hi, hj, odd_dbl, odd_dbl, odd_dbl, hk]
def low : Option Int → Int → Bool
  | some q, f => decide (f ≤ q)
  | none, _ => false
/-- Check, from an interval before on -/
def chkFrom : Option Int → IL → Int
  | _, [] => 0
  | p, (f, t) :: l => if t ≤ f then 2 else if low p f = true then 10 else chkFrom (some t) l
theorem chkFrom_cons (p : Option Int) (f t : Int) (l : IL) : chkFrom p ((f, t) :: l) = if t ≤ f then 2 else if low p f = true then 10 else chkFrom (some t) l := rfl
def chk (L : IL) : Int := chkFrom none L
def prevAt (L : IL) (k : Nat) : Option Int := if k = 0 then none else some (pairAt L (k - 1)).2
theorem chk_asc : ∀ {p : Option Int} {L : IL}, chkFrom p L = 0 ↔ asc (p.toList ++ edges L)
  | p, [] => by cases p <;> simp [chkFrom, edges, asc]
  | p, (f, t) :: l => by
    have ih := chk_asc (p := some t) (L := l)
    unfold chkFrom
    by_cases c : t ≤ f
    · rw [if_pos c]
      refine ⟨fun h => (by cases h), fun h => ?_⟩
      have := (List.pairwise_append.1 h).2.1
      have := (List.pairwise_cons.1 this).1 t (by simp)
      omega
    · rw [if_neg c]
      cases p with
      | none =>
        rw [if_neg (by simp [low]), ih]
        simp only [Option.toList, List.nil_append, List.singleton_append, edges, asc]
        rw [List.pairwise_cons (a := f)]
        refine ⟨fun h => ⟨fun x hx => ?_, h⟩, fun h => h.2⟩
        rcases List.mem_cons.1 hx with rfl | hx
        · omega
        · have := (List.pairwise_cons.1 h).1 x hx; omega
      | some q =>
        by_cases d : f ≤ q
        · rw [if_pos (by simpa [low] using d)]
          refine ⟨fun h => (by cases h), fun h => ?_⟩
          have := (List.pairwise_cons.1 h).1 f (by simp [edges])
          omega
        · rw [if_neg (by simpa [low] using d), ih]
          simp only [Option.toList, List.singleton_append, edges, asc]
          rw [List.pairwise_cons (a := q), List.pairwise_cons (a := f)]
          refine ⟨fun h => ⟨fun x hx => ?_, fun x hx => ?_, h⟩, fun h => h.2.2⟩
          · rcases List.mem_cons.1 hx with rfl | hx
            · omega
            · rcases List.mem_cons.1 hx with rfl | hx
              · omega
              · have := (List.pairwise_cons.1 h).1 x hx; omega
          · rcases List.mem_cons.1 hx with rfl | hx
            · omega
            · have := (List.pairwise_cons.1 h).1 x hx; omega
theorem chk_ok {L : IL} : chk L = 0 ↔ asc (edges L) := by unfold chk; rw [chk_asc]; simp
end Go.Proofs.Ytdpdlbonlpdkjab.Iv
