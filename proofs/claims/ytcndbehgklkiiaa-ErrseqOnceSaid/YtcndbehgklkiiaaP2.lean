import Derived.Test.YtcndbehgklkiiaaP1
namespace Go.Proofs.Ytcndbehgklkiiaa.Es
open Go Go.RowKit
set_option linter.unusedVariables false
set_option linter.unusedSimpArgs false
theorem ckD (n : Int) (b : Bool) (s : Int) (h : vl n b = true) (h0 : 0 ≤ s) (h1 : s ≤ n) : ck n b s = if s = n then ((n, b), s, 0) else ((n, true), n, 15) := by
  unfold ck; rw [h, if_neg (by decide), if_neg (by omega)]
/-- code and world, side by side -/
structure Inv (n : Int) (b : Bool) (E S : Int) (kn : Nat → Int) (bg : Nat → Bool) (at' : Nat → Int) : Prop where
  v : vl n b = true
  s0 : 0 ≤ S
  s1 : S ≤ E
  n1 : n ≤ E
  u : (0 < n ∧ b = false) ↔ S < E
  o : ∀ i, i < 4 → bg i = true → (0 ≤ at' i ∧ at' i ≤ n) ∧ (0 ≤ kn i ∧ kn i ≤ E) ∧ (at' i < n ↔ kn i < E) ∧ (S < E → at' i < n)
theorem Inv.start : Inv 0 false 0 0 (fun _ => 0) (fun _ => false) (fun _ => 0) :=
  ⟨by decide, by omega, by omega, by omega, by simp, fun i hi h => by cases h⟩
section
variable {n : Int} {b : Bool} {E S : Int} {kn : Nat → Int} {bg : Nat → Bool} {at' : Nat → Int}
theorem vl_iff {n : Int} {b : Bool} : vl n b = true ↔ 0 ≤ n ∧ n ≤ 1073741824 ∧ (0 < n ∨ b = false) := ⟨vl_of, fun h => by unfold vl; simp; exact h⟩
/-- an error: Set answers OK, and all stays so -/
theorem Inv.fail (h : Inv n b E S kn bg at') (hE : E ≤ 1000) : (st n b).2 = 0 ∧ Inv (st n b).1.1 (st n b).1.2 (E + 1) S kn bg at' := by
  obtain ⟨v, s0, s1, n1, u, o⟩ := h
  have hv := vl_iff.1 v
  by_cases hu : un n b = true
  · have e : st n b = ((n, b), 0) := by unfold st; rw [v, if_neg (by decide), if_pos hu]
    obtain ⟨u0, u1⟩ := un_of hu
    have hs := u.1 ⟨u0, u1⟩
    rw [e]
    dsimp only
    refine ⟨rfl, v, s0, by omega, by omega, ⟨fun _ => by omega, fun _ => ⟨u0, u1⟩⟩, fun i hi hb => ?_⟩
    obtain ⟨o1, o2, o3, o4⟩ := o i hi hb
    have := o4 hs
    exact ⟨o1, by omega, ⟨fun _ => by omega, fun _ => this⟩, fun _ => this⟩
  · have e : st n b = ((n + 1, false), 0) := by unfold st; rw [v, if_neg (by decide), if_neg hu, if_neg (by omega)]
    have hs : ¬ S < E := fun g => hu (by obtain ⟨u0, u1⟩ := u.2 g; unfold un; simp [u0, u1])
    rw [e]
    dsimp only
    refine ⟨rfl, vl_iff.2 ⟨by omega, by omega, .inr rfl⟩, s0, by omega, by show n + 1 ≤ E + 1; omega, ⟨fun _ => by omega, fun _ => ⟨by show 0 < n + 1; omega, rfl⟩⟩, fun i hi hb => ?_⟩
    obtain ⟨o1, o2, o3, o4⟩ := o i hi hb
    show (0 ≤ at' i ∧ at' i ≤ n + 1) ∧ _ ∧ (at' i < n + 1 ↔ _) ∧ (_ → at' i < n + 1)
    exact ⟨by omega, by omega, ⟨fun _ => by omega, fun _ => by omega⟩, fun _ => by omega⟩
/-- an observer begins -/
theorem Inv.begin (h : Inv n b E S kn bg at') {k : Nat} (hk : k < 4) : (sm n b).2 = 0 ∧ Inv n b E S (upd kn k S) (upd bg k true) (upd at' k (sm n b).1) := by
  obtain ⟨v, s0, s1, n1, u, o⟩ := h
  have hv := vl_iff.1 v
  have key : (sm n b).2 = 0 ∧ (0 ≤ (sm n b).1 ∧ (sm n b).1 ≤ n) ∧ ((sm n b).1 < n ↔ S < E) := by
    by_cases hu : un n b = true
    · obtain ⟨u0, u1⟩ := un_of hu
      have e : sm n b = (n - 1, 0) := by unfold sm; rw [v, if_neg (by decide), if_pos hu]
      rw [e]
      have := u.1 ⟨u0, u1⟩
      exact ⟨rfl, by show 0 ≤ n - 1 ∧ n - 1 ≤ n; omega, ⟨fun _ => this, fun _ => by show n - 1 < n; omega⟩⟩
    · have e : sm n b = (n, 0) := by unfold sm; rw [v, if_neg (by decide), if_neg hu]
      have hs : ¬ S < E := fun g => hu (by obtain ⟨u0, u1⟩ := u.2 g; unfold un; simp [u0, u1])
      rw [e]
      exact ⟨rfl, ⟨hv.1, Int.le_refl _⟩, ⟨fun g => absurd g (Int.lt_irrefl _), fun g => absurd g hs⟩⟩
  refine ⟨key.1, v, s0, s1, n1, u, fun i hi hb => ?_⟩
  unfold upd at hb ⊢
  by_cases e : i = k
  · simp only [if_pos e]
    exact ⟨key.2.1, ⟨s0, s1⟩, key.2.2, key.2.2.2⟩
  · simp only [if_neg e] at hb ⊢
    exact o i hi hb
/-- an observer asks -/
theorem Inv.ask (h : Inv n b E S kn bg at') {k : Nat} (hk : k < 4) (hb : bg k = true) : vl (ck n b (at' k)).1.1 (ck n b (at' k)).1.2 = true ∧ (ck n b (at' k)).2.2 = (if kn k < E then 15 else 0) ∧ Inv (ck n b (at' k)).1.1 (ck n b (at' k)).1.2 E (if kn k < E then E else S) (upd kn k E) bg (upd at' k (ck n b (at' k)).2.1) := by
  obtain ⟨v, s0, s1, n1, u, o⟩ := h
  have hv := vl_iff.1 v
  obtain ⟨o1, o2, o3, o4⟩ := o k hk hb
  rw [ckD n b (at' k) v o1.1 o1.2]
  by_cases e : at' k = n
  · have hs : ¬ kn k < E := fun g => by have := o3.2 g; omega
    have hse : ¬ S < E := fun g => by have := o4 g; omega
    rw [if_pos e, if_neg hs, if_neg hs]
    dsimp only
    refine ⟨v, rfl, v, s0, s1, n1, u, fun i hi hbi => ?_⟩
    unfold upd
    by_cases e2 : i = k
    · simp only [if_pos e2]
      exact ⟨o1, ⟨by omega, by omega⟩, ⟨fun g => by omega, fun g => by omega⟩, fun g => absurd g hse⟩
    · simp only [if_neg e2]
      exact o i hi hbi
  · have hs : kn k < E := o3.1 (by omega)
    have hn : 0 < n := by omega
    have v2 : vl n true = true := vl_iff.2 ⟨hv.1, hv.2.1, .inl hn⟩
    rw [if_neg e, if_pos hs, if_pos hs]
    dsimp only
    refine ⟨v2, rfl, v2, by omega, by omega, n1, ⟨fun g => (by have := g.2; cases this), fun g => (by omega)⟩, fun i hi hbi => ?_⟩
    unfold upd
    by_cases e2 : i = k
    · simp only [if_pos e2]
      exact ⟨⟨hv.1, Int.le_refl _⟩, ⟨by omega, by omega⟩, ⟨fun g => by omega, fun g => by omega⟩, fun g => by omega⟩
    · simp only [if_neg e2]
      obtain ⟨p1, p2, p3, p4⟩ := o i hi hbi
      exact ⟨p1, p2, p3, fun g => by omega⟩
end
/-- all that the play holds in memory: the world, the sequence, the positions, and what was told -/
structure Sx (w : World) (B p gk gb ge ga : Nat) (n : Int) (b : Bool) (E S : Int) (kn : Nat → Int) (bg : Nat → Bool) (at' : Nat → Int) (v : Value) (T : List Value) : Prop where
  wd : Wd w p gk gb E S kn bg
  eb : Box w ge 23 #[.int .i64 n, .bool b]
  ar : Rw w ga 62 (fun i => .int .i64 (at' i))
  ow : w.ownsRow B 4 1 v T.length T
  lt : p < B ∧ gk < B ∧ gb < B ∧ ge < B ∧ ga < B ∧ B ≤ w.heap.size
  ne : (ge ≠ p ∧ ge ≠ gk ∧ ge ≠ gb) ∧ (ga ≠ p ∧ ga ≠ gk ∧ ga ≠ gb) ∧ ge ≠ ga
section
variable {w w' : World} {B p gk gb ge ga : Nat} {n : Int} {b : Bool} {E S : Int} {kn : Nat → Int} {bg : Nat → Bool} {at' : Nat → Int} {v : Value} {T : List Value}
theorem own_blk {base N size : Nat} {t : TypeId} {xs : List Value} (h : w.ownsRow base t size v N xs) (e : ∀ k, base ≤ k → k < w.heap.size → w'.heap[k]? = w.heap[k]?) : w'.ownsRow base t size v N xs := by
  obtain ⟨hl, h | ⟨g, cap, cur, e2, hg, hh, r⟩⟩ := h
  · exact ⟨hl, .inl h⟩
  · exact ⟨hl, .inr ⟨g, cap, cur, e2, hg, (e g hg (blk_lt hh)).trans hh, r⟩⟩
theorem Sx.below (h : Sx w B p gk gb ge ga n b E S kn bg at' v T) (hb : Below w.heap.size w w') : Sx w' B p gk gb ge ga n b E S kn bg at' v T :=
  ⟨h.wd.below hb, h.eb.below hb, h.ar.blk (hb.block _ h.ar.lt), row_below h.ow hb, by have := h.lt; have := hb.size; omega, h.ne⟩
/-- a step that changes only blocks of the world -/
theorem Sx.step (h : Sx w B p gk gb ge ga n b E S kn bg at' v T) {E' S' : Int} {kn' : Nat → Int} {bg' : Nat → Bool} (f : Fr p gk gb w w') (d : Wd w' p gk gb E' S' kn' bg') : Sx w' B p gk gb ge ga n b E' S' kn' bg' at' v T := by
  obtain ⟨l1, l2, l3, l4, l5, l6⟩ := h.lt
  obtain ⟨⟨n1, n2, n3⟩, ⟨n4, n5, n6⟩, n7⟩ := h.ne
  exact ⟨d, (f.o ge n1 n2 n3).trans h.eb, h.ar.blk (f.o ga n4 n5 n6), own_blk h.ow (fun k hk _ => f.o k (by omega) (by omega) (by omega)), ⟨l1, l2, l3, l4, l5, Nat.le_trans l6 f.size⟩, h.ne⟩
theorem Sx.setE (h : Sx w B p gk gb ge ga n b E S kn bg at' v T) (n' : Int) (b' : Bool) : Sx ((w.setCell ⟨ge, 0, none⟩ (.int .i64 n')).setCell ⟨ge, 1, none⟩ (.bool b')) B p gk gb ge ga n' b' E S kn bg at' v T := by
  obtain ⟨l1, l2, l3, l4, l5, l6⟩ := h.lt
  obtain ⟨⟨n1, n2, n3⟩, ⟨n4, n5, n6⟩, n7⟩ := h.ne
  have e : ∀ k, k ≠ ge → ((w.setCell ⟨ge, 0, none⟩ (.int .i64 n')).setCell ⟨ge, 1, none⟩ (.bool b')).heap[k]? = w.heap[k]? := fun k hk => (heap_setCell_other _ ⟨ge, 1, none⟩ k _ hk).trans (heap_setCell_other w ⟨ge, 0, none⟩ k _ hk)
  exact ⟨h.wd.blk (fun k hk => e k (by rcases hk with rfl | rfl | rfl <;> omega)), h.eb.set2 _ _, h.ar.blk (e ga (fun g => n7 g.symm)), own_blk h.ow (fun k hk _ => e k (by omega)), ⟨l1, l2, l3, l4, l5, by simpa using l6⟩, h.ne⟩
theorem Sx.setA (h : Sx w B p gk gb ge ga n b E S kn bg at' v T) (k : Nat) (x : Int) : Sx (w.setCell ⟨ga, k, none⟩ (.int .i64 x)) B p gk gb ge ga n b E S kn bg (upd at' k x) v T := by
  obtain ⟨l1, l2, l3, l4, l5, l6⟩ := h.lt
  obtain ⟨⟨n1, n2, n3⟩, ⟨n4, n5, n6⟩, n7⟩ := h.ne
  have e : ∀ j, j ≠ ga → (w.setCell ⟨ga, k, none⟩ (.int .i64 x)).heap[j]? = w.heap[j]? := fun j hj => heap_setCell_other w ⟨ga, k, none⟩ j _ hj
  exact ⟨h.wd.blk (fun j hj => e j (by rcases hj with rfl | rfl | rfl <;> omega)), (e ge n7).trans h.eb, (h.ar.put k _).congr (fun i hi => by unfold upd; split <;> rfl), own_blk h.ow (fun j hj _ => e j (by omega)), ⟨l1, l2, l3, l4, l5, by simpa using l6⟩, h.ne⟩
/-- the row of what was told has grown -/
theorem Sx.told (h : Sx w B p gk gb ge ga n b E S kn bg at' v T) {v' : Value} {T' : List Value} (o : w'.ownsRow B 4 1 v' T'.length T') (hb : Below B w w') : Sx w' B p gk gb ge ga n b E S kn bg at' v' T' := by
  obtain ⟨l1, l2, l3, l4, l5, l6⟩ := h.lt
  exact ⟨h.wd.blk (fun k hk => hb.block k (by rcases hk with rfl | rfl | rfl <;> assumption)), (hb.block _ l4).trans h.eb, h.ar.blk (hb.block _ l5), o, ⟨l1, l2, l3, l4, l5, Nat.le_trans l6 hb.size⟩, h.ne⟩
end
end Go.Proofs.Ytcndbehgklkiiaa.Es
