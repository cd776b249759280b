import Derived.WalkKit
/-
  DERIVED. Buddy lists as lists of numbers: blocks, sets of frames, validity; a valid zone is the canonical one of its set.
-/
namespace Go.Proofs.Ytiopfeleaifpbaa.Bd
set_option linter.unusedVariables false
abbrev Is := List Int
abbrev Fl := Nat → List Int
structure Pm where
  nd : Int
  kd : Int
  st : Int
  ct : Int
  mn : Int
def bw : Nat → Int
  | 0 => 1
  | 1 => 2
  | 2 => 4
  | 3 => 8
  | _ => 16
def par (p : Pm) : Prop := 0 ≤ p.nd ∧ p.nd < 4 ∧ (p.kd = 0 ∨ p.kd = 1) ∧ 0 ≤ p.st ∧ 1 ≤ p.ct ∧ p.ct ≤ 256 ∧ p.st ≤ 256 - p.ct ∧ 0 ≤ p.mn ∧ p.mn ≤ p.ct
def dn (k : Nat) (x : Int) : Int := x - x % bw k
def blk (p : Pm) (k : Nat) (f : Int) : Prop := f % bw k = 0 ∧ p.st ≤ f ∧ f + bw k ≤ p.st + p.ct
def bud (k : Nat) (f : Int) : Int := if f % bw (k + 1) = 0 then f + bw k else f - bw k
def Srt (l : Is) : Prop := l.Pairwise (· < ·)
def cov (L : Fl) (k : Nat) (x : Int) : Prop := dn k x ∈ L k
def InS (L : Fl) (x : Int) : Prop := ∃ k, k < 5 ∧ cov L k x
theorem cases5 {k : Nat} (h : k < 5) : k = 0 ∨ k = 1 ∨ k = 2 ∨ k = 3 ∨ k = 4 := by omega
theorem cases4 {k : Nat} (h : k < 4) : k = 0 ∨ k = 1 ∨ k = 2 ∨ k = 3 := by omega
theorem bw_pos (k : Nat) : 0 < bw k := by unfold bw; split <;> decide
theorem bw_le (k : Nat) : bw k ≤ 16 := by unfold bw; split <;> decide
theorem dn_le (k : Nat) (x : Int) : dn k x ≤ x := by
  have := Int.emod_nonneg x (show bw k ≠ 0 by have := bw_pos k; omega)
  unfold dn; omega
theorem dn_lt (k : Nat) (x : Int) : x < dn k x + bw k := by
  have := Int.emod_lt_of_pos x (bw_pos k)
  unfold dn; omega
theorem dn_mod (k : Nat) (x : Int) : dn k x % bw k = 0 := by unfold dn; exact Int.emod_eq_zero_of_dvd (Int.dvd_self_sub_emod)
theorem dn_eq {k : Nat} (hk : k < 5) {f x : Int} (h : f % bw k = 0) (h1 : f ≤ x) (h2 : x < f + bw k) : dn k x = f := by
  unfold dn
  rcases cases5 hk with rfl | rfl | rfl | rfl | rfl <;> simp only [bw] at * <;> omega
theorem dn_self {k : Nat} {f : Int} (h : f % bw k = 0) : dn k f = f := by unfold dn; omega
theorem dn_dn {i j : Nat} (hij : i ≤ j) (hj : j < 5) (x : Int) : dn j (dn i x) = dn j x := by
  unfold dn
  rcases cases5 hj with rfl | rfl | rfl | rfl | rfl <;> rcases cases5 (show i < 5 by omega) with rfl | rfl | rfl | rfl | rfl <;> simp only [bw] <;> omega
/-- a smaller block lies in the greater one -/
theorem dn_in {i j : Nat} (hij : i ≤ j) (hj : j < 5) (x : Int) : dn j x ≤ dn i x ∧ dn i x + bw i ≤ dn j x + bw j := by
  unfold dn
  rcases cases5 hj with rfl | rfl | rfl | rfl | rfl <;> rcases cases5 (show i < 5 by omega) with rfl | rfl | rfl | rfl | rfl <;> simp only [bw] <;> omega
theorem dn_of {i j : Nat} (hij : i ≤ j) (hj : j < 5) {x y : Int} (h : dn i x = dn i y) : dn j x = dn j y := by rw [← dn_dn hij hj x, h, dn_dn hij hj y]
theorem bud_mod {k : Nat} (hk : k < 4) {f : Int} (h : f % bw k = 0) : bud k f % bw k = 0 := by
  unfold bud
  rcases cases4 hk with rfl | rfl | rfl | rfl <;> simp only [bw] at * <;> split <;> omega
theorem bud_up {k : Nat} (hk : k < 4) {f : Int} (h : f % bw k = 0) : dn (k + 1) (bud k f) = dn (k + 1) f := by
  unfold bud dn
  rcases cases4 hk with rfl | rfl | rfl | rfl <;> simp only [bw] at * <;> split <;> omega
theorem bud_ne {k : Nat} (f : Int) : bud k f ≠ f := by
  have := bw_pos k
  unfold bud; split <;> omega
theorem bud_bud {k : Nat} (hk : k < 4) {f : Int} (h : f % bw k = 0) : bud k (bud k f) = f := by
  unfold bud
  rcases cases4 hk with rfl | rfl | rfl | rfl <;> simp only [bw] at * <;> repeat' split <;> omega
theorem bud_or {k : Nat} (hk : k < 4) {f x : Int} (h : f % bw k = 0) (hx : dn (k + 1) x = dn (k + 1) f) : dn k x = f ∨ dn k x = bud k f := by
  revert hx
  unfold bud dn
  rcases cases4 hk with rfl | rfl | rfl | rfl <;> simp only [bw] at * <;> split <;> omega
theorem half {k : Nat} (hk : k < 4) {F x : Int} (h : F % bw (k + 1) = 0) (h1 : F ≤ x) (h2 : x < F + bw (k + 1)) : dn k x = F ∨ dn k x = F + bw k := by
  unfold dn
  rcases cases4 hk with rfl | rfl | rfl | rfl <;> simp only [bw] at * <;> omega
theorem half_mod {k : Nat} (hk : k < 4) {F : Int} (h : F % bw (k + 1) = 0) : F % bw k = 0 ∧ (F + bw k) % bw k = 0 ∧ bw (k + 1) = bw k + bw k ∧ bud k F = F + bw k := by
  unfold bud
  rcases cases4 hk with rfl | rfl | rfl | rfl <;> simp only [bw] at * <;> (rw [if_pos h]; omega)
-- VALID ZONES
structure Lst (p : Pm) (L : Fl) : Prop where
  srt : ∀ k, k < 5 → Srt (L k)
  blk : ∀ k, k < 5 → ∀ f ∈ L k, blk p k f
structure Vd (p : Pm) (L : Fl) : Prop extends Lst p L where
  dis : ∀ x k j, k < 5 → j < 5 → cov L k x → cov L j x → k = j
  nob : ∀ k, k < 4 → ∀ f ∈ L k, bud k f ∉ L k
def good (p : Pm) (S : Int → Prop) (k : Nat) (f : Int) : Prop := blk p k f ∧ ∀ x, f ≤ x → x < f + bw k → S x
def mxl (p : Pm) (S : Int → Prop) (k : Nat) (f : Int) : Prop := good p S k f ∧ (k < 4 → ¬ good p S (k + 1) (dn (k + 1) f))
structure Canon (p : Pm) (S : Int → Prop) (L : Fl) : Prop where
  srt : ∀ k, k < 5 → Srt (L k)
  mem : ∀ k, k < 5 → ∀ f, f ∈ L k ↔ mxl p S k f
theorem good_sub {p : Pm} {S : Int → Prop} {i j : Nat} {x : Int} (h : good p S j (dn j x)) (hij : i ≤ j) (hj : j < 5) : good p S i (dn i x) := by
  obtain ⟨⟨h1, h2, h3⟩, h4⟩ := h
  have d := dn_in hij hj x
  exact ⟨⟨dn_mod _ _, by omega, by omega⟩, fun y a b => h4 y (by omega) (by omega)⟩
theorem cov_mem {L : Fl} {k : Nat} {f : Int} (h : f ∈ L k) (hm : f % bw k = 0) (hk : k < 5) {x : Int} (h1 : f ≤ x) (h2 : x < f + bw k) : cov L k x := by
  unfold cov; rw [dn_eq hk hm h1 h2]; exact h
/-- a block cannot be made up of smaller free ones -/
theorem not_full {p : Pm} {L : Fl} (V : Vd p L) : ∀ j, j < 5 → ∀ F, F % bw j = 0 → (∀ x, F ≤ x → x < F + bw j → ∃ i, i < j ∧ cov L i x) → False
  | 0, _, F, _, h => by
    obtain ⟨i, hi, _⟩ := h F (Int.le_refl _) (by simp only [bw]; omega)
    omega
  | j + 1, hj, F, hF, h => by
    obtain ⟨m1, m2, e, hb⟩ := half_mod (show j < 4 by omega) hF
    have bp := bw_pos j
    have side : ∀ H, H % bw j = 0 → F ≤ H → H + bw j ≤ F + bw (j + 1) → H ∈ L j := fun H hH a b => by
      rcases Classical.em (H ∈ L j) with hm | hm
      · exact hm
      · refine (not_full V j (by omega) H hH fun x c d => ?_).elim
        obtain ⟨i, hi, hc⟩ := h x (by omega) (by omega)
        refine ⟨i, ?_, hc⟩
        rcases Nat.lt_or_ge i j with h1 | h1
        · exact h1
        · obtain rfl : i = j := by omega
          unfold cov at hc
          rw [dn_eq (by omega) hH c d] at hc
          exact absurd hc hm
    have a := side F m1 (Int.le_refl _) (by omega)
    have b := side (F + bw j) m2 (by omega) (by omega)
    exact V.nob j (by omega) F a (by rw [hb]; exact b)
theorem canon_of_vd {p : Pm} {L : Fl} (V : Vd p L) {S : Int → Prop} (hS : ∀ x, S x ↔ InS L x) : Canon p S L := by
  refine ⟨V.srt, fun k hk f => ⟨fun hf => ?_, fun hf => ?_⟩⟩
  · have hb := V.blk k hk f hf
    have gd : good p S k f := ⟨hb, fun x a b => (hS x).2 ⟨k, hk, cov_mem hf hb.1 hk a b⟩⟩
    refine ⟨gd, fun h4 hg => ?_⟩
    refine not_full V (k + 1) (by omega) (dn (k + 1) f) (dn_mod _ _) fun x a b => ?_
    obtain ⟨i, hi, hc⟩ := (hS x).1 (hg.2 x a b)
    refine ⟨i, ?_, hc⟩
    rcases Nat.lt_or_ge i (k + 1) with h1 | h1
    · exact h1
    · have e : dn (k + 1) x = dn (k + 1) f := dn_eq (by omega) (dn_mod _ _) a b
      have c2 : cov L i f := by unfold cov; rw [← dn_of h1 hi e]; exact hc
      have := V.dis f k i hk hi (by unfold cov; rw [dn_self hb.1]; exact hf) c2
      omega
  · obtain ⟨⟨hb, ha⟩, hm⟩ := hf
    have up : ∀ i x, f ≤ x → x < f + bw k → k < i → i < 5 → cov L i x → False := fun i x a b h1 h2 hc => by
      refine hm (by omega) ?_
      have e : dn k x = dn k f := (dn_eq hk hb.1 a b).trans (dn_self hb.1).symm
      have e2 : dn i x = dn i f := dn_of (by omega) h2 e
      have hc2 : dn i f ∈ L i := by rw [← e2]; exact hc
      refine good_sub (j := i) ⟨V.blk i h2 _ hc2, fun y a b => (hS y).2 ⟨i, h2, cov_mem hc2 (dn_mod _ _) h2 a b⟩⟩ (by omega) h2
    rcases Classical.em (f ∈ L k) with hin | hin
    · exact hin
    · refine (not_full V k hk f hb.1 fun x a b => ?_).elim
      obtain ⟨i, hi, hc⟩ := (hS x).1 (ha x a b)
      rcases Nat.lt_trichotomy i k with h1 | h1 | h1
      · exact ⟨i, h1, hc⟩
      · subst h1
        unfold cov at hc
        rw [dn_eq hi hb.1 a b] at hc
        exact absurd hc hin
      · exact (up i x a b h1 hi hc).elim
/-- sorted lists with the same members are the same -/
theorem srt_ext : ∀ {l m : Is}, Srt l → Srt m → (∀ f, f ∈ l ↔ f ∈ m) → l = m
  | [], [], _, _, _ => rfl
  | [], b :: m, _, _, h => absurd ((h b).2 (by simp)) (by simp)
  | a :: l, [], _, _, h => absurd ((h a).1 (by simp)) (by simp)
  | a :: l, b :: m, hl, hm, h => by
    have hl' := List.pairwise_cons.1 hl
    have hm' := List.pairwise_cons.1 hm
    have e : a = b := by
      rcases List.mem_cons.1 ((h a).1 (by simp)) with e | e
      · exact e
      · rcases List.mem_cons.1 ((h b).2 (by simp)) with e2 | e2
        · exact e2.symm
        · have := hl'.1 _ e2
          have := hm'.1 _ e
          omega
    subst e
    rw [srt_ext hl'.2 hm'.2 fun f => ?_]
    have := h f
    simp only [List.mem_cons] at this
    constructor
    · intro hf
      rcases this.1 (.inr hf) with e | e
      · have := hl'.1 _ hf; omega
      · exact e
    · intro hf
      rcases this.2 (.inr hf) with e | e
      · have := hm'.1 _ hf; omega
      · exact e
theorem canon_eq {p : Pm} {S : Int → Prop} {L M : Fl} (h : Canon p S L) (h2 : Canon p S M) : ∀ k, k < 5 → L k = M k := fun k hk =>
  srt_ext (h.srt k hk) (h2.srt k hk) fun f => (h.mem k hk f).trans (h2.mem k hk f).symm
theorem vd_eq {p : Pm} {L M : Fl} (h : Vd p L) (h2 : Vd p M) (e : ∀ x, InS L x ↔ InS M x) : ∀ k, k < 5 → L k = M k :=
  canon_eq (canon_of_vd h (S := InS M) fun x => (e x).symm) (canon_of_vd h2 fun x => Iff.rfl)
-- CHANGES
def upd (L : Fl) (k : Nat) (l : Is) : Fl := fun j => if j = k then l else L j
theorem upd_at {L : Fl} {k : Nat} {l : Is} : upd L k l k = l := by unfold upd; rw [if_pos rfl]
theorem upd_ne {L : Fl} {k j : Nat} {l : Is} (h : j ≠ k) : upd L k l j = L j := by unfold upd; rw [if_neg h]
theorem upd_mem {L : Fl} {k j : Nat} {l : Is} {f : Int} : f ∈ upd L k l j ↔ (j = k ∧ f ∈ l) ∨ (j ≠ k ∧ f ∈ L j) := by
  by_cases e : j = k
  · subst e; rw [upd_at]; simp
  · rw [upd_ne e]; simp [e]
/-- a block is taken out -/
theorem vd_out {p : Pm} {L : Fl} (V : Vd p L) {k : Nat} {f : Int} (hk : k < 5) {l : Is} (hs : Srt l) (hl : ∀ g, g ∈ l ↔ g ∈ L k ∧ g ≠ f) : Vd p (upd L k l) ∧ ∀ x, InS (upd L k l) x ↔ InS L x ∧ ¬ (f ∈ L k ∧ dn k x = f) := by
  have sub : ∀ j g, g ∈ upd L k l j → g ∈ L j := fun j g h => by
    rcases upd_mem.1 h with ⟨e, h⟩ | ⟨_, h⟩
    · rw [e]; exact ((hl g).1 h).1
    · exact h
  refine ⟨⟨⟨fun j hj => ?_, fun j hj g hg => V.blk j hj g (sub j g hg)⟩, fun x i j hi hj a b => V.dis x i j hi hj (sub _ _ a) (sub _ _ b), fun j hj g hg hb => V.nob j hj g (sub _ _ hg) (sub _ _ hb)⟩, fun x => ⟨?_, ?_⟩⟩
  · by_cases e : j = k
    · subst e; rw [upd_at]; exact hs
    · rw [upd_ne e]; exact V.srt j hj
  · rintro ⟨j, hj, hc⟩
    refine ⟨⟨j, hj, sub _ _ hc⟩, fun ⟨hf, e⟩ => ?_⟩
    have := V.dis x j k hj hk (sub _ _ hc) (by unfold cov; rw [e]; exact hf)
    subst this
    unfold cov at hc
    rw [upd_at, hl] at hc
    exact hc.2 e
  · rintro ⟨⟨j, hj, hc⟩, hn⟩
    refine ⟨j, hj, ?_⟩
    unfold cov at hc ⊢
    refine upd_mem.2 ?_
    by_cases e : j = k
    · subst e
      exact .inl ⟨rfl, (hl _).2 ⟨hc, fun e => hn ⟨by rw [← e]; exact hc, e⟩⟩⟩
    · exact .inr ⟨e, hc⟩
/-- a block is put in of which no frame is there, and not its buddy -/
theorem vd_in {p : Pm} {L : Fl} (V : Vd p L) {k : Nat} {f : Int} (hk : k < 5) {l : Is} (hs : Srt l) (hl : ∀ g, g ∈ l ↔ g ∈ L k ∨ g = f) (hb : blk p k f) (hd : ∀ x, dn k x = f → ¬ InS L x) (hn : k < 4 → bud k f ∉ L k) :
    Vd p (upd L k l) ∧ ∀ x, InS (upd L k l) x ↔ InS L x ∨ dn k x = f := by
  have sub : ∀ j g, g ∈ upd L k l j ↔ g ∈ L j ∨ (j = k ∧ g = f) := fun j g => by
    rw [upd_mem]
    by_cases e : j = k
    · subst e; simp [hl]
    · simp [e]
  refine ⟨⟨⟨fun j hj => ?_, fun j hj g hg => ?_⟩, fun x i j hi hj a b => ?_, fun j hj g hg hb' => ?_⟩, fun x => ⟨?_, ?_⟩⟩
  · by_cases e : j = k
    · subst e; rw [upd_at]; exact hs
    · rw [upd_ne e]; exact V.srt j hj
  · rcases (sub j g).1 hg with h | ⟨rfl, rfl⟩
    · exact V.blk j hj g h
    · exact hb
  · unfold cov at a b
    rcases (sub _ _).1 a with h | ⟨rfl, h⟩
    · rcases (sub _ _).1 b with h2 | ⟨rfl, h2⟩
      · exact V.dis x i j hi hj h h2
      · exact absurd ⟨i, hi, h⟩ (hd x h2)
    · rcases (sub _ _).1 b with h2 | ⟨rfl, h2⟩
      · exact absurd ⟨j, hj, h2⟩ (hd x h)
      · rfl
  · rcases (sub _ _).1 hg with h | ⟨rfl, rfl⟩
    · rcases (sub _ _).1 hb' with h2 | ⟨rfl, h2⟩
      · exact V.nob j hj g h h2
      · have e := bud_bud hj (V.blk j hk g h).1
        rw [h2] at e
        exact hn hj (by rw [e]; exact h)
    · rcases (sub _ _).1 hb' with h2 | ⟨_, h2⟩
      · exact hn hj h2
      · exact bud_ne _ h2
  · rintro ⟨j, hj, hc⟩
    rcases (sub _ _).1 hc with h | ⟨rfl, h⟩
    · exact .inl ⟨j, hj, h⟩
    · exact .inr h
  · rintro (⟨j, hj, hc⟩ | h)
    · exact ⟨j, hj, (sub _ _).2 (.inl hc)⟩
    · exact ⟨k, hk, (sub _ _).2 (.inr ⟨rfl, h⟩)⟩
end Go.Proofs.Ytiopfeleaifpbaa.Bd
