import Derived.Test.YtiopfeleaifpbabFn2
namespace Go.Proofs.Ytiopfeleaifpbab.Bd
open Go
set_option linter.unusedVariables false
theorem len_srt : ∀ {l : Is} {a b : Int}, Srt l → (∀ x ∈ l, a ≤ x ∧ x < b) → (l.length : Int) ≤ b - a ∨ l = []
  | [], _, _, _, _ => .inr rfl
  | c :: l, a, b, hs, h => by
    have hs' := List.pairwise_cons.1 hs
    have hc := h c (by simp)
    left
    rcases len_srt (a := c + 1) (b := b) hs'.2 (fun x hx => ⟨by have := hs'.1 x hx; omega, (h x (by simp [hx])).2⟩) with h1 | h1
    · simp only [List.length_cons]; omega
    · subst h1; simp; omega
theorem blk_bd {p : Pm} (hp : par p) {k : Nat} {f : Int} (h : blk p k f) : 0 ≤ f ∧ f + bw k ≤ 256 := by
  unfold par at hp; unfold blk at h; omega
theorem lst_len {p : Pm} {L : Fl} (hp : par p) (h : Lst p L) {k : Nat} (hk : k < 5) : (L k).length ≤ 256 := by
  rcases len_srt (a := 0) (b := 256) (h.srt k hk) (fun x hx => by have := blk_bd hp (h.blk k hk x hx); have := bw_pos k; omega) with h1 | h1
  · omega
  · rw [h1]; simp
theorem blk_sub {p : Pm} {i j : Nat} {x : Int} (h : blk p j (dn j x)) (hij : i ≤ j) (hj : j < 5) : blk p i (dn i x) := by
  obtain ⟨h1, h2, h3⟩ := h
  have d := dn_in hij hj x
  exact ⟨dn_mod _ _, by omega, by omega⟩
/-- two halves make a block -/
theorem blk_up {p : Pm} {k : Nat} {f : Int} (hk : k < 4) (h : blk p k f) (h2 : blk p k (bud k f)) : blk p (k + 1) (dn (k + 1) f) := by
  obtain ⟨a1, a2, a3⟩ := h
  obtain ⟨b1, b2, b3⟩ := h2
  refine ⟨dn_mod _ _, ?_⟩
  unfold bud at *
  unfold dn
  rcases cases4 hk with rfl | rfl | rfl | rfl <;> simp only [bw] at * <;> split at b2 <;> simp_all <;> omega
theorem cov_self {L : Fl} {k : Nat} {f : Int} (h : f ∈ L k) (hm : f % bw k = 0) : cov L k f := by unfold cov; rw [dn_self hm]; exact h
theorem up_iff {k : Nat} (hk : k < 4) {f : Int} (hm : f % bw k = 0) (x : Int) : dn (k + 1) x = dn (k + 1) f ↔ dn k x = f ∨ dn k x = bud k f := by
  constructor
  · exact bud_or hk hm
  · rintro (h | h)
    · have := dn_of (i := k) (j := k + 1) (by omega) (by omega) (x := x) (y := f) (by rw [h, dn_self hm]); exact this
    · have := dn_of (i := k) (j := k + 1) (by omega) (by omega) (x := x) (y := bud k f) (by rw [h, dn_self (bud_mod hk hm)])
      rw [this, bud_up hk hm]
theorem join_step {p : Pm} {L : Fl} (V : Vd p L) {k : Nat} {f : Int} (hk : k < 4) (hb : blk p k f) (hd : ∀ x, dn k x = f → ¬ InS L x) (hm : bud k f ∈ L k) :
    Vd p (upd L k ((L k).filter (· ≠ bud k f))) ∧ blk p (k + 1) (dn (k + 1) f) ∧ (∀ x, dn (k + 1) x = dn (k + 1) f → ¬ InS (upd L k ((L k).filter (· ≠ bud k f))) x) ∧
      ∀ x, (InS (upd L k ((L k).filter (· ≠ bud k f))) x ∨ dn (k + 1) x = dn (k + 1) f) ↔ (InS L x ∨ dn k x = f) := by
  obtain ⟨V2, hS⟩ := vd_out V (by omega : k < 5) (f := bud k f) (fil_srt (V.srt k (by omega)) _) (fun g => fil_mem)
  refine ⟨V2, blk_up hk hb (V.blk k (by omega) _ hm), fun x hx => ?_, fun x => ?_⟩
  · rw [hS]
    rintro ⟨h1, h2⟩
    rcases (up_iff hk hb.1 x).1 hx with h | h
    · exact hd x h h1
    · exact h2 ⟨hm, h⟩
  · rw [hS, up_iff hk hb.1]
    constructor
    · rintro (⟨h1, _⟩ | h | h)
      · exact .inl h1
      · exact .inr h
      · exact .inl ⟨k, by omega, by unfold cov; rw [h]; exact hm⟩
    · rintro (h | h)
      · by_cases e : dn k x = bud k f
        · exact .inr (.inr e)
        · exact .inl ⟨h, fun ⟨_, e2⟩ => e e2⟩
      · exact .inr (.inl h)
theorem join_end {p : Pm} {L : Fl} (V : Vd p L) {k : Nat} {f : Int} (hk : k < 5) (hb : blk p k f) (hd : ∀ x, dn k x = f → ¬ InS L x) (hm : k < 4 → bud k f ∉ L k) :
    Vd p (upd L k (ins (L k) f)) ∧ ∀ x, InS (upd L k (ins (L k) f)) x ↔ InS L x ∨ dn k x = f := by
  have hf : f ∉ L k := fun h => hd f (dn_self hb.1) ⟨k, hk, cov_self h hb.1⟩
  exact vd_in V hk (ins_srt (V.srt k hk) hf) (fun g => ins_mem) hb hd hm
/-- the part that is left when the part with a frame is halved again -/
theorem wo_step {p : Pm} {L M : Fl} (V : Vd p M) {k fr : Nat} {x0 : Int} (hk : k < 4) (hfr : fr < 5) (hkf : k < fr) (hL : dn fr x0 ∈ L fr) (hb : blk p fr (dn fr x0)) (hM : ∀ x, InS M x ↔ InS L x ∧ dn (k + 1) x ≠ dn (k + 1) x0) :
    Vd p (upd M k (ins (M k) (bud k (dn k x0)))) ∧ ∀ x, InS (upd M k (ins (M k) (bud k (dn k x0)))) x ↔ InS L x ∧ dn k x ≠ dn k x0 := by
  have m0 := dn_mod k x0
  have mb := bud_mod hk m0
  have ub := bud_up hk m0
  have e0 : dn (k + 1) (dn k x0) = dn (k + 1) x0 := dn_dn (by omega) (by omega) x0
  have dsj : ∀ x, dn k x = bud k (dn k x0) → dn (k + 1) x = dn (k + 1) x0 := fun x h => by rw [← e0]; exact (up_iff hk m0 x).2 (.inr h)
  have b1 : blk p (k + 1) (dn (k + 1) x0) := blk_sub hb (by omega) hfr
  have bb : blk p k (bud k (dn k x0)) := by
    have h := blk_sub (p := p) (i := k) (j := k + 1) (x := bud k (dn k x0)) (by rw [ub, e0]; exact b1) (by omega) (by omega)
    rwa [dn_self mb] at h
  obtain ⟨V2, hS⟩ := join_end V (by omega : k < 5) bb (fun x hx hI => ((hM x).1 hI).2 (dsj x hx)) (fun h4 hin => by
    rw [bud_bud hk m0] at hin
    have : InS M x0 := ⟨k, by omega, hin⟩
    exact ((hM x0).1 this).2 rfl)
  refine ⟨V2, fun x => ?_⟩
  rw [hS, hM]
  constructor
  · rintro (⟨h1, h2⟩ | h)
    · exact ⟨h1, fun e => h2 (dn_of (by omega) (by omega) e)⟩
    · have e1 := dsj x h
      have e2 : dn fr x = dn fr x0 := dn_of (i := k + 1) (by omega) hfr e1
      exact ⟨⟨fr, hfr, by unfold cov; rw [e2]; exact hL⟩, by rw [h]; exact bud_ne _⟩
  · rintro ⟨h1, h2⟩
    by_cases e : dn (k + 1) x = dn (k + 1) x0
    · rw [← e0] at e
      rcases (up_iff hk m0 x).1 e with h | h
      · exact absurd h h2
      · exact .inr h
    · exact .inl ⟨h1, e⟩
end Go.Proofs.Ytiopfeleaifpbab.Bd
