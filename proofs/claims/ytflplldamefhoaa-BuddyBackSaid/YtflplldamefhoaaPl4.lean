import Derived.Test.YtflplldamefhoaaPl3
import Derived.Test.YtflplldamefhoaaMath7
import Derived.Test.YtflplldamefhoaaMath6
namespace Go.Proofs.Ytflplldamefhoaa.Bd
open Go Go.RowKit
set_option linter.unusedVariables false
theorem in_bd {p : Pm} {L : Fl} (hp : par p) (V : Vd p L) {x : Int} (h : InS L x) : 0 ≤ x ∧ x < 256 := by
  obtain ⟨k, hk, hc⟩ := h
  exact cov_bd hp V.toLst hk hc
theorem in_zone {p : Pm} {L : Fl} (V : Vd p L) {x : Int} (h : InS L x) : p.st ≤ x ∧ x < p.st + p.ct := by
  obtain ⟨k, hk, hc⟩ := h
  have h1 := V.toLst.blk k hk _ hc
  have h2 := dn_le k x
  have h3 := dn_lt k x
  unfold blk at h1
  omega
theorem frs_vd {p : Pm} {L : Fl} (hp : par p) (V : Vd p L) : frs p L = fr L 256 := by
  unfold frs
  rw [if_pos (chk_zero.2 ⟨hp, V⟩)]
theorem mem_fr {p : Pm} {L : Fl} (hp : par p) (V : Vd p L) {x : Int} : x ∈ fr L 256 ↔ InS L x := by
  rw [fr_mem]
  constructor
  · rintro ⟨m, hm, rfl, h⟩
    exact cn_in.1 h
  · intro h
    have hb := in_bd hp V h
    obtain ⟨m, rfl⟩ : ∃ m : Nat, x = m := ⟨x.toNat, by omega⟩
    exact ⟨m, by omega, rfl, cn_in.2 h⟩
theorem scn_fr {p : Pm} {fs : Is} (hb : ∀ f ∈ fs, blk p 0 f) (hs : Srt fs) : ∀ m, m ≤ fs.length → scn p fs m = 0
  | 0, _ => rfl
  | m + 1, h => scn_ok (scn_fr hb hs m (by omega)) (hb _ (getD_mem h)) (fun h0 => srt_at hs (by omega) h)
theorem bd_fr {p : Pm} {L : Fl} (hp : par p) (V : Vd p L) : bdE p (fr L 256) = 0 := by
  unfold bdE
  rw [if_pos hp]
  exact scn_fr (fun f hf => blk0.2 (in_zone V ((mem_fr hp V).1 hf))) (fr_srt L 256) _ (Nat.le_refl _)
theorem fst_fr {p : Pm} {L : Fl} (hp : par p) (V : Vd p L) (x : Int) : Fst (fr L 256) (fr L 256).length x ↔ InS L x := by
  rw [← mem_fr hp V]
  constructor
  · rintro ⟨j, hj, rfl⟩; exact getD_mem hj
  · intro h; obtain ⟨i, hi, e⟩ := mem_getD h; exact ⟨i, hi, e⟩
theorem fr_64 {p : Pm} {L : Fl} (hp : par p) (V : Vd p L) : ∀ f ∈ fr L 256, i64r f := fun f hf => by
  have := in_bd hp V ((mem_fr hp V).1 hf)
  unfold i64r; omega
/-- a block that can be taken: an aligned block of free frames -/
theorem serve {p : Pm} {L : Fl} (hp : par p) (V : Vd p L) {k : Nat} (hk : k < 5) : alE p L k = 0 ↔ ∃ f : Int, f % bw k = 0 ∧ ∀ x, dn k x = f → InS L x := by
  constructor
  · intro h
    rcases al_two hp V hk with h1 | ⟨_, hb, hi⟩
    · omega
    · exact ⟨_, hb.1, hi⟩
  · rintro ⟨f, hm, hi⟩
    have e : alE p L k = if alK L k = 5 then 16 else 0 := by
      unfold alE
      rw [if_neg (fun x => x (chk_zero.2 ⟨hp, V⟩)), if_neg (fun x => x (by omega)), Int.toNat_natCast]
    rw [e]
    rcases alK_spec L k with h5 | ⟨h1, h2, h3⟩
    · exfalso
      have hn : ∀ j, k ≤ j → j < 5 → L j = [] := by
        intro j hj hj5
        rcases Decidable.em (L j = []) with h0 | h0
        · exact h0
        · exfalso
          unfold alK at h5
          have c5 := cases5 hj5
          rcases c5 with rfl | rfl | rfl | rfl | rfl
          · rw [if_pos ⟨hj, h0⟩] at h5; omega
          · split at h5
            · omega
            · rw [if_pos ⟨hj, h0⟩] at h5; omega
          · split at h5
            · omega
            · split at h5
              · omega
              · rw [if_pos ⟨hj, h0⟩] at h5; omega
          · split at h5
            · omega
            · split at h5
              · omega
              · split at h5
                · omega
                · rw [if_pos ⟨hj, h0⟩] at h5; omega
          · split at h5
            · omega
            · split at h5
              · omega
              · split at h5
                · omega
                · split at h5
                  · omega
                  · rw [if_pos ⟨hj, h0⟩] at h5; omega
      refine not_full V k hk f hm (fun x hx1 hx2 => ?_)
      obtain ⟨i, hi5, hc⟩ := hi x (dn_eq hk hm hx1 hx2)
      refine ⟨i, ?_, hc⟩
      rcases Nat.lt_or_ge i k with h | h
      · exact h
      · have := hn i h hi5
        unfold cov at hc
        rw [this] at hc
        cases hc
    · rw [if_neg (by omega)]
instance (L : Fl) (x : Int) : Decidable (InS L x) := decidable_of_iff (0 ≤ oof L x) oof_in
theorem isf_vd {p : Pm} {L : Fl} (hp : par p) (V : Vd p L) {x : Int} : isF p L x = decide (InS L x) := by
  unfold isF
  by_cases h : InS L x
  · rw [decide_eq_true h, decide_eq_true ⟨chk_zero.2 ⟨hp, V⟩, oof_in.2 h⟩]
  · rw [decide_eq_false h, decide_eq_false (fun e => h (oof_in.1 e.2))]
theorem fr_step {L : Fl} {f g : Int} {fr : Bool} (h : fr = true ↔ ∀ y, f ≤ y → y < g → InS L y) (hg : f ≤ g) : (fr && decide (InS L g)) = true ↔ ∀ y, f ≤ y → y < g + 1 → InS L y := by
  rw [Bool.and_eq_true, h, decide_eq_true_eq]
  constructor
  · rintro ⟨h1, h2⟩ y hy hy2
    by_cases e : y = g
    · rw [e]; exact h2
    · exact h1 y hy (by omega)
  · intro h1
    exact ⟨fun y hy hy2 => h1 y hy (by omega), h1 g hg (by omega)⟩
theorem some_step {L : Fl} {f W : Int} {sm fr : Bool} (h : sm = true ↔ ∃ j : Int, 0 ≤ j ∧ j < f ∧ j % W = 0 ∧ ∀ y, j ≤ y → y < j + W → InS L y) (hf : fr = true ↔ ∀ y, f ≤ y → y < f + W → InS L y) (hm : f % W = 0) (hW : 0 < W) (h0 : 0 ≤ f) :
    (sm || fr) = true ↔ ∃ j : Int, 0 ≤ j ∧ j < f + W ∧ j % W = 0 ∧ ∀ y, j ≤ y → y < j + W → InS L y := by
  rw [Bool.or_eq_true, h, hf]
  constructor
  · rintro (⟨j, h1, h2, h3⟩ | h1)
    · exact ⟨j, h1, by omega, h3⟩
    · exact ⟨f, h0, by omega, hm, h1⟩
  · rintro ⟨j, h1, h2, h3, h4⟩
    by_cases e : j < f
    · exact .inl ⟨j, h1, e, h3, h4⟩
    · right
      have hd : (j - f) % W = 0 := by rw [Int.sub_emod, h3, hm]; simp
      have he : j = f := by
        have h5 : 0 ≤ j - f := by omega
        have h6 : j - f < W := by omega
        rw [Int.emod_eq_of_lt h5 h6] at hd
        omega
      rw [← he]; exact h4
theorem step_end {k : Nat} (hk : k < 5) {f : Int} (h : f % bw k = 0) (h0 : 0 ≤ f) (h1 : f ≤ 80) : ¬ f + bw k ≤ 80 → f = 80 := by
  rcases cases5 hk with rfl | rfl | rfl | rfl | rfl <;> simp only [bw] at * <;> omega
theorem serve_step {q : Pm} {L : Fl} {k : Nat} (hk : k < 5) (hp : par q) (V : Vd q L) (h79 : q.st + q.ct ≤ 80) (f : Int) (hf : f = 80) (sm : Bool) (h : sm = true ↔ ∃ j : Int, 0 ≤ j ∧ j < f ∧ j % bw k = 0 ∧ ∀ y, j ≤ y → y < j + bw k → InS L y) : sm = true ↔ alE q L k = 0 := by
  rw [h, serve hp V hk]
  constructor
  · rintro ⟨j, h1, h2, h3, h4⟩
    exact ⟨j, h3, fun x hx => h4 x (by have := dn_le k x; omega) (by have := dn_lt k x; omega)⟩
  · rintro ⟨j, h3, h4⟩
    have hb := bw_pos k
    have h5 := in_zone V (h4 j (dn_self h3))
    have h6 := in_bd hp V (h4 j (dn_self h3))
    exact ⟨j, h6.1, by omega, h3, fun y hy1 hy2 => h4 y (dn_eq hk h3 hy1 hy2)⟩
theorem pS_79 (s c : Int) : (pS s c).st + (pS s c).ct ≤ 80 := by
  show s % 16 + (1 + c % 64) ≤ 80
  omega
end Go.Proofs.Ytflplldamefhoaa.Bd
