import Derived.Test.YtiopfeleaifpbabRow
namespace Go.Proofs.Ytiopfeleaifpbab.Bd
open Go Go.RowKit
set_option linter.unusedVariables false
theorem wp64 {k : Nat} (hk : k < 5) : IntKind.i64.wrap (1 * 2 ^ k) = bw k := by
  rcases cases5 hk with rfl | rfl | rfl | rfl | rfl <;> decide
theorem first_any (f : Int) (k : Nat) (hk : k < 5) (hf : i64r f) (w : World) : Calls Try.prog 47 #[.int .i64 f, .int .i64 k] w fun e w' => e = .returned (.int .i64 (dn k f)) ∧ w = w' := by
  have e := andNot_dn hk f hf
  generalize hd : dn k f = d at e ⊢
  clear hd
  rcases cases5 hk with rfl | rfl | rfl | rfl | rfl
  all_goals
    simp only [bw] at e
    go_enter Try.func47, Try.ntmps47
    go_wp2
    go_ret
    exact ⟨ret_int (by simpa using e), rfl⟩
instance (p : Pm) : Decidable (par p) := by unfold par; infer_instance
instance (p : Pm) (k : Nat) (f : Int) : Decidable (blk p k f) := by unfold blk; infer_instance
set_option maxHeartbeats 2000000 in
theorem params_any (p : Pm) (v : Nat → Value) (hp : Pr p) (w : World) : Calls Try.prog 37 #[.agg (znC p v)] w fun e w' => e = .returned (.bool (decide (par p))) ∧ Below w.heap.size w w' := by
  have X := hide (Box.new w 44 (znC p v))
  have K := hide (bal (brefl w) (.cells (znC p v) 44))
  obtain ⟨x0, x1, x2, x3, x4⟩ := box_zone X.out
  obtain ⟨b, hb⟩ : ∃ b, b = decide (par p) := ⟨_, rfl⟩
  rw [← hb]
  have HB := hide hb
  clear hb
  obtain ⟨a0, a1, a2, a3, a4⟩ := p
  obtain ⟨⟨h0, h0'⟩, ⟨h1, h1'⟩, ⟨h2, h2'⟩, ⟨h3, h3'⟩, ⟨h4, h4'⟩⟩ := hp
  simp only at *
  go_enter Try.func37, Try.ntmps37
  go_upto_region 1 with fail
  generalize (w.alloc (.cells (znC ⟨a0, a1, a2, a3, a4⟩ v) 44)) = w2 at *
  go_wp2
  all_goals
    go_ret
    first
      | exact ⟨ret_bool (by rw [HB.out]; exact (decide_eq_true (show par ⟨a0, a1, a2, a3, a4⟩ by unfold par; simp only; omega)).symm), K.out⟩
      | exact ⟨ret_bool (by rw [HB.out]; exact (decide_eq_false (show ¬ par ⟨a0, a1, a2, a3, a4⟩ by unfold par; simp only; omega)).symm), K.out⟩
      | exact ⟨ret_bool (by rw [HB.out]; exact decide_eq_decide.2 (by unfold par; simp only; omega)), K.out⟩
theorem bwr (k : Nat) : i64r (bw k) := by have := bw_pos k; have := bw_le k; unfold i64r; omega
set_option maxHeartbeats 2000000 in
theorem block_any (p : Pm) (v : Nat → Value) (f : Int) (k : Nat) (hk : k < 5) (hf : i64r f) (hp : par p) (w : World) : Calls Try.prog 45 #[.agg (znC p v), .int .i64 f, .int .i64 k] w fun e w' => e = .returned (.bool (decide (blk p k f))) ∧ Below w.heap.size w w' := by
  have X := hide (Box.new w 44 (znC p v))
  have K := hide (bal (brefl w) (.cells (znC p v) 44))
  obtain ⟨x0, x1, x2, x3, x4⟩ := box_zone X.out
  have G := hide (fun w => first_any f k hk hf w)
  obtain ⟨b, hb⟩ : ∃ b, b = decide (blk p k f) := ⟨_, rfl⟩
  rw [← hb]
  have HB := hide hb
  have sh := wp64 hk
  have bp := bw_pos k
  have bl := bw_le k
  have dm : (dn k f = f ↔ f % bw k = 0) := by unfold dn; omega
  have hx : ((if 64 ≤ k then (0 : Int) else 1 * 2 ^ k) = bw k) := by rw [if_neg (by omega)]; rcases cases5 hk with rfl | rfl | rfl | rfl | rfl <;> rfl
  clear hb
  obtain ⟨h1, h2⟩ := hf
  unfold par at hp
  generalize hd : dn k f = d at *
  have HD := hide hd
  obtain ⟨a0, a1, a2, a3, a4⟩ := p
  simp only at *
  clear hd
  go_enter Try.func45, Try.ntmps45
  go_upto_region 1 with fail
  generalize (w.alloc (.cells (znC ⟨a0, a1, a2, a3, a4⟩ v) 44)) = w2 at *
  by_cases c1 : f = d
  · subst c1
    by_cases c2 : a2 ≤ f
    · go_quiet ((go_at_call 47; exact quiet_left (G.out _)))
      go_wp2
      go_ret
      refine ⟨ret_bool ?_, below_drewN K.out _⟩
      rw [HB.out]
      have h2k : (2 : Int) ^ k = bw k := by rcases cases5 hk with rfl | rfl | rfl | rfl | rfl <;> rfl
      have dm' := dm.1 trivial
      exact decide_eq_decide.2 (by unfold blk; simp only; omega)
    · have c2' : decide (a2 ≤ f) = false := decide_eq_false c2
      go_quiet ((go_at_call 47; exact quiet_left (G.out _)))
      go_wp2
      go_ret
      exact ⟨ret_bool (by rw [HB.out]; exact (decide_eq_false (show ¬ blk ⟨a0, a1, a2, a3, a4⟩ k f by unfold blk; simp only; omega)).symm), below_drewN K.out _⟩
  · have c1' : (f == d) = false := by simpa using c1
    go_quiet ((go_at_call 47; exact quiet_left (G.out _)))
    go_wp2
    go_ret
    exact ⟨ret_bool (by rw [HB.out]; exact (decide_eq_false (show ¬ blk ⟨a0, a1, a2, a3, a4⟩ k f by unfold blk; simp only; omega)).symm), below_drewN K.out _⟩
end Go.Proofs.Ytiopfeleaifpbab.Bd
