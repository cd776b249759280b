import Derived.Test.YtflplldamefhoaaFe
namespace Go.Proofs.Ytflplldamefhoaa.Bd
open Go Go.RowKit
set_option linter.unusedVariables false
/-- how many frames lie in free blocks of the orders below k -/
def cb (L : Fl) : Nat → Int
  | 0 => 0
  | k + 1 => cb L k + (L k).length * bw k
theorem cb_bd {L : Fl} (h : ∀ k, k < 5 → (L k).length ≤ 1000000) : ∀ k, k ≤ 5 → 0 ≤ cb L k ∧ cb L k ≤ k * 16000000
  | 0, _ => by simp [cb]
  | k + 1, hk => by
    have ih := cb_bd h k (by omega)
    have h1 := h k (by omega)
    have h2 := bw_le k
    have h3 := bw_pos k
    have h4 : 0 ≤ ((L k).length : Int) * bw k := Int.mul_nonneg (by omega) (by omega)
    have h5 : ((L k).length : Int) * bw k ≤ 1000000 * 16 := Int.mul_le_mul (by omega) h2 (by omega) (by omega)
    show 0 ≤ cb L k + (L k).length * bw k ∧ cb L k + (L k).length * bw k ≤ ((k + 1 : Nat) : Int) * 16000000
    omega
theorem wrm {k n : Nat} (hk : k < 5) (hn : n ≤ 1000000) : wrap64 ((n : Int) * (2 : Int) ^ k) = (n : Int) * bw k := by
  unfold wrap64
  rcases cases5 hk with rfl | rfl | rfl | rfl | rfl <;> simp only [bw, Int.reducePow] <;> omega
set_option maxRecDepth 100000 in
set_option maxHeartbeats 8000000 in
theorem below_any (p : Pm) (v : Nat → Value) (L : Fl) (o : Nat) (ho : o ≤ 5) (w : World) (hz : ZIn w p v L) : Calls Try.prog 57 #[.agg (znC p v), .int .i64 o] w fun e w' => e = .returned (.int .i64 (cb L o)) ∧ Below w.heap.size w w' := by
  have X := hide (Box.new w 25 (znC p v))
  have K0 := hide (bal (brefl w) (.cells (znC p v) 25))
  have HZ := hide hz
  obtain ⟨res, hres⟩ : ∃ r, r = cb L o := ⟨_, rfl⟩
  rw [← hres]
  have HRes := hide hres
  clear hres hz
  obtain ⟨g, hg⟩ : ∃ g, g = w.heap.size := ⟨_, rfl⟩
  obtain ⟨W0, hW0⟩ : ∃ W0, W0 = (w.alloc (.cells (znC p v) 25)) := ⟨_, rfl⟩
  rw [← hg, ← hW0] at X
  rw [← hW0] at K0
  have ho5 : (o : Int) ≤ 5 := by omega
  go_enter Try.func57, Try.ntmps57
  go_upto_region 1 with fail
  rw [← hg, ← hW0]
  clear hg hW0
  go_wp2
  go_loopw [5, 12] (fun a b wr => ∃ k : Nat, k ≤ o ∧ a = .int .i64 (cb L k) ∧ b = .int .i64 k ∧ wr = W0) (fun _ b _ => o - (intOf b).toNat)
  case atStart => exact ⟨0, Nat.zero_le _, rfl, rfl, rfl⟩
  case round =>
    obtain ⟨k, hk, rfl, rfl, rfl⟩ := hrel
    by_cases hlt : k < o
    · have h5 : k < 5 := by omega
      have s0 := box_list X.out h5
      obtain ⟨A, c, ev, hcap, r⟩ := HZ.out.rd k h5
      rw [ev] at s0
      have hl := HZ.out.len k h5
      have hm := wrm h5 hl
      have b1 := cb_bd HZ.out.len k (by omega)
      have b2 := cb_bd HZ.out.len (k + 1) (by omega)
      have e2 : cb L (k + 1) = cb L k + (L k).length * bw k := rfl
      rw [e2] at b2
      have EC := hide e2
      clear ev r hcap e2
      generalize cb L k = q at *
      generalize (L k).length = n at *
      generalize hnb : (n : Int) * bw k = nb at *
      have hr : -9223372036854775808 ≤ q + nb ∧ q + nb ≤ 9223372036854775807 := by omega
      clear hnb
      go_wp2
      go_roundw
      case rel => exact ⟨k + 1, by omega, by rw [EC.out], by go_num, by first | rfl | trivial⟩
      case measure => simp [intOf]; omega
    · obtain rfl : k = o := by omega
      go_wp2
      go_ret
      exact ⟨ret_int HRes.out.symm, K0.out⟩
end Go.Proofs.Ytflplldamefhoaa.Bd
