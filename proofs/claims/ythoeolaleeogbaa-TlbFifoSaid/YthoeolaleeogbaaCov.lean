import Derived.Test.YthoeolaleeogbaaMem7
namespace Go.Proofs.Ythoeolaleeogbaa.Tb
open Go Go.RowKit Go.Proofs.Ythoeolaleeogbaa.Pt
set_option linter.unusedVariables false
def inP (p : Int) : Prop := -9223372036854775808 ≤ p ∧ p ≤ 9223372036854775807
def inW (W : Int) : Prop := 0 ≤ W ∧ W < 18446744073709551616
theorem andNot7 (p : Int) (h : inP p) : bits .andNot .i64 p 7 = p - p % 8 := by
  unfold inP at h
  show IntKind.i64.wrap ((BitVec.ofInt 64 p &&& ~~~BitVec.ofInt 64 7).toNat : Int) = _
  have h7 : (~~~BitVec.ofInt 64 7).toNat = 18446744073709551608 := by decide
  rw [BitVec.toNat_and, h7, nat_hi64_3, BitVec.toNat_ofInt, IntKind.wrap_i64]
  omega
theorem hg_good {W : Int} (h : good W = true) : hg W = f6 W := by unfold hg; rw [h]; rfl
theorem hg_bad {W : Int} (h : good W = false) : hg W = false := by unfold hg; rw [h]; rfl
theorem fp_any (p W : Int) (w : World) (hp : inP p) (hW : inW W) :
    Calls Try.prog 40 #[.int .i64 p, .int .u64 W] w fun e w' => e = .returned (.int .i64 (fp W p)) ∧ Below w.heap.size w w' := by
  have hx := andNot7 p hp
  unfold fp
  cases hG : good W
  · rw [hg_bad hG]
    have D := hide (fun w => dec_bad W w hW.1 hW.2 hG)
    clear hG hp hW
    go_enter Try.func40, Try.ntmps40
    go_wp2_with fail
    refine (D.out _).mono ?_
    rintro e w1 ⟨rfl, hb1⟩
    have K := hide hb1
    clear hb1
    go_wp2
    go_ret
    exact ⟨ret_int (by simp), bal K.out _⟩
  · rw [hg_good hG]
    have D := hide (fun w => dec_good W w hW.1 hW.2 hG)
    clear hG hp hW
    cases hf : f6 W
    · rw [hf] at D
      clear hf
      go_enter Try.func40, Try.ntmps40
      go_wp2_with fail
      refine (D.out _).mono ?_
      rintro e w1 ⟨rfl, hb1⟩
      have K := hide hb1
      clear hb1
      go_wp2
      go_ret
      exact ⟨ret_int (by simp), bal K.out _⟩
    · rw [hf] at D
      clear hf
      go_enter Try.func40, Try.ntmps40
      go_wp2_with fail
      refine (D.out _).mono ?_
      rintro e w1 ⟨rfl, hb1⟩
      have K := hide hb1
      clear hb1
      go_wp2
      go_ret
      exact ⟨ret_int (by simp), bal K.out _⟩
theorem isTr_any (W : Int) (w : World) (hW : inW W) :
    Calls Try.prog 39 #[.int .u64 W] w fun e w' => e = .returned (.bool (isTr W)) ∧ Below w.heap.size w w' := by
  unfold isTr
  cases hG : good W
  · have D := hide (fun w => dec_bad W w hW.1 hW.2 hG)
    clear hG hW
    go_enter Try.func39, Try.ntmps39
    go_wp2_with fail
    refine (D.out _).mono ?_
    rintro e w1 ⟨rfl, hb1⟩
    have K := hide hb1
    clear hb1
    go_wp2
    go_ret
    exact ⟨ret_bool (by simp), bal K.out _⟩
  · have D := hide (fun w => dec_good W w hW.1 hW.2 hG)
    clear hG hW
    go_enter Try.func39, Try.ntmps39
    go_wp2_with fail
    refine (D.out _).mono ?_
    rintro e w1 ⟨rfl, hb1⟩
    have K := hide hb1
    clear hb1
    go_wp2
    go_ret
    exact ⟨ret_bool (by simp), bal K.out _⟩
end Go.Proofs.Ythoeolaleeogbaa.Tb
