import Derived.Test.YtkcopcmoaloecaaT11
namespace Go.Proofs.Ytkcopcmoaloecaa.Fp
open Go Go.RowKit
set_option linter.unusedVariables false
set_option linter.unusedSimpArgs false
/-- where the first rule is: what IndexFunc answers -/
theorem idx_any (mi : Int) (c : Fc) (g gc : Nat) (w : World) (hR : Box w g 38 (ruC mi)) (hX : CB w gc c) : Calls Try.prog 22 #[.slice (some ⟨g, 0, none⟩) 16 16, .func (.func 23) #[] #[.pointer (some ⟨gc, 0, none⟩)]] w fun e w' => e = .returned (.int .i64 (ix c : Int)) ∧ Below w.heap.size w w' := by
  have HR := hide hR
  have HX := hide hX
  have K := hide (brefl w)
  clear hR hX
  have HI := hide (ix_is c)
  have HL := hide (ix_le c)
  have HNO := hide (fun j (h : j < ix c) => ix_no (c := c) h)
  generalize ix c = n at *
  go_enter Try.func22, Try.ntmps22
  go_wp2
  go_loopw [5, 8] (fun _ v wr => ∃ k : Nat, k ≤ n ∧ v = .int .i64 k ∧ Hid (Below w.heap.size w wr)) (fun _ v _ => 16 - (intOf v).toNat)
  case atStart => exact ⟨0, Nat.zero_le _, rfl, K⟩
  case round =>
    clear K
    obtain ⟨k, hk, rfl, K⟩ := hrel
    have hk16 : k < 16 := by have := HL.out; omega
    have hl2 : (k : Int) < 16 := by omega
    have hk0 : (0 : Int) ≤ (k : Int) := by omega
    obtain ⟨y0, y1, y2, y3, y4, y5⟩ := rules_cells (HR.out.below K.out) hk16
    have HN := hide (show k < n → rl k c = false from fun h => HNO.out k h)
    have HE := hide (show k = n → rl k c = true from fun h => h ▸ HI.out)
    have C := fun p => app_any hk16 c p gc wr (HX.out.below K.out)
    generalize fn k = f at *
    generalize rp k mi = p at *
    replace C := C p
    by_cases hkn : k = n
    · rw [HE.out hkn] at C
      subst hkn
      clear HN HE
      replace C := hide C
      go_wp2_with fail
      refine C.out.mono ?_
      rintro e w2 ⟨rfl, hb⟩
      replace K := hide (btrans K.out hb)
      clear hb y0 y1 y2 y3 y4 y5
      go_wp2
      go_ret
      exact ⟨rfl, K.out⟩
    · have hlt : k < n := by omega
      rw [HN.out hlt] at C
      clear HN HE hkn
      have HK := hide hlt
      clear hlt
      replace C := hide C
      go_wp2_with fail
      refine C.out.mono ?_
      rintro e w2 ⟨rfl, hb⟩
      replace K := hide (btrans K.out hb)
      clear hb y0 y1 y2 y3 y4 y5
      go_wp2_with fail
      go_roundw
      case rel => exact ⟨k + 1, HK.out, by go_num, K⟩
      case measure => simp [intOf]; omega
end Go.Proofs.Ytkcopcmoaloecaa.Fp
