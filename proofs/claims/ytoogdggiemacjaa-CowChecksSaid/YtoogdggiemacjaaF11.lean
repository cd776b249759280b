import Derived.Test.YtoogdggiemacjaaF10
import Derived.Shelf.Abstract
namespace Go.Proofs.Ytoogdggiemacjaa.Cw
open Go Go.RowKit
set_option linter.unusedVariables false
set_option linter.unusedSimpArgs false
def Enters (g : Nat) : Prop := ∀ args w, (callFunc g args).run Try.prog w = .ok (.enter g args) w
theorem enters39 : Enters 39 := Go.Proofs.enters_of Try.func39 (by kernel_rfl) rfl

set_option maxHeartbeats 4000000 in
theorem idx_hit (A : Option Addr) (L : List Fr) (c k0 : Nat) (w : World) (hr : RdF w A L) (hn : L.length ≤ 1000) (hk0 : k0 < L.length) (hh : (fAt L k0).1 = 0) (hbf : ∀ j, j < k0 → (fAt L j).1 ≠ 0) :
    Calls Try.prog 52 #[.slice A L.length c, .func (.func 39) #[] #[]] w fun e w' => e = .returned (.int .i64 k0) ∧ Below w.heap.size w w' := by
  have HR := hide hr
  have HB := hide hbf
  have K := hide (brefl w)
  have eg := enters39
  unfold Enters at eg
  clear hr hbf
  go_enter Try.func52, Try.ntmps52
  go_wp2
  go_loopw [5, 8] (fun _ i wr => ∃ k : Nat, k ≤ k0 ∧ i = .int .i64 k ∧ Hid (Below w.heap.size w wr)) (fun _ i _ => L.length - (intOf i).toNat)
  case atStart => exact ⟨0, Nat.zero_le _, rfl, K⟩
  case round =>
    clear K
    obtain ⟨k, hk, rfl, K⟩ := hrel
    have hlt : k < L.length := by omega
    have hl2 : (k : Int) < (L.length : Int) := by omega
    have hk0' : (0 : Int) ≤ (k : Int) := by omega
    by_cases e : k = k0
    · subst e
      obtain ⟨b, off, rfl, hbl, c0, c1⟩ := HR.out.cells K.out hlt
      have C := hide (fun w => free_is (fAt L k).1 (fAt L k).2 true (by simpa using hh) w)
      clear hh
      generalize (fAt L k).1 = f at *
      generalize (fAt L k).2 = d at *
      go_wp2_with fail
      refine (C.out _).mono ?_
      rintro e w' ⟨rfl, hb⟩
      replace K := hide (btrans K.out hb)
      clear hb c0 c1
      go_wp2
      go_ret
      exact ⟨rfl, K.out⟩
    · have hk2 : k < k0 := by omega
      clear e
      obtain ⟨b, off, rfl, hbl, c0, c1⟩ := HR.out.cells K.out hlt
      have hbk := HB.out k hk2
      have C := hide (fun w => free_is (fAt L k).1 (fAt L k).2 false (by simpa using hbk) w)
      clear hbk
      generalize (fAt L k).1 = f at *
      generalize (fAt L k).2 = d at *
      go_wp2_with fail
      refine (C.out _).mono ?_
      rintro e w' ⟨rfl, hb⟩
      replace K := hide (btrans K.out hb)
      clear hb c0 c1
      go_wp2
      go_roundw
      case rel => first | exact ⟨k + 1, by omega, by go_num, K⟩ | ((repeat apply Exists.intro); exact ⟨⟨k + 1, by omega, by go_num, K⟩, rfl⟩)
      case measure => simp [intOf]; omega
set_option maxHeartbeats 4000000 in
theorem idx_miss (A : Option Addr) (L : List Fr) (c : Nat) (w : World) (hr : RdF w A L) (hn : L.length ≤ 1000) (hbf : ∀ j, j < L.length → (fAt L j).1 ≠ 0) :
    Calls Try.prog 52 #[.slice A L.length c, .func (.func 39) #[] #[]] w fun e w' => e = .returned (.int .i64 (-1)) ∧ Below w.heap.size w w' := by
  have HR := hide hr
  have HB := hide hbf
  have K := hide (brefl w)
  have eg := enters39
  unfold Enters at eg
  clear hr hbf
  go_enter Try.func52, Try.ntmps52
  go_wp2
  go_loopw [5, 8] (fun _ i wr => ∃ k : Nat, k ≤ L.length ∧ i = .int .i64 k ∧ Hid (Below w.heap.size w wr)) (fun _ i _ => L.length - (intOf i).toNat)
  case atStart => exact ⟨0, Nat.zero_le _, rfl, K⟩
  case round =>
    clear K
    obtain ⟨k, hk, rfl, K⟩ := hrel
    by_cases hlt : k < L.length
    · have hl2 : (k : Int) < (L.length : Int) := by omega
      have hk0' : (0 : Int) ≤ (k : Int) := by omega
      obtain ⟨b, off, rfl, hbl, c0, c1⟩ := HR.out.cells K.out hlt
      have hbk := HB.out k hlt
      have C := hide (fun w => free_is (fAt L k).1 (fAt L k).2 false (by simpa using hbk) w)
      clear hbk
      generalize (fAt L k).1 = f at *
      generalize (fAt L k).2 = d at *
      go_wp2_with fail
      refine (C.out _).mono ?_
      rintro e w' ⟨rfl, hb⟩
      replace K := hide (btrans K.out hb)
      clear hb c0 c1
      go_wp2
      go_roundw
      case rel => first | exact ⟨k + 1, by omega, by go_num, K⟩ | ((repeat apply Exists.intro); exact ⟨⟨k + 1, by omega, by go_num, K⟩, rfl⟩)
      case measure => simp [intOf]; omega
    · obtain rfl : k = L.length := by omega
      go_wp2
      go_ret
      exact ⟨rfl, K.out⟩

end Go.Proofs.Ytoogdggiemacjaa.Cw
