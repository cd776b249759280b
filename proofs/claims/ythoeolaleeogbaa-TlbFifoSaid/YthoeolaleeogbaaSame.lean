import Derived.Test.YthoeolaleeogbaaFill
namespace Go.Proofs.Ythoeolaleeogbaa.Tb
open Go Go.RowKit Go.Proofs.Ythoeolaleeogbaa.Pt
set_option linter.unusedVariables false
set_option maxHeartbeats 1000000 in
theorem same_eq (s : Int) (A B : Option Addr) (L : List Te) (c d : Nat) (w : World) (hr : Ts w A L) (hs : Ts w B L) (hn : L.length ≤ 1000) :
    Calls Try.prog 18 #[.agg #[.int .i64 s, .slice A L.length c], .agg #[.int .i64 s, .slice B L.length d]] w fun e w' => e = .returned (.bool true) ∧ Below w.heap.size w w' := by
  obtain ⟨W0, hW0⟩ : ∃ W0, W0 = (w.alloc (.cells #[.int .i64 s, .slice A L.length c] 24)).alloc (.cells #[.int .i64 s, .slice B L.length d] 24) := ⟨_, rfl⟩
  have K0 := hide (show Below w.heap.size w W0 by rw [hW0]; exact bal (bal (brefl w) _) _)
  have X0 := hide (show Box W0 w.heap.size 24 #[.int .i64 s, .slice A L.length c] by rw [hW0]; exact (Box.new w _ _).more _)
  have Y0 := hide (show Box W0 (w.heap.size + 1) 24 #[.int .i64 s, .slice B L.length d] by rw [hW0]; exact Box.new2 _ _ _ _)
  have HR := hide (hr.below K0.out)
  have HS := hide (hs.below K0.out)
  have HW := hide hW0
  clear hW0 hr hs
  go_enter Try.func18, Try.ntmps18
  go_wp2
  rw [← HW.out]
  go_loopw [5] (fun i wr => ∃ k : Nat, k ≤ L.length ∧ i = .int .i64 k ∧ Below W0.heap.size W0 wr) (fun i _ => L.length - (intOf i).toNat)
  case atStart => exact ⟨0, Nat.zero_le _, rfl, brefl _⟩
  case round =>
    obtain ⟨k, hk, rfl, hb⟩ := hrel
    have x1 := (X0.out.below hb).cell 1
    have y1 := (Y0.out.below hb).cell 1
    simp at x1 y1
    by_cases hlt : k < L.length
    · obtain ⟨b, off, rfl, _, hcs⟩ := HR.out.cells hb hlt
      obtain ⟨c0, c1, c2⟩ := hcs k hlt
      obtain ⟨b', off', rfl, _, hds⟩ := HS.out.cells hb hlt
      obtain ⟨d0, d1, d2⟩ := hds k hlt
      have hk0 : (0 : Int) ≤ (k : Int) := by omega
      have hkl : (k : Int) < (L.length : Int) := by omega
      generalize (teAt L k).1 = z0 at *
      generalize (teAt L k).2.1 = z1 at *
      generalize (teAt L k).2.2 = z2 at *
      have HB := hide hb
      clear hcs hds hb
      go_wp2
      go_quiet (fail)
      go_wp2
      go_roundw
      case rel => exact ⟨k + 1, by omega, by go_num, below_drewN HB.out _⟩
      case measure => simp [intOf]; omega
    · have HB := hide hb
      clear hb
      go_wp2
      go_ret
      exact ⟨rfl, btrans K0.out HB.out⟩
theorem few_any (s : Int) (A : Option Addr) (n c : Nat) (m : Int) (b : Bool) (w : World) (hn : n ≤ 9223372036854775807) (hb : decide ((n : Int) ≤ m) = b) :
    Calls Try.prog 12 #[.agg #[.int .i64 s, .slice A n c], .int .i64 m] w fun e w' => e = .returned (.bool b) ∧ Below w.heap.size w w' := by
  subst hb
  go_enter Try.func12, Try.ntmps12
  go_wp2
  go_ret
  exact ⟨rfl, bal (brefl _) _⟩
end Go.Proofs.Ythoeolaleeogbaa.Tb
