import Derived.Test.YtncjicggolmofaaBs1
namespace Go.Proofs.Ytncjicggolmofaa.Sb
open Go Go.RowKit
set_option linter.unusedVariables false
set_option linter.unusedSimpArgs false
/-- the place of the slab in a frame, or -1 -/
def atI (L : List Ca) (f : Int) : Int := if L.findIdx (fun c => c.1 == f) < L.length then ((L.findIdx (fun c => c.1 == f) : Nat) : Int) else -1
theorem atI_hit {L : List Ca} {f : Int} {k : Nat} (hk : k < L.length) (h : (cAt L k).1 = f) (hj : ∀ j, j < k → (cAt L j).1 ≠ f) : atI L f = (k : Int) := by
  have e : L.findIdx (fun c => c.1 == f) = k := by
    refine (List.findIdx_eq hk).2 ⟨by rw [← cAt_get hk, h]; simp, fun j hjk => ?_⟩
    have := hj j hjk
    rw [cAt_get (show j < L.length by omega)] at this
    simpa using this
  unfold atI
  rw [e, if_pos hk]
theorem atI_no {L : List Ca} {f : Int} (hj : ∀ j, j < L.length → (cAt L j).1 ≠ f) : atI L f = -1 := by
  unfold atI
  refine if_neg fun h => ?_
  have := List.findIdx_getElem (w := h)
  have h2 := hj _ h
  rw [cAt_get h] at h2
  exact h2 (by simpa using this)
set_option maxRecDepth 100000 in
set_option maxHeartbeats 4000000 in
theorem at_any (A : Option Addr) (cp : Nat) (S : Sc) (f : Int) (w : World) (hr : RdC w A S.sl) (hn : S.sl.length ≤ 9223372036854775807) : Calls Try.prog 46 #[.agg #[.int .i64 S.ob, .slice A S.sl.length cp], .int .i64 f] w fun e w' => e = .returned (.int .i64 (atI S.sl f)) ∧ Below w.heap.size w w' := by
  have X2 := hide (Box.new w 24 #[.int .i64 S.ob, .slice A S.sl.length cp])
  have KF := hide (bal (brefl w) (.cells #[.int .i64 S.ob, .slice A S.sl.length cp] 24))
  obtain ⟨W0, hW0⟩ : ∃ W0, W0 = (w.alloc (.cells #[.int .i64 S.ob, .slice A S.sl.length cp] 24)) := ⟨_, rfl⟩
  rw [← hW0] at X2 KF
  obtain ⟨g2, hg2⟩ : ∃ g2, g2 = w.heap.size := ⟨_, rfl⟩
  rw [← hg2] at X2
  have HR := hide (hr.below KF.out)
  have x1 := X2.out.cell 1
  simp at x1
  clear hr X2
  go_enter Try.func46, Try.ntmps46
  go_upto_region 1 with fail
  rw [← hg2, ← hW0]
  clear hg2 hW0
  go_wp2
  go_loopw [5] (fun i wr => ∃ k : Nat, k ≤ S.sl.length ∧ i = .int .i64 k ∧ W0 = wr ∧ Hid (∀ j, j < k → (cAt S.sl j).1 ≠ f)) (fun i _ => S.sl.length - (intOf i).toNat)
  case atStart => exact ⟨0, Nat.zero_le _, rfl, rfl, hide (fun j hj => by omega)⟩
  case round =>
    obtain ⟨k, hk, rfl, rfl, N⟩ := hrel
    by_cases hlt : k < S.sl.length
    · have hl2 : (k : Int) < (S.sl.length : Int) := by omega
      have hk0 : (0 : Int) ≤ (k : Int) := by omega
      obtain ⟨b, off, vu, rfl, hbl, y0, y1, hu⟩ := HR.out.cells (brefl _) hlt
      obtain ⟨Au, cu, rfl, hcu, hbu⟩ := hu
      obtain ⟨z, hz⟩ : ∃ z, z = (cAt S.sl k).1 := ⟨_, rfl⟩
      rw [← hz] at y0
      clear hbu hcu hbl
      by_cases he : z = f
      · have E := hide (show atI S.sl f = (k : Int) from atI_hit hlt (by rw [← hz]; exact he) N.out)
        clear hz N
        subst he
        generalize (cAt S.sl k).2.length = m at *
        go_wp2
        go_ret
        exact ⟨ret_int E.out.symm, KF.out⟩
      · have N2 := hide (show ∀ j, j < k + 1 → (cAt S.sl j).1 ≠ f from fun j hj => by
          by_cases e : j = k
          · rw [e, ← hz]; exact he
          · exact N.out j (by omega))
        have de : (z == f) = false := by simpa using he
        clear he hz N
        generalize (cAt S.sl k).2.length = m at *
        go_wp2
        go_roundw
        case rel => exact ⟨k + 1, by omega, by go_num, trivial, N2⟩
        case measure => simp [intOf]; omega
    · obtain rfl : k = S.sl.length := by omega
      have E := hide (show atI S.sl f = -1 from atI_no N.out)
      go_wp2
      go_ret
      exact ⟨ret_int E.out.symm, KF.out⟩
end Go.Proofs.Ytncjicggolmofaa.Sb
