import Derived.Test.YtflplldamefhoaaZr
namespace Go.Proofs.Ytflplldamefhoaa.Bd
open Go Go.RowKit
set_option linter.unusedVariables false
/-- a zone of one's own is answered -/
def ZR1 (p : Pm) (L : Fl) (w : World) (e : Ending) (w' : World) : Prop := ∃ v', e = .returned (.agg (znC p v')) ∧ OwZ w.heap.size w' v' L ∧ Below w.heap.size w w'
theorem wr_k {k : Nat} (hk : k < 5) : decide ((k : Int) < 5) = true := decide_eq_true (by omega)
set_option maxHeartbeats 4000000 in
theorem clone_any (p : Pm) (v : Nat → Value) (L : Fl) (w : World) (hr : RdZ w v L) (hn : ∀ k, k < 5 → (L k).length ≤ 1000000) : Calls Try.prog 55 #[.agg (znC p v)] w (ZR1 p L w) := by
  unfold ZR1
  obtain ⟨W0, hW0⟩ : ∃ W0, W0 = (w.alloc (.cells (znC p v) 25)).alloc (.cells (znC p0 nv) 25) := ⟨_, rfl⟩
  have K0 := hide (show Below w.heap.size w W0 by rw [hW0]; exact bal (bal (brefl w) _) _)
  have X := hide (show Box W0 w.heap.size 25 (znC p v) by rw [hW0]; exact (Box.new w 25 _).more _)
  have Y := hide (show Box W0 (w.heap.size + 1) 25 (znC p0 nv) by rw [hW0]; exact Box.new2 w _ 25 _)
  have R := hide (hr.below K0.out)
  have HN := hide hn
  have HR := hide hr
  clear hr hn
  go_enter Try.func55, Try.ntmps55
  go_upto_region 1 with fail
  rw [znC0, ← hW0]
  obtain ⟨y0, y1, y2, y3, y4, y5, y6, y7, y8, y9⟩ := box_all X.out
  have HW := hide hW0
  obtain ⟨g, hg⟩ : ∃ g, g = w.heap.size := ⟨_, rfl⟩
  have hg1 : w.heap.size + 1 = g + 1 := by rw [hg]
  have HG := hide hg
  rw [← hg] at y0 y1 y2 y3 y4 y5 y6 y7 y8 y9 X ⊢
  rw [hg1] at Y
  have HB := hide (show w.heap.size ≤ g by omega)
  clear hg hg1 hW0
  go_wp2
  clear y0 y1 y2 y3 y4 y5 y6 y7 y8 y9
  go_loopw [7] (fun a wr => ∃ (k : Nat) (v' : Nat → Value), k ≤ 5 ∧ a = .int .i64 k ∧ Hid (Box wr g 25 (znC p v')) ∧ Hid (Box wr (g + 1) 25 (znC p0 nv)) ∧ Hid (ClS w.heap.size wr v v' L k) ∧ Hid (Below w.heap.size w wr)) (fun a _ => 5 - (intOf a).toNat)
  case atStart => exact ⟨0, v, by omega, rfl, X, Y, hide ⟨fun j hj => absurd hj (Nat.not_lt_zero _), fun i j hi => absurd hi (Nat.not_lt_zero _), fun j _ => rfl⟩, K0⟩
  case round =>
    clear X Y
    obtain ⟨k, v', hk, rfl, X, Y, CS, K⟩ := hrel
    by_cases h5 : k < 5
    · have hd := wr_k h5
      have hk5 : (k : Int) < 5 := by omega
      have IX := index_any v h5
      have CL := hide (clo_any ((HR.out k h5).below K.out) (HN.out k h5))
      obtain ⟨A, c, ev, _⟩ := HR.out k h5
      rw [ev] at CL IX
      go_wp2_with fail
      refine CL.out.mono ?_
      rintro e w1 ⟨u, rfl, ou, hb⟩
      have X1 := hide (X.out.below hb)
      have Y1 := hide (Y.out.below hb)
      have C1 := hide (CS.out.step K.out.size hb ou)
      have K1 := hide (btrans K.out hb)
      have s1 := box_list X1.out h5
      have f1 := X1.out.frozen (5 + k)
      have KP := hide (Kp.boxset X1.out HB.out (5 + k) u)
      obtain ⟨A1, c1, eu, _⟩ := row_form ou
      clear X Y CS CL ou ev IX hb K
      subst eu
      go_wp2
      have X2 := X1.out.put (5 + k) (.slice A1 (L k).length c1)
      rw [znC_set p v' _ h5] at X2
      have Y2 := hide (Y1.out.far (show g + 1 ≠ g by omega) (b := g) (i := 5 + k) (.slice A1 (L k).length c1))
      have K2 := hide (bset K1.out (p := ⟨g, 5 + k, none⟩) HB.out (.slice A1 (L k).length c1))
      have C2 := hide (C1.out.kp KP.out (by decide))
      go_roundw
      case rel => exact ⟨k + 1, _, by omega, by go_num, hide X2, Y2, C2, K2⟩
      case measure => simp [intOf]; omega
    · obtain rfl : k = 5 := by omega
      have O := hide CS.out.done
      have one := one_zone (p := p) O.out.rd
      go_wp2_with (first | (refine wpList_load_row rfl 25 _ rfl g rfl 25 (znC p v') (0, 0) _ X.out Try.underlying25 rfl (by kernel_rfl) ?_) | (refine wpList_store_row rfl 25 _ _ rfl (g + 1) (znC p v') rfl rfl 25 (znC p0 nv) Y.out (by kernel_rfl) rfl one ?_))
      have KP := kp_row (cs := znC p v') Y.out (show w.heap.size ≤ g + 1 by have := HB.out; omega)
      exact ret_z1 Try.results55 rfl rfl (box_row Y.out) ⟨v', rfl, O.out.kp KP (by decide), K.out.trans KP.below⟩
end Go.Proofs.Ytflplldamefhoaa.Bd
