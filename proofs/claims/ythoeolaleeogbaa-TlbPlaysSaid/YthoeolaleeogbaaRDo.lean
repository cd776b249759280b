import Derived.Test.YthoeolaleeogbaaDo
import Derived.Test.YthoeolaleeogbaaRFl
namespace Go.Proofs.Ythoeolaleeogbaa.Tb
open Go Go.RowKit Go.Proofs.Ythoeolaleeogbaa.Pt
set_option linter.unusedVariables false
set_option maxHeartbeats 8000000 in
set_option maxRecDepth 100000 in
theorem rdo_any (size : Int) (A : Option Addr) (L : List Te) (c : Nat) (k s p W : Int) (w : World) (h : TlbIn w A L c) (ho : Own47 w A L) (hp : inP p) (hW : inW W) :
    Calls Try.prog 29 #[.agg #[.int .i64 size, .slice A L.length c], .agg #[.int .i64 k, .int .i64 s, .int .i64 p, .int .u64 W]] w (DoR size (doM size L k s p W) (doE size L k s p W) w) := by
  obtain ⟨W0, hW0⟩ : ∃ W0, W0 = (((w.alloc (.cells #[.int .i64 size, .slice A L.length c] 24)).alloc (.cells #[.int .i64 k, .int .i64 s, .int .i64 p, .int .u64 W] 43)).alloc (.cells #[.int .i64 0, .slice none 0 0] 24)).alloc (.cells #[.int .i64 size, .slice A L.length c] 24) := ⟨_, rfl⟩
  have K0 := hide (show Below w.heap.size w W0 by rw [hW0]; exact bal (bal (bal (bal (brefl w) _) _) _) _)
  have X0 := hide (show Box W0 w.heap.size 24 #[.int .i64 size, .slice A L.length c] by rw [hW0]; exact (((Box.new w _ _).more _).more _).more _)
  have Y0 := hide (show Box W0 (w.heap.size + 1) 43 #[.int .i64 k, .int .i64 s, .int .i64 p, .int .u64 W] by rw [hW0]; exact ((Box.new2 _ _ _ _).more _).more _)
  have V0 := hide (show Box W0 (w.heap.size + 2) 24 #[.int .i64 0, .slice none 0 0] by rw [hW0]; exact (Box.new3 _ _ _ _ _).more _)
  have U0 := hide (show Box W0 (w.heap.size + 3) 24 #[.int .i64 size, .slice A L.length c] by rw [hW0]; exact Box.new4 _ _ _ _ _ _)
  have T0 := hide (h.below K0.out)
  have HH := hide h
  have HO := hide ho
  have CF := hide (rfill_any size A L c s p W W0 T0.out hp hW)
  have CI := hide (rinv_any size A L c s p W0 T0.out hp)
  have CL := hide (rflush_any size A L c s W0 T0.out)
  have HWW := hide hW
  have HW := hide hW0
  unfold DoR doM doE
  unfold TlbQ at *
  by_cases k0 : k = 0
  · rw [if_pos k0, if_pos k0]
    have hk : (k == 0) = true := by simpa using k0
    by_cases he : fillE size L s p W = 0
    · rw [if_pos he, he]
      rw [he] at CF
      have e1 : resS size 0 = size := rfl
      have e2 : resM (fillL size L s p W) 0 = fillL size L s p W := rfl
      rw [e1, e2] at CF
      have IN := hide (show ∀ o ∈ fillL size L s p W, inW o.2.2 from inw_fill HH.out.inw HWW.out)
      have BG := hide (show (fillL size L s p W).length ≤ 9223372036854775807 from big_fill he)
      generalize fillL size L s p W = M at *
      clear he e1 e2 k0 hW0 h ho hp hW CI CL
      go_enter Try.func29, Try.ntmps29
      go_wp2_with fail
      rw [← HW.out]
      refine CF.out.mono ?_
      rintro e w1 ⟨A1, c1, rfl, hcap, hown, hb⟩
      have K := hide (btrans K0.out hb)
      have u0 := (U0.out.below hb).cell 0
      have u1 := (U0.out.below hb).cell 1
      have uf0 := (U0.out.below hb).frozen 0
      have uf1 := (U0.out.below hb).frozen 1
      have v0 := (V0.out.below hb).cell 0
      have v1 := (V0.out.below hb).cell 1
      have vf0 := (V0.out.below hb).frozen 0
      have vf1 := (V0.out.below hb).frozen 1
      simp at u0 u1 v0 v1
      have T1 := hide hown
      have V1 := hide (V0.out.below hb)
      have U1 := hide (U0.out.below hb)
      have HC := hide hcap
      clear hown hb hcap
      go_wp2
      have V2 := hide (((V1.out.far (b := w.heap.size + 3) (i := 0) (by omega) (.int .i64 size)).far (b := w.heap.size + 3) (i := 1) (by omega) (.slice A1 M.length c1)))
      have OF := hide ((((T1.out.boxset U1.out 0 (.int .i64 size)).boxset (U1.out.put 0 (.int .i64 size)) 1 (.slice A1 M.length c1)).boxset V2.out 0 (.int .i64 size)).boxset (V2.out.put 0 (.int .i64 size)) 1 (.slice A1 M.length c1))
      exact ret_tlb2 Try.results29 rfl rfl rfl ((V2.out.put 0 (.int .i64 size)).put 1 (.slice A1 M.length c1)) ⟨A1, c1, rfl, ⟨OF.out.ts, HC.out, BG.out, IN.out⟩, OF.out, bset (bset (bset (bset K.out (by simp <;> omega) _) (by simp <;> omega) _) (by simp <;> omega) _) (by simp <;> omega) _⟩
    · rw [if_neg he]
      rw [resS_er he, resM_er he] at CF
      have hd : (fillE size L s p W != 0) = true := by simpa using he
      generalize fillE size L s p W = er at *
      clear he k0 hW0 h ho hp hW CI CL
      go_enter Try.func29, Try.ntmps29
      go_wp2_with fail
      rw [← HW.out]
      refine CF.out.mono ?_
      rintro e w1 ⟨A1, c1, rfl, hcap, hown, hb⟩
      have K := hide (btrans K0.out hb)
      have x0 := (X0.out.below hb).cell 0
      have x1 := (X0.out.below hb).cell 1
      have u0 := (U0.out.below hb).cell 0
      have u1 := (U0.out.below hb).cell 1
      have uf0 := (U0.out.below hb).frozen 0
      have uf1 := (U0.out.below hb).frozen 1
      have v0 := (V0.out.below hb).cell 0
      have v1 := (V0.out.below hb).cell 1
      have vf0 := (V0.out.below hb).frozen 0
      have vf1 := (V0.out.below hb).frozen 1
      simp at x0 x1 u0 u1 v0 v1
      have V1 := hide (V0.out.below hb)
      have hlt0 := Nat.lt_of_lt_of_le X0.out.lt hb.size
      clear hown hb hcap
      go_wp2
      have V2 := hide (((V1.out.far (b := w.heap.size + 3) (i := 0) (by omega) (.int .i64 0)).far (b := w.heap.size + 3) (i := 1) (by omega) (.slice A1 0 c1)))
      have KF := hide (bset (bset (bset (bset K.out (p := ⟨w.heap.size + 3, 0, none⟩) (by simp <;> omega) (.int .i64 0)) (p := ⟨w.heap.size + 3, 1, none⟩) (by simp <;> omega) (.slice A1 0 c1)) (p := ⟨w.heap.size + 2, 0, none⟩) (by simp <;> omega) (.int .i64 size)) (p := ⟨w.heap.size + 2, 1, none⟩) (by simp <;> omega) (.slice A L.length c))
      exact ret_tlb2 Try.results29 rfl rfl rfl ((V2.out.put 0 (.int .i64 size)).put 1 (.slice A L.length c)) ⟨A, c, rfl, HH.out.below KF.out, HO.out.below KF.out, KF.out⟩
  by_cases k1 : k = 1
  · rw [if_neg k0, if_neg k0]; rw [if_pos k1, if_pos k1]
    have hk : (k == 1) = true := by simpa using k1
    have hk0 : (k == 0) = false := by simpa using k0
    by_cases he : placeE size L s p = 0
    · rw [if_pos he, he]
      rw [he] at CI
      have e1 : resS size 0 = size := rfl
      have e2 : resM (invL L s p) 0 = invL L s p := rfl
      rw [e1, e2] at CI
      have IN := hide (show ∀ o ∈ invL L s p, inW o.2.2 from inw_filter HH.out.inw _)
      have BG := hide (show (invL L s p).length ≤ 9223372036854775807 from big_filter HH.out.big _)
      generalize invL L s p = M at *
      clear he e1 e2 k0 k1 hW0 h ho hp hW CF CL
      go_enter Try.func29, Try.ntmps29
      go_wp2_with fail
      rw [← HW.out]
      refine CI.out.mono ?_
      rintro e w1 ⟨A1, c1, rfl, hcap, hown, hb⟩
      have K := hide (btrans K0.out hb)
      have u0 := (U0.out.below hb).cell 0
      have u1 := (U0.out.below hb).cell 1
      have uf0 := (U0.out.below hb).frozen 0
      have uf1 := (U0.out.below hb).frozen 1
      have v0 := (V0.out.below hb).cell 0
      have v1 := (V0.out.below hb).cell 1
      have vf0 := (V0.out.below hb).frozen 0
      have vf1 := (V0.out.below hb).frozen 1
      simp at u0 u1 v0 v1
      have T1 := hide hown
      have V1 := hide (V0.out.below hb)
      have U1 := hide (U0.out.below hb)
      have HC := hide hcap
      clear hown hb hcap
      go_wp2
      have V2 := hide (((V1.out.far (b := w.heap.size + 3) (i := 0) (by omega) (.int .i64 size)).far (b := w.heap.size + 3) (i := 1) (by omega) (.slice A1 M.length c1)))
      have OF := hide ((((T1.out.boxset U1.out 0 (.int .i64 size)).boxset (U1.out.put 0 (.int .i64 size)) 1 (.slice A1 M.length c1)).boxset V2.out 0 (.int .i64 size)).boxset (V2.out.put 0 (.int .i64 size)) 1 (.slice A1 M.length c1))
      exact ret_tlb2 Try.results29 rfl rfl rfl ((V2.out.put 0 (.int .i64 size)).put 1 (.slice A1 M.length c1)) ⟨A1, c1, rfl, ⟨OF.out.ts, HC.out, BG.out, IN.out⟩, OF.out, bset (bset (bset (bset K.out (by simp <;> omega) _) (by simp <;> omega) _) (by simp <;> omega) _) (by simp <;> omega) _⟩
    · rw [if_neg he]
      rw [resS_er he, resM_er he] at CI
      have hd : (placeE size L s p != 0) = true := by simpa using he
      generalize placeE size L s p = er at *
      clear he k0 k1 hW0 h ho hp hW CF CL
      go_enter Try.func29, Try.ntmps29
      go_wp2_with fail
      rw [← HW.out]
      refine CI.out.mono ?_
      rintro e w1 ⟨A1, c1, rfl, hcap, hown, hb⟩
      have K := hide (btrans K0.out hb)
      have x0 := (X0.out.below hb).cell 0
      have x1 := (X0.out.below hb).cell 1
      have u0 := (U0.out.below hb).cell 0
      have u1 := (U0.out.below hb).cell 1
      have uf0 := (U0.out.below hb).frozen 0
      have uf1 := (U0.out.below hb).frozen 1
      have v0 := (V0.out.below hb).cell 0
      have v1 := (V0.out.below hb).cell 1
      have vf0 := (V0.out.below hb).frozen 0
      have vf1 := (V0.out.below hb).frozen 1
      simp at x0 x1 u0 u1 v0 v1
      have V1 := hide (V0.out.below hb)
      have hlt0 := Nat.lt_of_lt_of_le X0.out.lt hb.size
      clear hown hb hcap
      go_wp2
      have V2 := hide (((V1.out.far (b := w.heap.size + 3) (i := 0) (by omega) (.int .i64 0)).far (b := w.heap.size + 3) (i := 1) (by omega) (.slice A1 0 c1)))
      have KF := hide (bset (bset (bset (bset K.out (p := ⟨w.heap.size + 3, 0, none⟩) (by simp <;> omega) (.int .i64 0)) (p := ⟨w.heap.size + 3, 1, none⟩) (by simp <;> omega) (.slice A1 0 c1)) (p := ⟨w.heap.size + 2, 0, none⟩) (by simp <;> omega) (.int .i64 size)) (p := ⟨w.heap.size + 2, 1, none⟩) (by simp <;> omega) (.slice A L.length c))
      exact ret_tlb2 Try.results29 rfl rfl rfl ((V2.out.put 0 (.int .i64 size)).put 1 (.slice A L.length c)) ⟨A, c, rfl, HH.out.below KF.out, HO.out.below KF.out, KF.out⟩
  by_cases k2 : k = 2
  · rw [if_neg k0, if_neg k0]; rw [if_neg k1, if_neg k1]; rw [if_pos k2, if_pos k2]
    have hk : (k == 2) = true := by simpa using k2
    have hk0 : (k == 0) = false := by simpa using k0
    have hk1 : (k == 1) = false := by simpa using k1
    by_cases he : flE size L s = 0
    · rw [if_pos he, he]
      rw [he] at CL
      have e1 : resS size 0 = size := rfl
      have e2 : resM (flL L s) 0 = flL L s := rfl
      rw [e1, e2] at CL
      have IN := hide (show ∀ o ∈ flL L s, inW o.2.2 from inw_filter HH.out.inw _)
      have BG := hide (show (flL L s).length ≤ 9223372036854775807 from big_filter HH.out.big _)
      generalize flL L s = M at *
      clear he e1 e2 k0 k1 k2 hW0 h ho hp hW CF CI
      go_enter Try.func29, Try.ntmps29
      go_wp2_with fail
      rw [← HW.out]
      refine CL.out.mono ?_
      rintro e w1 ⟨A1, c1, rfl, hcap, hown, hb⟩
      have K := hide (btrans K0.out hb)
      have u0 := (U0.out.below hb).cell 0
      have u1 := (U0.out.below hb).cell 1
      have uf0 := (U0.out.below hb).frozen 0
      have uf1 := (U0.out.below hb).frozen 1
      have v0 := (V0.out.below hb).cell 0
      have v1 := (V0.out.below hb).cell 1
      have vf0 := (V0.out.below hb).frozen 0
      have vf1 := (V0.out.below hb).frozen 1
      simp at u0 u1 v0 v1
      have T1 := hide hown
      have V1 := hide (V0.out.below hb)
      have U1 := hide (U0.out.below hb)
      have HC := hide hcap
      clear hown hb hcap
      go_wp2
      have V2 := hide (((V1.out.far (b := w.heap.size + 3) (i := 0) (by omega) (.int .i64 size)).far (b := w.heap.size + 3) (i := 1) (by omega) (.slice A1 M.length c1)))
      have OF := hide ((((T1.out.boxset U1.out 0 (.int .i64 size)).boxset (U1.out.put 0 (.int .i64 size)) 1 (.slice A1 M.length c1)).boxset V2.out 0 (.int .i64 size)).boxset (V2.out.put 0 (.int .i64 size)) 1 (.slice A1 M.length c1))
      exact ret_tlb2 Try.results29 rfl rfl rfl ((V2.out.put 0 (.int .i64 size)).put 1 (.slice A1 M.length c1)) ⟨A1, c1, rfl, ⟨OF.out.ts, HC.out, BG.out, IN.out⟩, OF.out, bset (bset (bset (bset K.out (by simp <;> omega) _) (by simp <;> omega) _) (by simp <;> omega) _) (by simp <;> omega) _⟩
    · rw [if_neg he]
      rw [resS_er he, resM_er he] at CL
      have hd : (flE size L s != 0) = true := by simpa using he
      generalize flE size L s = er at *
      clear he k0 k1 k2 hW0 h ho hp hW CF CI
      go_enter Try.func29, Try.ntmps29
      go_wp2_with fail
      rw [← HW.out]
      refine CL.out.mono ?_
      rintro e w1 ⟨A1, c1, rfl, hcap, hown, hb⟩
      have K := hide (btrans K0.out hb)
      have x0 := (X0.out.below hb).cell 0
      have x1 := (X0.out.below hb).cell 1
      have u0 := (U0.out.below hb).cell 0
      have u1 := (U0.out.below hb).cell 1
      have uf0 := (U0.out.below hb).frozen 0
      have uf1 := (U0.out.below hb).frozen 1
      have v0 := (V0.out.below hb).cell 0
      have v1 := (V0.out.below hb).cell 1
      have vf0 := (V0.out.below hb).frozen 0
      have vf1 := (V0.out.below hb).frozen 1
      simp at x0 x1 u0 u1 v0 v1
      have V1 := hide (V0.out.below hb)
      have hlt0 := Nat.lt_of_lt_of_le X0.out.lt hb.size
      clear hown hb hcap
      go_wp2
      have V2 := hide (((V1.out.far (b := w.heap.size + 3) (i := 0) (by omega) (.int .i64 0)).far (b := w.heap.size + 3) (i := 1) (by omega) (.slice A1 0 c1)))
      have KF := hide (bset (bset (bset (bset K.out (p := ⟨w.heap.size + 3, 0, none⟩) (by simp <;> omega) (.int .i64 0)) (p := ⟨w.heap.size + 3, 1, none⟩) (by simp <;> omega) (.slice A1 0 c1)) (p := ⟨w.heap.size + 2, 0, none⟩) (by simp <;> omega) (.int .i64 size)) (p := ⟨w.heap.size + 2, 1, none⟩) (by simp <;> omega) (.slice A L.length c))
      exact ret_tlb2 Try.results29 rfl rfl rfl ((V2.out.put 0 (.int .i64 size)).put 1 (.slice A L.length c)) ⟨A, c, rfl, HH.out.below KF.out, HO.out.below KF.out, KF.out⟩
  rw [if_neg k0, if_neg k0, if_neg k1, if_neg k1, if_neg k2, if_neg k2]
  have hk0 : (k == 0) = false := by simpa using k0
  have hk1 : (k == 1) = false := by simpa using k1
  have hk2 : (k == 2) = false := by simpa using k2
  have v0 := V0.out.cell 0
  have v1 := V0.out.cell 1
  have vf0 := V0.out.frozen 0
  have vf1 := V0.out.frozen 1
  have x0 := X0.out.cell 0
  have x1 := X0.out.cell 1
  have u0 := U0.out.cell 0
  have u1 := U0.out.cell 1
  simp at x0 x1 u0 u1 v0 v1
  clear k0 k1 k2 hW0 h ho hp hW CF CI CL
  go_enter Try.func29, Try.ntmps29
  go_wp2
  have KF := hide (bal (bal (bal (bal (brefl w) (.cells #[.int .i64 size, .slice A L.length c] 24)) (.cells #[.int .i64 k, .int .i64 s, .int .i64 p, .int .u64 W] 43)) (.cells #[.int .i64 size, .slice A L.length c] 24)) (.cells #[.int .i64 size, .slice A L.length c] 24))
  exact ret_tlb2 Try.results29 rfl rfl rfl ((Box.new3 _ _ _ _ _).more _) ⟨A, c, rfl, HH.out.below KF.out, HO.out.below KF.out, KF.out⟩
end Go.Proofs.Ythoeolaleeogbaa.Tb
