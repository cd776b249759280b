import Derived.Test.YtncjicggolmofaaLs
namespace Go.Proofs.Ytncjicggolmofaa.Sb
open Go Go.RowKit
set_option linter.unusedVariables false
set_option linter.unusedSimpArgs false
theorem addr_add (b off q : Nat) : (⟨b, off, none⟩ : Addr).add q = ⟨b, off + q, none⟩ := by
  unfold Addr.add
  by_cases h0 : q = 0 <;> simp [h0]
/-- the numbers of the used objects -/
def obj (S : Sc) : Is := if chE S = 0 then ls S true S.sl.length else []
theorem obj_len (S : Sc) : (obj S).length ≤ 8192 := by
  unfold obj
  split
  · rename_i h
    have a := ls_len (vd_of h).wf true S.sl.length (Nat.le_refl _)
    have b := (vd_of h).wf.len
    omega
  · simp
theorem ic_one : ∀ (l : Is), ∀ u ∈ l.map ic, u.oneCell' = true := fun l u hu => by
  obtain ⟨z, _, rfl⟩ := List.mem_map.1 hu
  rfl
set_option maxRecDepth 100000 in
set_option maxHeartbeats 8000000 in
theorem objs_any (A : Option Addr) (cp : Nat) (S : Sc) (w : World) (hr : RdC w A S.sl) (hn : S.sl.length ≤ 9223372036854775807) (hln : ∀ k, k < S.sl.length → (us S k).length ≤ 9223372036854775807) : Calls Try.prog 24 #[.agg #[.int .i64 S.ob, .slice A S.sl.length cp]] w fun e w' => (∃ A2 c2, e = .returned (.slice A2 (obj S).length c2) ∧ OwI w.heap.size w' (.slice A2 (obj S).length c2) (obj S)) ∧ Below w.heap.size w w' := by
  obtain ⟨i0, hi0, hz0, hz1, hz2⟩ := info_parts info3
  have X2 := hide (Box.new w 24 #[.int .i64 S.ob, .slice A S.sl.length cp])
  have KF := hide (bal (brefl w) (.cells #[.int .i64 S.ob, .slice A S.sl.length cp] 24))
  obtain ⟨W0, hW0⟩ : ∃ W0, W0 = (w.alloc (.cells #[.int .i64 S.ob, .slice A S.sl.length cp] 24)) := ⟨_, rfl⟩
  rw [← hW0] at X2 KF
  obtain ⟨g2, hg2⟩ : ∃ g2, g2 = w.heap.size := ⟨_, rfl⟩
  rw [← hg2] at X2
  have HR := hide (hr.below KF.out)
  have CK := hide (check_any A cp S W0 HR.out hn hln)
  have x0 := X2.out.cell 0
  have x1 := X2.out.cell 1
  simp at x0 x1
  clear hr
  by_cases hc : chE S = 0
  · have hv := vd_of hc
    have HV := hide hv
    have HVW := hide hv.wf
    have EO := hide (show obj S = ls S true S.sl.length from if_pos hc)
    have hN := hv.wf.len
    rw [hc] at CK
    clear hc hn hln hv
    go_enter Try.func24, Try.ntmps24
    go_upto_region 1 with fail
    rw [← hg2, ← hW0]
    clear hg2 hW0
    go_upto_region 4 with (go_at_call 16; refine CK.out.mono ?_; rintro e w1 ⟨rfl, hb⟩; have X21 := hide (X2.out.below hb); have K1 := hide (KF.out.trans (hb.mono KF.out.size)); have HR1 := hide (HR.out.below hb); clear hb)
    clear x0 x1 X2 HR CK KF
    have x1 := X21.out.cell 1
    simp at x1
    obtain ⟨B, hB⟩ : ∃ B, B = w1.heap.size := ⟨_, rfl⟩
    have HB := hide hB
    clear hB
    go_wp2
    go_loopw [3, 12] (fun a i wr => ∃ k : Nat, k ≤ S.sl.length ∧ i = .int .i64 k ∧ Hid (OwI B wr a (ls S true k)) ∧ Hid (Below B w1 wr)) (fun _ i _ => S.sl.length - (intOf i).toNat)
    case atStart => exact ⟨0, Nat.zero_le _, rfl, hide (ow_nil _ _), hide (Below.refl _ _)⟩
    case round =>
      clear x1
      obtain ⟨k, hk, rfl, O, K⟩ := hrel
      obtain ⟨A1, cap1, ev, hcp⟩ := row_form O.out
      subst ev
      clear hcp
      have hbb : Below w1.heap.size w1 wr := by rw [← HB.out]; exact K.out
      by_cases hlt : k < S.sl.length
      · have hl2 : (k : Int) < (S.sl.length : Int) := by omega
        have hk0 : (0 : Int) ≤ (k : Int) := by omega
        have h32 := HVW.out.l32 hlt
        have hll := ls_len HVW.out true k hk
        obtain ⟨b, off, vu, rfl, _, y0, y1, hu⟩ := HR1.out.cells hbb hlt
        obtain ⟨Au, cu, rfl, _, hbu⟩ := hu
        change wr.cell? _ = some (.int .i64 (fr S k)) at y0
        change wr.cell? _ = some (.slice Au (us S k).length cu) at y1
        change Bs wr Au (us S k) at hbu
        have hnl : (nb (fr S k) S.ob (us S k) true (us S k).length).length ≠ 0 := by rw [nb_all]; have := HV.out.us k hlt; omega
        have hnl2 := nb_len (fr S k) S.ob (us S k) true (us S k).length
        have ELS := hide (show ls S true (k + 1) = ls S true k ++ nb (fr S k) S.ob (us S k) true (us S k).length from rfl)
        have M := bal (brefl wr) (.cells #[.int .i64 (fr S k), .slice Au (us S k).length cu] 52)
        have X5 := hide (Box.new wr 52 #[.int .i64 (fr S k), .slice Au (us S k).length cu])
        have NU := hide (nums_any (fr S k) Au cu (us S k) true _ (hbu.below M) (HVW.out.fr k hlt) h32)
        rw [HVW.out.ln k hlt] at NU
        have OA0 := hide (row_below O.out M)
        have KA0 := hide (K.out.trans (M.mono (by rw [HB.out]; exact hbb.size)))
        have SZ0 := hide (show B ≤ (wr.alloc (.cells #[.int .i64 (fr S k), .slice Au (us S k).length cu] 52)).heap.size by rw [HB.out]; exact Nat.le_trans hbb.size M.size)
        clear M hbu O K hbb
        go_upto_region 7 with fail
        obtain ⟨g5, hg5⟩ : ∃ g5, g5 = wr.heap.size := ⟨_, rfl⟩
        rw [← hg5] at X5 ⊢
        clear hg5
        generalize wr.alloc (.cells #[.int .i64 (fr S k), .slice Au (us S k).length cu] 52) = wx at *
        have z0 := X5.out.cell 0
        have z1 := X5.out.cell 1
        simp at z0 z1
        clear y0 y1
        obtain ⟨l1, hl1⟩ : ∃ l1, l1 = ls S true k := ⟨_, rfl⟩
        obtain ⟨m1, hm1⟩ : ∃ m1, m1 = l1.length := ⟨_, rfl⟩
        obtain ⟨l2, hl2'⟩ : ∃ l2, l2 = nb (fr S k) S.ob (us S k) true (us S k).length := ⟨_, rfl⟩
        obtain ⟨m2, hm2⟩ : ∃ m2, m2 = l2.length := ⟨_, rfl⟩
        rw [← hl1] at OA0 ELS hll ⊢
        rw [← hl2'] at ELS NU hnl hnl2
        rw [← hm1] at OA0 hll ⊢
        rw [← hm2] at NU hnl hnl2
        have HM1 := hide hm1
        have HM2 := hide hm2
        clear hl1 hm1 hl2' hm2
        go_wp2_with fail
        refine NU.out.mono ?_
        rintro e w2 ⟨⟨A2, c2, rfl, hO⟩, hb⟩
        have hO2 : w2.ownsRow wx.heap.size 3 1 (.slice A2 m2 c2) m2 (l2.map ic) := by have := hO; unfold OwI at this; rw [← HM2.out] at this; exact this
        obtain ⟨gs, rfl, _, _, hcell, _⟩ := row_cell hO2 hnl
        have NEWS := hide (show ∀ (j : Nat) (u : Value), (l2.map ic)[j]? = some u → w2.cell? ((⟨gs, 0, none⟩ : Addr).add j) = some u from fun j u hu => by rw [addr_add, Nat.zero_add]; exact hcell j u hu)
        have OA := hide (row_below OA0.out hb)
        have KA := hide (KA0.out.trans (hb.mono SZ0.out))
        have SA := hide (Nat.le_trans SZ0.out hb.size)
        have HL2 := hide (show (l2.map ic).length = m2 * 1 by rw [List.length_map, HM2.out, Nat.mul_one])
        clear hO hO2 hb hcell NU OA0 KA0 SZ0 z0 z1 X5
        go_upto_region 8 with (at_builtin; refine wpList_append_own_at _ rfl (.tmp 16) (.tmp 18) 35 rfl B 3 i0 _ 1 8 Try.underlying35 hi0 hz0 hz1 hz2 rfl (by omega) (.slice A1 m1 cap1) m1 (l1.map ic) rfl OA.out ⟨gs, 0, none⟩ m2 c2 (l2.map ic) rfl HL2.out NEWS.out (ic_one l2) (by simp only [maxLen]; omega) (by omega) SA.out ?_; intro v4 w4 hown4 hg4 _ hat4; obtain ⟨A4, cp4, ev4, _⟩ := row_form hown4; subst ev4)
        have e3 : (ls S true (k + 1)).length = m1 + m2 := by rw [ELS.out, List.length_append, HM1.out, HM2.out]
        have O := hide (show OwI B w4 (.slice A4 (m1 + m2) cp4) (ls S true (k + 1)) by
          unfold OwI
          rw [e3, ELS.out, List.map_append]
          exact hown4)
        have B4 := below_grown OA.out hg4 SA.out
        have K := hide (KA.out.trans B4)
        rw [← e3] at O ⊢
        clear B4 hown4 hg4 hat4 OA SA KA e3 NEWS HL2
        go_wp2
        go_roundw
        case rel => first | exact ⟨k + 1, by omega, by go_num, O, K⟩ | ((repeat apply Exists.intro); exact ⟨⟨k + 1, by omega, by go_num, O, K⟩, rfl⟩)
        case measure => simp [intOf]; omega
      · obtain rfl : k = S.sl.length := by omega
        rw [← EO.out] at O ⊢
        go_wp2
        go_ret
        exact ⟨⟨_, _, rfl, row_mono O.out (by rw [HB.out]; exact K1.out.size)⟩, K1.out.trans (K.out.mono (by rw [HB.out]; exact K1.out.size))⟩
  · have EO := hide (show obj S = [] from if_neg hc)
    have dc : (chE S != 0) = true := by simpa using hc
    clear hc hn hln
    generalize chE S = ce at *
    go_enter Try.func24, Try.ntmps24
    go_upto_region 1 with fail
    rw [← hg2, ← hW0]
    clear hg2 hW0
    go_wp2_with (go_at_call 16; refine CK.out.mono ?_; rintro e w1 ⟨rfl, hb⟩; have K1 := hide (KF.out.trans (hb.mono KF.out.size)); clear hb)
    go_ret
    refine ⟨⟨none, 0, by rw [EO.out]; rfl, by rw [EO.out]; exact ow_nil _ _⟩, K1.out⟩
set_option maxRecDepth 100000 in
set_option maxHeartbeats 4000000 in
theorem robjs_any (A : Option Addr) (cp : Nat) (S : Sc) (w : World) (hr : RdC w A S.sl) (hn : S.sl.length ≤ 9223372036854775807) (hln : ∀ k, k < S.sl.length → (us S k).length ≤ 9223372036854775807) : Calls Try.prog 25 #[.agg #[.int .i64 S.ob, .slice A S.sl.length cp]] w fun e w' => (∃ A2 c2, e = .returned (.slice A2 (obj S).length c2) ∧ OwI w.heap.size w' (.slice A2 (obj S).length c2) (obj S)) ∧ Below w.heap.size w w' := by
  have X2 := hide (Box.new w 24 #[.int .i64 S.ob, .slice A S.sl.length cp])
  have KF := hide (bal (brefl w) (.cells #[.int .i64 S.ob, .slice A S.sl.length cp] 24))
  obtain ⟨W0, hW0⟩ : ∃ W0, W0 = (w.alloc (.cells #[.int .i64 S.ob, .slice A S.sl.length cp] 24)) := ⟨_, rfl⟩
  rw [← hW0] at X2 KF
  obtain ⟨g2, hg2⟩ : ∃ g2, g2 = w.heap.size := ⟨_, rfl⟩
  rw [← hg2] at X2
  have HR := hide (hr.below KF.out)
  have CK := hide (rcheck_any A cp S W0 HR.out hn hln)
  have x0 := X2.out.cell 0
  have x1 := X2.out.cell 1
  simp at x0 x1
  clear hr
  by_cases hc : chE S = 0
  · have HVW := hide (vd_of hc).wf
    have EO := hide (show obj S = ls S true S.sl.length from if_pos hc)
    rw [hc] at CK
    clear hc hn hln
    go_enter Try.func25, Try.ntmps25
    go_upto_region 1 with fail
    rw [← hg2, ← hW0]
    clear hg2 hW0
    go_upto_region 3 with (go_at_call 17; refine CK.out.mono ?_; rintro e w1 ⟨rfl, hb⟩; have X21 := hide (X2.out.below hb); have K1 := hide (KF.out.trans (hb.mono KF.out.size)); have HR1 := hide (HR.out.below hb); clear hb)
    clear x0 x1 X2 HR CK KF
    have x0 := X21.out.cell 0
    have x1 := X21.out.cell 1
    simp at x0 x1
    have LS := hide (list_any A cp S true w1 HR1.out HVW.out)
    rw [← EO.out] at LS
    go_wp2_with (go_at_call 38; refine LS.out.mono ?_; rintro e w2 ⟨⟨A2, c2, rfl, hO⟩, hb⟩; have O2 := hide hO; have K2 := hide (K1.out.trans (hb.mono K1.out.size)); clear hO hb)
    go_ret
    exact ⟨⟨_, _, rfl, row_mono O2.out K1.out.size⟩, K2.out⟩
  · have EO := hide (show obj S = [] from if_neg hc)
    have dc : (chE S != 0) = true := by simpa using hc
    clear hc hn hln
    generalize chE S = ce at *
    go_enter Try.func25, Try.ntmps25
    go_upto_region 1 with fail
    rw [← hg2, ← hW0]
    clear hg2 hW0
    go_wp2_with (go_at_call 17; refine CK.out.mono ?_; rintro e w1 ⟨rfl, hb⟩; have K1 := hide (KF.out.trans (hb.mono KF.out.size)); clear hb)
    go_ret
    refine ⟨⟨none, 0, by rw [EO.out]; rfl, by rw [EO.out]; exact ow_nil _ _⟩, K1.out⟩
end Go.Proofs.Ytncjicggolmofaa.Sb
