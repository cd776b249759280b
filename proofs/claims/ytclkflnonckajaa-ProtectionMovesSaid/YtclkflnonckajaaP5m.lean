import Derived.Test.YtclkflnonckajaaQ10
namespace Go.Proofs.Ytclkflnonckajaa.Ac
open Go Go.RowKit
set_option linter.unusedVariables false
set_option linter.unusedSimpArgs false
section
variable {L : List A5} {v u : Is} {s : Int} {low : Bool}
theorem gu_mono (hm : ∀ i, i < L.length → nAt v i ≤ nAt u i) {x : Int} (h : gu L v low x = true) : gu L u low x = true := by
  unfold gu at h ⊢
  have h1 := of_decide_eq_true h
  have h2 := tS_mono (v := v) (u := u) hm x.toNat
  exact decide_eq_true (by omega)
theorem gdP_mono (hm : ∀ i, i < L.length → nAt v i ≤ nAt u i) : ∀ P : Is, gdP L v s low P = true → gdP L u s low P = true
  | [], h => h
  | x :: l, h => by
    unfold gdP at h ⊢
    by_cases c : 0 < x ∧ x ≠ s
    · rw [if_pos c] at h ⊢
      cases hg : gu L v low x with
      | true => rw [gu_mono hm hg]; rfl
      | false =>
        rw [hg] at h
        have h' : gdP L v s low l = true := h
        rw [gdP_mono hm l h']
        exact Bool.or_true _
    · rw [if_neg c] at h
      exact absurd h (by decide)
theorem gR_up {a : Int} (hm : ∀ i, i < L.length → nAt v i ≤ nAt u i) (hok : vlv L u → vlv L v) (g : gR L v a s low = true) : gR L u a s low = true := by
  by_cases h : vlv L u ∧ iR L a s = true
  · rw [gR_ok (low := low) h]
    rw [gR_ok (low := low) ⟨hok h.1, h.2⟩] at g
    exact gdP_mono hm _ g
  · exact gR_no h
theorem nAt_set {k : Nat} (hk : k < v.length) (z : Int) (i : Nat) : nAt (v.set k z) i = if i = k then z else nAt v i := by
  unfold nAt
  rw [List.getD_eq_getElem?_getD, List.getD_eq_getElem?_getD, List.getElem?_set]
  by_cases h : k = i
  · subst h; simp [hk]
  · rw [if_neg h, if_neg (fun e => h e.symm)]
theorem gR_set {k : Nat} {a : Int} (hk : k < v.length) (h0 : 0 ≤ nAt v k) (h1 : nAt v k < 1048576) (g : gR L v a s low = true) : gR L (v.set k (nAt v k + 1)) a s low = true := by
  refine gR_up (fun i hi => ?_) (fun h => ⟨h.1, by rw [← h.2.1, List.length_set], fun i hi => ?_⟩) g
  · rw [nAt_set hk]
    split
    · rename_i e; subst e; omega
    · exact Int.le_refl _
  · by_cases e : i = k
    · subst e; exact ⟨by omega, by omega⟩
    · have := h.2.2 i (by rw [List.length_set]; exact hi)
      rwa [nAt_set hk, if_neg e] at this
theorem set_ic (l : Is) (k : Nat) (z : Int) : (l.set k z).map ic = (l.map ic).set k (ic z) := List.map_set ..
end
set_option maxRecDepth 100000 in
set_option maxHeartbeats 16000000 in
theorem law_moves (A : Option Addr) (cp : Nat) (L : List A5) (AV : Option Addr) (cv : Nat) (v : Is) (m0 m1 m2 : Int) (W : World) (h : AIn W A L cp) (hv : Bi W AV v) (hvl : v.length ≤ 9223372036854775807) (hvw : ∀ f ∈ v, i64r f) : Calls Try.prog 17 #[.slice A L.length cp, .slice AV v.length cv, .agg #[.int .i64 m0, .int .i64 m1, .int .i64 m2]] W fun e w' => e = .returned (.bool true) ∧ Below W.heap.size W w' := by
  have HR := hide (fun w' (hb : Below W.heap.size W w') => h.rd.below hb)
  have HCP := hide h.cap
  have HN := hide h.len
  have AWK := hide (fun w => awakep_any w)
  have HV := hide hv
  have X := hide (Box.new W 57 #[.int .i64 m0, .int .i64 m1, .int .i64 m2])
  have K := hide (bal (brefl W) (.cells #[.int .i64 m0, .int .i64 m1, .int .i64 m2] 57))
  obtain ⟨W0, hW0⟩ : ∃ W0, W0 = W.alloc (.cells #[.int .i64 m0, .int .i64 m1, .int .i64 m2] 57) := ⟨_, rfl⟩
  rw [← hW0] at X K
  obtain ⟨g, hg⟩ : ∃ g, g = W.heap.size := ⟨_, rfl⟩
  rw [← hg] at X
  by_cases hc : chE L = 0
  · have HC := hide hc
    by_cases hvl1 : v.length = L.length
    · have HVL := hide hvl1
      clear hc h
      rw [hvl1]
      clear hvl1
      by_cases p0 : m0 < 0
      · skip
        clear hv
        go_enter Try.func17, Try.ntmps17
        go_upto_region 1 with fail
        rw [← hg, ← hW0]
        clear hg hW0
        go_wp2_with fail
        refine (AWK.out _).mono ?_
        rintro e w1 ⟨rfl, hb⟩
        replace K := hide (btrans K.out hb)
        replace X := hide (X.out.below hb)
        clear hb
        go_wp2_with fail
        refine (rcheck_any A cp L _ (HR.out _ K.out) HN.out).mono ?_
        rintro e w2 ⟨rfl, hb⟩
        replace K := hide (btrans K.out hb)
        replace X := hide (X.out.below hb)
        clear hb
        rw [HC.out]
        have x0 := X.out.cell 0
        have x1 := X.out.cell 1
        have x2 := X.out.cell 2
        simp at x0 x1 x2
        go_upto_region 3 with fail
        go_quiet (fail)
        generalize hwy : World.drewN _ _ = wy
        have hbq : Below w2.heap.size w2 wy := by rw [← hwy]; exact below_drewN (brefl _) _
        replace K := hide (btrans K.out hbq)
        clear hwy hbq x0 x1 x2 X
        go_wp2
        go_ret
        exact ⟨rfl, K.out⟩
      · skip
        by_cases p1 : (L.length : Int) ≤ m0
        · skip
          clear hv
          go_enter Try.func17, Try.ntmps17
          go_upto_region 1 with fail
          rw [← hg, ← hW0]
          clear hg hW0
          go_wp2_with fail
          refine (AWK.out _).mono ?_
          rintro e w1 ⟨rfl, hb⟩
          replace K := hide (btrans K.out hb)
          replace X := hide (X.out.below hb)
          clear hb
          go_wp2_with fail
          refine (rcheck_any A cp L _ (HR.out _ K.out) HN.out).mono ?_
          rintro e w2 ⟨rfl, hb⟩
          replace K := hide (btrans K.out hb)
          replace X := hide (X.out.below hb)
          clear hb
          rw [HC.out]
          have x0 := X.out.cell 0
          have x1 := X.out.cell 1
          have x2 := X.out.cell 2
          simp at x0 x1 x2
          go_upto_region 3 with fail
          go_quiet (fail)
          generalize hwy : World.drewN _ _ = wy
          have hbq : Below w2.heap.size w2 wy := by rw [← hwy]; exact below_drewN (brefl _) _
          replace K := hide (btrans K.out hbq)
          clear hwy hbq x0 x1 x2 X
          go_wp2
          go_ret
          exact ⟨rfl, K.out⟩
        · skip
          by_cases p2 : m1 < -1
          · skip
            clear hv
            go_enter Try.func17, Try.ntmps17
            go_upto_region 1 with fail
            rw [← hg, ← hW0]
            clear hg hW0
            go_wp2_with fail
            refine (AWK.out _).mono ?_
            rintro e w1 ⟨rfl, hb⟩
            replace K := hide (btrans K.out hb)
            replace X := hide (X.out.below hb)
            clear hb
            go_wp2_with fail
            refine (rcheck_any A cp L _ (HR.out _ K.out) HN.out).mono ?_
            rintro e w2 ⟨rfl, hb⟩
            replace K := hide (btrans K.out hb)
            replace X := hide (X.out.below hb)
            clear hb
            rw [HC.out]
            have x0 := X.out.cell 0
            have x1 := X.out.cell 1
            have x2 := X.out.cell 2
            simp at x0 x1 x2
            go_upto_region 3 with fail
            go_quiet (fail)
            generalize hwy : World.drewN _ _ = wy
            have hbq : Below w2.heap.size w2 wy := by rw [← hwy]; exact below_drewN (brefl _) _
            replace K := hide (btrans K.out hbq)
            clear hwy hbq x0 x1 x2 X
            go_wp2
            go_ret
            exact ⟨rfl, K.out⟩
          · skip
            by_cases p3 : (L.length : Int) ≤ m1
            · skip
              clear hv
              go_enter Try.func17, Try.ntmps17
              go_upto_region 1 with fail
              rw [← hg, ← hW0]
              clear hg hW0
              go_wp2_with fail
              refine (AWK.out _).mono ?_
              rintro e w1 ⟨rfl, hb⟩
              replace K := hide (btrans K.out hb)
              replace X := hide (X.out.below hb)
              clear hb
              go_wp2_with fail
              refine (rcheck_any A cp L _ (HR.out _ K.out) HN.out).mono ?_
              rintro e w2 ⟨rfl, hb⟩
              replace K := hide (btrans K.out hb)
              replace X := hide (X.out.below hb)
              clear hb
              rw [HC.out]
              have x0 := X.out.cell 0
              have x1 := X.out.cell 1
              have x2 := X.out.cell 2
              simp at x0 x1 x2
              go_upto_region 3 with fail
              go_quiet (fail)
              generalize hwy : World.drewN _ _ = wy
              have hbq : Below w2.heap.size w2 wy := by rw [← hwy]; exact below_drewN (brefl _) _
              replace K := hide (btrans K.out hbq)
              clear hwy hbq x0 x1 x2 X
              go_wp2
              go_ret
              exact ⟨rfl, K.out⟩
            · skip
              by_cases p4 : m2 < 0
              · skip
                clear hv
                go_enter Try.func17, Try.ntmps17
                go_upto_region 1 with fail
                rw [← hg, ← hW0]
                clear hg hW0
                go_wp2_with fail
                refine (AWK.out _).mono ?_
                rintro e w1 ⟨rfl, hb⟩
                replace K := hide (btrans K.out hb)
                replace X := hide (X.out.below hb)
                clear hb
                go_wp2_with fail
                refine (rcheck_any A cp L _ (HR.out _ K.out) HN.out).mono ?_
                rintro e w2 ⟨rfl, hb⟩
                replace K := hide (btrans K.out hb)
                replace X := hide (X.out.below hb)
                clear hb
                rw [HC.out]
                have x0 := X.out.cell 0
                have x1 := X.out.cell 1
                have x2 := X.out.cell 2
                simp at x0 x1 x2
                go_upto_region 3 with fail
                go_quiet (fail)
                generalize hwy : World.drewN _ _ = wy
                have hbq : Below w2.heap.size w2 wy := by rw [← hwy]; exact below_drewN (brefl _) _
                replace K := hide (btrans K.out hbq)
                clear hwy hbq x0 x1 x2 X
                go_wp2
                go_ret
                exact ⟨rfl, K.out⟩
              · skip
                by_cases p5 : (L.length : Int) ≤ m2
                · skip
                  clear hv
                  go_enter Try.func17, Try.ntmps17
                  go_upto_region 1 with fail
                  rw [← hg, ← hW0]
                  clear hg hW0
                  go_wp2_with fail
                  refine (AWK.out _).mono ?_
                  rintro e w1 ⟨rfl, hb⟩
                  replace K := hide (btrans K.out hb)
                  replace X := hide (X.out.below hb)
                  clear hb
                  go_wp2_with fail
                  refine (rcheck_any A cp L _ (HR.out _ K.out) HN.out).mono ?_
                  rintro e w2 ⟨rfl, hb⟩
                  replace K := hide (btrans K.out hb)
                  replace X := hide (X.out.below hb)
                  clear hb
                  rw [HC.out]
                  have x0 := X.out.cell 0
                  have x1 := X.out.cell 1
                  have x2 := X.out.cell 2
                  simp at x0 x1 x2
                  go_upto_region 3 with fail
                  go_quiet (fail)
                  generalize hwy : World.drewN _ _ = wy
                  have hbq : Below w2.heap.size w2 wy := by rw [← hwy]; exact below_drewN (brefl _) _
                  replace K := hide (btrans K.out hbq)
                  clear hwy hbq x0 x1 x2 X
                  go_wp2
                  go_ret
                  exact ⟨rfl, K.out⟩
                · skip
                  obtain ⟨k, rfl⟩ := Int.eq_ofNat_of_zero_le (show 0 ≤ m2 by omega)
                  have hk : k < v.length := by have := HVL.out; omega
                  have hk2 : (k : Int) < (L.length : Int) := by omega
                  have hk0 : (0 : Int) ≤ (k : Int) := by omega
                  obtain ⟨b, off, hA, hbl, hcl⟩ := HV.out (by intro e; rw [e] at hk; simp at hk)
                  have Y := hide (show ∀ w', Below W.heap.size W w' → w'.cell? ⟨b, off + k, none⟩ = some (.int .i64 (nAt v k)) from fun w' hb => (hb.cell (p := ⟨b, off + k, none⟩) hbl).trans (hcl k hk))
                  subst hA
                  clear hcl hbl
                  have GV := hide (fun h0 h1 (g : gR L v m0 m1 false = true) => gR_set (L := L) (v := v) (k := k) (a := m0) (s := m1) (low := false) hk h0 h1 g)
                  by_cases z0 : nAt v k < 0
                  · skip
                    clear hv GV
                    generalize nAt v k = z at *
                    go_enter Try.func17, Try.ntmps17
                    go_upto_region 1 with fail
                    rw [← hg, ← hW0]
                    clear hg hW0
                    go_wp2_with fail
                    refine (AWK.out _).mono ?_
                    rintro e w1 ⟨rfl, hb⟩
                    replace K := hide (btrans K.out hb)
                    replace X := hide (X.out.below hb)
                    clear hb
                    go_wp2_with fail
                    refine (rcheck_any A cp L _ (HR.out _ K.out) HN.out).mono ?_
                    rintro e w2 ⟨rfl, hb⟩
                    replace K := hide (btrans K.out hb)
                    replace X := hide (X.out.below hb)
                    clear hb
                    rw [HC.out]
                    have y := Y.out _ K.out
                    have x0 := X.out.cell 0
                    have x1 := X.out.cell 1
                    have x2 := X.out.cell 2
                    simp at x0 x1 x2
                    go_upto_region 3 with fail
                    go_quiet (fail)
                    generalize hwy : World.drewN _ _ = wy
                    have hbq : Below w2.heap.size w2 wy := by rw [← hwy]; exact below_drewN (brefl _) _
                    replace K := hide (btrans K.out hbq)
                    have y := Y.out _ K.out
                    clear hwy hbq x0 x1 x2 X
                    go_wp2
                    go_ret
                    exact ⟨rfl, K.out⟩
                  · by_cases z1 : 1048576 ≤ nAt v k
                    · skip
                      clear hv GV
                      generalize nAt v k = z at *
                      go_enter Try.func17, Try.ntmps17
                      go_upto_region 1 with fail
                      rw [← hg, ← hW0]
                      clear hg hW0
                      go_wp2_with fail
                      refine (AWK.out _).mono ?_
                      rintro e w1 ⟨rfl, hb⟩
                      replace K := hide (btrans K.out hb)
                      replace X := hide (X.out.below hb)
                      clear hb
                      go_wp2_with fail
                      refine (rcheck_any A cp L _ (HR.out _ K.out) HN.out).mono ?_
                      rintro e w2 ⟨rfl, hb⟩
                      replace K := hide (btrans K.out hb)
                      replace X := hide (X.out.below hb)
                      clear hb
                      rw [HC.out]
                      have y := Y.out _ K.out
                      have x0 := X.out.cell 0
                      have x1 := X.out.cell 1
                      have x2 := X.out.cell 2
                      simp at x0 x1 x2
                      go_upto_region 3 with fail
                      go_quiet (fail)
                      generalize hwy : World.drewN _ _ = wy
                      have hbq : Below w2.heap.size w2 wy := by rw [← hwy]; exact below_drewN (brefl _) _
                      replace K := hide (btrans K.out hbq)
                      have y := Y.out _ K.out
                      clear hwy hbq x0 x1 x2 X
                      go_wp2
                      go_ret
                      exact ⟨rfl, K.out⟩
                    replace GV := hide (GV.out (by omega) (by omega))
                    have GU := hide (fun w' (hb : Below W.heap.size W w') => guard_any A (some ⟨b, off, none⟩) cp cv L v m0 m1 false w' (HR.out _ hb) (HV.out.below hb) HCP.out HN.out hvl)
                    rw [HVL.out] at GU
                    have hl8 := hide (vd_of HC.out).len.2
                    obtain ⟨i0, hi0, hz0, hz1, hz2⟩ := info_parts info3
                    obtain ⟨z, hz⟩ : ∃ z, z = nAt v k := ⟨_, rfl⟩
                    rw [← hz] at z0 z1 Y
                    have HZ := hide hz
                    clear hz hv
                    go_enter Try.func17, Try.ntmps17
                    go_upto_region 1 with fail
                    rw [← hg, ← hW0]
                    clear hg hW0
                    go_wp2_with fail
                    refine (AWK.out _).mono ?_
                    rintro e w1 ⟨rfl, hb⟩
                    replace K := hide (btrans K.out hb)
                    replace X := hide (X.out.below hb)
                    clear hb
                    go_wp2_with fail
                    refine (rcheck_any A cp L _ (HR.out _ K.out) HN.out).mono ?_
                    rintro e w2 ⟨rfl, hb⟩
                    replace K := hide (btrans K.out hb)
                    replace X := hide (X.out.below hb)
                    clear hb
                    rw [HC.out]
                    have x0 := X.out.cell 0
                    have x1 := X.out.cell 1
                    have x2 := X.out.cell 2
                    simp at x0 x1 x2
                    go_upto_region 3 with fail
                    go_quiet (fail)
                    generalize hwy : World.drewN _ _ = wy
                    have hbq : Below w2.heap.size w2 wy := by rw [← hwy]; exact below_drewN (brefl _) _
                    replace K := hide (btrans K.out hbq)
                    have y := Y.out _ K.out
                    clear hwy hbq x0 x1 x2 X
                    have HRV := hide (HV.out.below (btrans K.out (bal (brefl wy) (.cells #[] 3))))
                    go_upto_region 7 with (at_builtin; refine wpList_append_own _ rfl (.tmp 74) (.tmp 75) _ rfl wy.heap.size 3 i0 _ 1 8 Try.underlying26 hi0 hz0 hz1 hz2 rfl (by omega) (.slice (some ⟨wy.heap.size, 0, none⟩) 0 0) 0 [] rfl (own_row0I wy) ⟨b, off, none⟩ L.length cv (v.map ic) rfl (by rw [List.length_map, Nat.mul_one]; exact HVL.out) (fun j u hu => bi_news HRV.out j u hu) (ic_one _) (by have := hl8.out; simp only [maxLen]; omega) (by have := hl8.out; omega) (by simp) ?_; intro v1 wz hown1 hg1 hat1; obtain ⟨A1, n1, rfl, _⟩ := row_form hown1; have HB := hide (show Below wy.heap.size wy wz from (bal (brefl wy) _).trans (below_grown (B := 0) (own_row0I wy) hg1 (by simp))); have HM := hide hown1; clear hown1 hg1 hat1)
                    rw [Nat.zero_add, List.nil_append] at HM
                    try simp only [Nat.zero_add]
                    have hL0 : L.length ≠ 0 := by omega
                    obtain ⟨q, hA1, hq, hqB, hcell, _⟩ := row_cell HM.out hL0
                    subst hA1
                    have c0 : wz.cell? ⟨q, k, none⟩ = some (.int .i64 z) := hcell k _ (by rw [List.getElem?_map, HZ.out]; unfold nAt; rw [List.getD_eq_getElem?_getD, List.getElem?_eq_getElem hk]; rfl)
                    have HN2 := hide (row_set HM.out k (.int .i64 (z + 1)))
                    have ew : IntKind.i64.wrap (z + 1) = z + 1 := IntWalk.i64_in _ (by omega)
                    have KS := hide (bset (btrans K.out HB.out) (p := ⟨q, k, none⟩) (show W.heap.size ≤ q by have := K.out.size; omega) (.int .i64 (z + 1)))
                    clear hcell HM
                    go_upto_region 8 with fail
                    obtain ⟨w8, hw8⟩ : ∃ w8, w8 = wz.setCell ⟨q, k, none⟩ (.int .i64 (z + 1)) := ⟨_, rfl⟩
                    rw [← hw8] at KS HN2 ⊢
                    have O2 : OwI wy.heap.size w8 (.slice (some ⟨q, 0, none⟩) (v.set k (z + 1)).length n1) (v.set k (z + 1)) := by
                      unfold OwI
                      rw [List.length_set, HVL.out, set_ic]
                      exact HN2.out
                    have GN := hide (fun w' (hb : Below w8.heap.size w8 w') => guard_any A (some ⟨q, 0, none⟩) cp n1 L (v.set k (z + 1)) m0 m1 false w' (HR.out _ (btrans KS.out hb)) ((OwI.bi O2).below hb) HCP.out HN.out (by rw [List.length_set]; exact hvl))
                    rw [List.length_set, HVL.out] at GN
                    rw [← HZ.out] at GV
                    clear O2 HN2 hw8 HB y HRV c0
                    cases hgg : gR L v m0 m1 false with
                    | false =>
                      rw [hgg] at GU
                      clear GN GV hgg
                      go_wp2_with fail
                      refine (GU.out _ KS.out).mono ?_
                      rintro e w9 ⟨rfl, hb⟩
                      replace KS := hide (btrans KS.out hb)
                      clear hb GU
                      go_wp2
                      go_ret
                      exact ⟨rfl, KS.out⟩
                    | true =>
                      rw [hgg] at GU
                      rw [GV.out hgg] at GN
                      clear GV hgg
                      go_wp2_with fail
                      refine (GU.out _ KS.out).mono ?_
                      rintro e w9 ⟨rfl, hb⟩
                      replace KS := hide (btrans KS.out hb)
                      clear GU
                      go_wp2_with fail
                      refine (GN.out _ hb).mono ?_
                      rintro e w10 ⟨rfl, hb⟩
                      replace KS := hide (btrans KS.out hb)
                      clear hb GN
                      go_wp2
                      go_ret
                      exact ⟨rfl, KS.out⟩
    · have HVL := hide hvl1
      have de1 : ((v.length : Int) == (L.length : Int)) = false := by simp; omega
      have de2 : (v.length == L.length) = false := by simp; omega
      clear hc h hvl1 hv
      go_enter Try.func17, Try.ntmps17
      go_upto_region 1 with fail
      rw [← hg, ← hW0]
      clear hg hW0
      go_wp2_with fail
      refine (AWK.out _).mono ?_
      rintro e w1 ⟨rfl, hb⟩
      replace K := hide (btrans K.out hb)
      replace X := hide (X.out.below hb)
      clear hb
      go_wp2_with fail
      refine (rcheck_any A cp L _ (HR.out _ K.out) HN.out).mono ?_
      rintro e w2 ⟨rfl, hb⟩
      replace K := hide (btrans K.out hb)
      replace X := hide (X.out.below hb)
      clear hb
      rw [HC.out]
      go_wp2_with fail
      refine (AWK.out _).mono ?_
      rintro e w3 ⟨rfl, hb⟩
      replace K := hide (btrans K.out hb)
      clear hb
      go_wp2
      go_ret
      exact ⟨rfl, K.out⟩
  · have de : (chE L != 0) = true := by simpa using hc
    have de3 : (chE L == 0) = false := by simpa using hc
    have de4 : ¬ chE L = 0 := hc
    have de5 : decide (chE L = 0) = false := decide_eq_false hc
    clear hc h hv
    go_enter Try.func17, Try.ntmps17
    go_upto_region 1 with fail
    rw [← hg, ← hW0]
    clear hg hW0
    go_wp2_with fail
    refine (AWK.out _).mono ?_
    rintro e w1 ⟨rfl, hb⟩
    replace K := hide (btrans K.out hb)
    replace X := hide (X.out.below hb)
    clear hb
    go_wp2_with fail
    refine (rcheck_any A cp L _ (HR.out _ K.out) HN.out).mono ?_
    rintro e w2 ⟨rfl, hb⟩
    replace K := hide (btrans K.out hb)
    replace X := hide (X.out.below hb)
    clear hb
    generalize chE L = ce at *
    go_wp2_with fail
    refine (AWK.out _).mono ?_
    rintro e w3 ⟨rfl, hb⟩
    replace K := hide (btrans K.out hb)
    clear hb
    go_wp2
    go_ret
    exact ⟨rfl, K.out⟩
end Go.Proofs.Ytclkflnonckajaa.Ac
