import Derived.Test.YtclkflnonckajaaQ1
namespace Go.Proofs.Ytclkflnonckajaa.Ac
open Go Go.RowKit
set_option linter.unusedVariables false
set_option linter.unusedSimpArgs false
/-- what Effective answers -/
def EfR (l : Is) (er : Int) (w : World) (e : Ending) (w' : World) : Prop := ∃ A c, e = .returned (.tuple #[.slice A l.length c, .int .i64 er]) ∧ Bi w' A l ∧ Below w.heap.size w w'
theorem eR_ok {L : List A5} (h : chE L = 0) : eR L = rl L.length (ef L) := if_pos h
theorem eR_no {L : List A5} (h : chE L ≠ 0) : eR L = [] := if_neg h
theorem own_row1 (w : World) (z : Int) : OwI w.heap.size (w.alloc (.cells #[.int .i64 z] 3)) (.slice (some ⟨w.heap.size, 0, none⟩) 1 1) [z] :=
  ⟨rfl, .inr ⟨w.heap.size, 1, #[.int .i64 z], rfl, Nat.le_refl _, Box.new w 3 #[.int .i64 z], Nat.le_refl _, by decide, rfl, rfl⟩⟩
theorem rl_snoc (n : Nat) (c : Nat → Int) : rl (n + 1) c = rl n c ++ [c n] := by unfold rl; rw [List.range_succ, List.map_append]; rfl
theorem rl_one (c : Nat → Int) : rl 1 c = [c 0] := rfl
set_option maxRecDepth 100000 in
set_option maxHeartbeats 8000000 in
theorem eff_any (A : Option Addr) (cp : Nat) (L : List A5) (w : World) (hr : As w A L) (hcp : L.length ≤ cp) (hn : L.length ≤ 9223372036854775807) :
    Calls Try.prog 39 #[.slice A L.length cp] w (EfR (eR L) (chE L) w) := by
  obtain ⟨i0, hi0, hz0, hz1, hz2⟩ := info_parts info3
  unfold EfR
  have CH := hide (check_any A cp L w hr hcp hn)
  by_cases h : chE L = 0
  · have V := hide (vd_of h)
    have HR := hide hr
    have HE := hide h
    have CS := hide (fun w' (hb : Below w.heap.size w w') => csclm_any A cp L w' (hr.below hb) V.out hcp)
    unfold RIR at CS
    rw [h] at CH
    have hl8 := V.out.len.2
    obtain ⟨b0, off0, hA, hbl0, z0, z1, z2, z3, z4⟩ := hr.cells (brefl w) (show 0 < L.length from V.out.len.1)
    rw [Nat.zero_mul, Nat.add_zero] at z1
    have Z1 := hide (show ∀ w', Below w.heap.size w w' → w'.cell? ⟨b0, off0 + 1, none⟩ = some (.int .i64 (us L 0)) from fun w' h => (h.cell (p := ⟨b0, off0 + 1, none⟩) hbl0).trans z1)
    subst hA
    obtain ⟨n, hnn⟩ : ∃ n, L.length = n + 1 := ⟨L.length - 1, by have := V.out.len.1; omega⟩
    rw [hnn] at hcp hl8 CS CH ⊢
    have HN := hide hnn
    rw [eR_ok h]
    clear hnn hr h z0 z1 z2 z3 z4 hn
    have key : ∀ c, c = cp → Calls Try.prog 39 #[.slice (some ⟨b0, off0, none⟩) (n + 1) cp] w fun e w' => ∃ A c, e = .returned (.tuple #[.slice A (rl L.length (ef L)).length c, .int .i64 (chE L)]) ∧ Bi w' A (rl L.length (ef L)) ∧ Below w.heap.size w w' := by
      intro c hc
      clear hc c
      go_enter Try.func39, Try.ntmps39
      go_wp2_with fail
      refine CH.out.mono ?_
      rintro e w0 ⟨rfl, hb⟩
      have K := hide hb
      clear hb CH
      go_wp2_with fail
      refine (CS.out _ K.out).mono ?_
      rintro e w1 ⟨g, rfl, hS, hg, hb⟩
      have K0 := hide (btrans K.out hb)
      have S := hide hS
      have z1 := Z1.out _ K0.out
      clear hb hS hg CS K
      have M := bal (brefl w1) (.cells #[.int .i64 (us L 0)] 3)
      obtain ⟨B1, hB1⟩ : ∃ B1, B1 = w1.heap.size := ⟨_, rfl⟩
      have HB1 := hide hB1
      have O := hide (show OwI B1 (w1.alloc (.cells #[.int .i64 (us L 0)] 3)) (.slice (some ⟨w1.heap.size, 0, none⟩) 1 1) (rl (0 + 1) (ef L)) by rw [show rl (0 + 1) (ef L) = [us L 0] by rw [rl_one, ef_0], hB1]; exact own_row1 w1 (us L 0))
      have K1 := hide (show Below B1 w1 (w1.alloc (.cells #[.int .i64 (us L 0)] 3)) by rw [hB1]; exact M)
      have K1b := fun {wr} (h : Below B1 w1 wr) => (by rw [hB1] at h; exact h : Below w1.heap.size w1 wr)
      clear hB1 M
      have eg : ∀ args w, (callFunc 72 args).run Try.prog w = .ok (.enter 72 args) w := Go.Proofs.enters_of Try.func72 (by kernel_rfl) rfl
      go_upto_region 7 with fail
      generalize w1.alloc (.cells #[.int .i64 (us L 0)] 3) = w1' at *
      by_cases hc1 : cp = 1
      · have E := hide (show rl L.length (ef L) = [us L 0] by rw [HN.out, show n = 0 by omega, ← ef_0]; rfl)
        rw [rl_one, ef_0] at O
        obtain rfl : n = 0 := by omega
        subst hc1
        go_wp2
        refine wp_loop_rounds 1 ?_
        rw [rounds_succ]
        go_wp2
        go_ret2
        exact ⟨_, _, ret_si (by rw [E.out]; rfl) HE.out.symm, by rw [E.out]; exact OwI.bi O.out, btrans K0.out (K1b K1.out)⟩
      · obtain ⟨d, hd⟩ : ∃ d, cp = d + 2 := ⟨cp - 2, by omega⟩
        subst hd
        clear hc1
        go_wp2
        go_loopw [7, 29] (fun o c wr => ∃ k : Nat, k ≤ n ∧ c = .int .i64 k ∧ Hid (OwI B1 wr o (rl (k + 1) (ef L))) ∧ Hid (Below B1 w1 wr)) (fun _ c _ => n - (intOf c).toNat)
        case atStart => exact ⟨0, Nat.zero_le _, rfl, O, K1⟩
        case round =>
          clear O K1
          obtain ⟨k, hk, rfl, O, K1⟩ := hrel
          obtain ⟨A1, cap1, ev, hcp1⟩ := row_form O.out
          subst ev
          clear hcp1
          by_cases hlt : k < n
          · have hl2 : (k : Int) < (n : Int) := by omega
            have hk0 : (0 : Int) ≤ (k : Int) := by omega
            have hkn : k + 1 < L.length := by rw [HN.out]; omega
            have HK7 := hide (show k ≤ 8 by omega)
            have KW := hide (btrans K0.out (K1b K1.out))
            obtain ⟨b, off, eA, hbl, y0, y1, y2, y3, y4⟩ := HR.out.cells KW.out hkn
            injection eA with eA
            injection eA with e1 e2
            subst e1 e2
            have ea : off0 + (k + 1) * 5 = off0 + 5 + k * 5 := by omega
            rw [ea] at y0 y1 y2 y3 y4
            clear ea
            have hp0 := V.out.tr.2 (k + 1) hkn (by omega)
            obtain ⟨p, hp⟩ : ∃ p : Nat, pa L (k + 1) = (p : Int) := ⟨(pa L (k + 1)).toNat, by omega⟩
            have hpk : p < k + 1 := by omega
            have hpk2 : (p : Int) < (k : Int) + 1 := by omega
            have hpn : p < n + 1 := by omega
            have hpn2 : (p : Int) < (n : Int) + 1 := by omega
            have hp00 : (0 : Int) ≤ (p : Int) := by omega
            have FE := hide (ef_k V.out.tr V.out.len.2 hkn (by omega))
            rw [hp, Int.toNat_natCast] at FE
            have cb := cl_in V.out hkn
            have sb := cs_in V.out (p : Int)
            have eb := ef_in V.out L.length (Nat.le_refl _) p (by omega)
            have ub := (V.out.rg p (by omega)).1.1
            unfold inr at ub
            have eb1 : 0 ≤ ef L p := eb.1
            have eb2 : ef L p ≤ 1048576 := by omega
            obtain ⟨cb1, _, _, cb2⟩ := cb
            obtain ⟨sb1, sb2⟩ := sb
            have CL := hide (fun w => clm_any (aAt L (k + 1)) w)
            have EF := hide (show cl L (k + 1) = min (aAt L (k + 1)).mn (aAt L (k + 1)).us from rfl)
            rw [← EF.out] at CL
            rw [hp] at y0
            unfold acV at CL
            have ep : (aAt L (k + 1)).pa = (p : Int) := hp
            rw [ep] at CL
            unfold us at y1; unfold mn at y2; unfold lo at y3; unfold mx at y4
            have c0 : ∀ w', Below wr.heap.size wr w' → w'.cell? ⟨g, p, none⟩ = some (.int .i64 (cs L (p : Int))) := fun w' h => (by have := (S.out.below (btrans (K1b K1.out) h)).cell hpn; unfold cs; rw [HN.out]; exact this)
            have C0 := hide c0
            obtain ⟨b1, o1, eA1, hb1, _⟩ := (OwI.bi (l := rl (k + 1) (ef L)) (c := cap1) O.out).cells (brefl wr) (show p < (rl (k + 1) (ef L)).length by rw [rl_len]; exact hpk)
            have c1 : ∀ w', Below wr.heap.size wr w' → w'.cell? ⟨b1, o1 + p, none⟩ = some (.int .i64 (ef L p)) := fun w' h => by
              obtain ⟨b2, o2, e2, _, hz⟩ := (OwI.bi (l := rl (k + 1) (ef L)) (c := cap1) O.out).cells h (show p < (rl (k + 1) (ef L)).length by rw [rl_len]; exact hpk)
              rw [eA1] at e2
              injection e2 with e2
              injection e2 with e3 e4
              subst e3 e4
              rwa [rl_at hpk] at hz
            have C1 := hide c1
            subst eA1
            generalize (aAt L (k + 1)).us = u at *
            generalize (aAt L (k + 1)).mn = m' at *
            generalize (aAt L (k + 1)).lo = l' at *
            generalize (aAt L (k + 1)).mx = x' at *
            clear hp ep EF c0 c1 hp0 eb ub KW
            have SNO := hide (rl_snoc (k + 1) (ef L))
            generalize hfe : ef L (k + 1) = fe at *
            clear hfe
            generalize cl L (k + 1) = c at *
            generalize cs L (p : Int) = s at *
            generalize ef L p = gg at *
            have M := bal (brefl wr) (.cells #[.int .i64 (p : Int), .int .i64 u, .int .i64 m', .int .i64 l', .int .i64 x'] 42)
            have X := hide (Box.new wr 42 #[.int .i64 (p : Int), .int .i64 u, .int .i64 m', .int .i64 l', .int .i64 x'])
            have KR := hide M
            clear M
            rw [rl_len]
            go_upto_region 10 with fail
            obtain ⟨q, hq⟩ : ∃ q, q = wr.heap.size := ⟨_, rfl⟩
            rw [← hq] at X ⊢
            generalize wr.alloc (.cells #[.int .i64 (p : Int), .int .i64 u, .int .i64 m', .int .i64 l', .int .i64 x'] 42) = wx at *
            clear hq y0 y1 y2 y3 y4
            have x0 := X.out.cell 0
            have x1 := X.out.cell 1
            have x2 := X.out.cell 2
            have x3 := X.out.cell 3
            have x4 := X.out.cell 4
            simp at x0 x1 x2 x3 x4
            go_wp2_with fail
            refine (CL.out _).mono ?_
            rintro e wc ⟨rfl, hb⟩
            replace KR := hide (btrans KR.out hb)
            replace X := hide (X.out.below hb)
            clear hb CL x0 x1 x2 x3 x4
            have x0 := X.out.cell 0
            simp at x0
            have c0 := C0.out _ KR.out
            have c1 := C1.out _ KR.out
            clear C0 C1
            go_upto_region 11 with fail
            go_quiet (fail)
            generalize hwy : World.drewN wc _ = wy
            have hbq : Below wc.heap.size wc wy := by rw [← hwy]; exact below_drewN (brefl _) _
            replace KR := hide (btrans KR.out hbq)
            clear hwy hbq x0 c0 c1 X
            replace O := hide (row_below O.out KR.out)
            replace K1 := hide (K1.out.trans (KR.out.mono (by have := K1.out.size; rw [HB1.out]; exact (HB1.out ▸ this))))
            clear KR
            obtain ⟨PP, hPP⟩ : ∃ PP, PP = rl (k + 1) (ef L) := ⟨_, rfl⟩
            have LPP := hide (show PP.length = k + 1 by rw [hPP]; exact rl_len _ _)
            rw [← hPP] at O SNO
            have HPP := hide hPP
            clear hPP
            by_cases hc : gg < s
            · have FE2 := hide (FE.out.trans (if_pos hc))
              have pm1 : 0 ≤ c * gg := Int.mul_nonneg cb1 eb1
              have pm2 : c * gg ≤ 1099511627776 := by
                have h1 : c * gg ≤ c * 1048576 := Int.mul_le_mul_of_nonneg_left eb2 cb1
                omega
              have sp : 0 < s := by omega
              clear FE
              go_upto_region 14 with fail
              obtain ⟨ve, hve⟩ : ∃ ve, ve = c * gg / s := ⟨_, rfl⟩
              rw [← hve] at FE2 ⊢
              clear hve pm1 pm2
              have EH2 := hide (show PP ++ [ve] = rl (k + 1 + 1) (ef L) by rw [SNO.out, FE2.out])
              obtain ⟨P2, hP2⟩ : ∃ P2, P2 = PP ++ [ve] := ⟨_, rfl⟩
              have EH := hide hP2
              rw [← hP2] at EH2
              clear hP2 FE2 SNO
              rw [← LPP.out]
              have M := bal (brefl wy) (.cells #[.int .i64 ve] 3)
              have OA := hide (row_below O.out M)
              have NB := hide (cell_one_new wy (.int .i64 ve) 3)
              have SA0 : B1 ≤ wy.heap.size := by have := K1.out.size; rw [HB1.out]; exact (HB1.out ▸ this)
              have SA := hide (show B1 ≤ (wy.alloc (.cells #[.int .i64 ve] 3)).heap.size by rw [alloc_size']; omega)
              have KA := hide (K1.out.trans (M.mono SA0))
              clear M O K1 SA0
              obtain ⟨l1, hl1⟩ : ∃ l1, l1 = PP := ⟨_, rfl⟩
              obtain ⟨m1, hm1⟩ : ∃ m1, m1 = l1.length := ⟨_, rfl⟩
              have hfl : m1 ≤ 1000 := by rw [hm1, hl1]; exact by have := HK7.out; have := LPP.out; omega
              rw [← hl1, ← hm1] at OA
              rw [← hl1] at EH
              rw [← hl1, ← hm1]
              have HLM := hide hm1
              clear hl1 hm1
              go_upto_region 15 with (at_builtin; refine wpList_append_own_at _ rfl (.tmp 54) (.tmp 56) 26 rfl B1 3 i0 _ 1 8 Try.underlying26 hi0 hz0 hz1 hz2 rfl (by omega) (.slice (some ⟨b1, o1, none⟩) m1 cap1) m1 (l1.map ic) rfl OA.out ⟨wy.heap.size, 0, none⟩ 1 1 [.int .i64 ve] rfl rfl NB.out (by intro u hu; rw [List.mem_singleton.1 hu]; rfl) (by simp only [maxLen]; omega) (by omega) SA.out ?_; intro v4 w4 hown4 hg4 _ hat4; obtain ⟨A4, cp4, ev4, _⟩ := row_form hown4; subst ev4)
              have e3 : (P2).length = m1 + 1 := by rw [EH.out, List.length_append, ← HLM.out]; rfl
              have O := hide (show OwI B1 w4 (.slice A4 (m1 + 1) cp4) (P2) by
                unfold OwI
                rw [e3, EH.out, List.map_append]
                exact hown4)
              have B4 := below_grown (B := 0) OA.out hg4 SA.out
              have K := hide (KA.out.trans B4)
              rw [← e3] at O ⊢
              clear B4 hown4 hg4 hat4 OA NB SA KA e3 hfl HLM
              clear EH
              go_wp2
              go_roundw
              case rel => exact ⟨k + 1, by omega, by go_num, by rw [← EH2.out]; exact O, K⟩
              case measure => simp [intOf]; omega
            · have FE2 := hide (FE.out.trans (if_neg hc))
              clear FE
              go_upto_region 14 with fail
              obtain ⟨ve, hve⟩ : ∃ ve, ve = c := ⟨_, rfl⟩
              rw [← hve] at FE2 ⊢
              clear hve
              have EH2 := hide (show PP ++ [ve] = rl (k + 1 + 1) (ef L) by rw [SNO.out, FE2.out])
              obtain ⟨P2, hP2⟩ : ∃ P2, P2 = PP ++ [ve] := ⟨_, rfl⟩
              have EH := hide hP2
              rw [← hP2] at EH2
              clear hP2 FE2 SNO
              rw [← LPP.out]
              have M := bal (brefl wy) (.cells #[.int .i64 ve] 3)
              have OA := hide (row_below O.out M)
              have NB := hide (cell_one_new wy (.int .i64 ve) 3)
              have SA0 : B1 ≤ wy.heap.size := by have := K1.out.size; rw [HB1.out]; exact (HB1.out ▸ this)
              have SA := hide (show B1 ≤ (wy.alloc (.cells #[.int .i64 ve] 3)).heap.size by rw [alloc_size']; omega)
              have KA := hide (K1.out.trans (M.mono SA0))
              clear M O K1 SA0
              obtain ⟨l1, hl1⟩ : ∃ l1, l1 = PP := ⟨_, rfl⟩
              obtain ⟨m1, hm1⟩ : ∃ m1, m1 = l1.length := ⟨_, rfl⟩
              have hfl : m1 ≤ 1000 := by rw [hm1, hl1]; exact by have := HK7.out; have := LPP.out; omega
              rw [← hl1, ← hm1] at OA
              rw [← hl1] at EH
              rw [← hl1, ← hm1]
              have HLM := hide hm1
              clear hl1 hm1
              go_upto_region 15 with (at_builtin; refine wpList_append_own_at _ rfl (.tmp 54) (.tmp 56) 26 rfl B1 3 i0 _ 1 8 Try.underlying26 hi0 hz0 hz1 hz2 rfl (by omega) (.slice (some ⟨b1, o1, none⟩) m1 cap1) m1 (l1.map ic) rfl OA.out ⟨wy.heap.size, 0, none⟩ 1 1 [.int .i64 ve] rfl rfl NB.out (by intro u hu; rw [List.mem_singleton.1 hu]; rfl) (by simp only [maxLen]; omega) (by omega) SA.out ?_; intro v4 w4 hown4 hg4 _ hat4; obtain ⟨A4, cp4, ev4, _⟩ := row_form hown4; subst ev4)
              have e3 : (P2).length = m1 + 1 := by rw [EH.out, List.length_append, ← HLM.out]; rfl
              have O := hide (show OwI B1 w4 (.slice A4 (m1 + 1) cp4) (P2) by
                unfold OwI
                rw [e3, EH.out, List.map_append]
                exact hown4)
              have B4 := below_grown (B := 0) OA.out hg4 SA.out
              have K := hide (KA.out.trans B4)
              rw [← e3] at O ⊢
              clear B4 hown4 hg4 hat4 OA NB SA KA e3 hfl HLM
              clear EH
              go_wp2
              go_roundw
              case rel => exact ⟨k + 1, by omega, by go_num, by rw [← EH2.out]; exact O, K⟩
              case measure => simp [intOf]; omega
          · obtain rfl : k = n := by omega
            have E := hide (show rl L.length (ef L) = rl (k + 1) (ef L) by rw [HN.out])
            rw [rl_len] at O ⊢
            go_wp2
            go_ret2
            exact ⟨A1, cap1, ret_si (by rw [E.out, rl_len]) HE.out.symm, by rw [E.out]; exact OwI.bi (by rw [rl_len]; exact O.out), btrans K0.out (K1b K1.out)⟩
    exact key cp rfl
  · have E := hide (eR_no h)
    have de : (chE L != 0) = true := by simpa using h
    clear h hr
    generalize chE L = ce at *
    go_enter Try.func39, Try.ntmps39
    go_wp2_with fail
    refine CH.out.mono ?_
    rintro e w0 ⟨rfl, hb⟩
    have K := hide hb
    clear hb CH
    go_wp2
    go_ret2
    exact ⟨none, 0, ret_si (by rw [E.out]; rfl) rfl, by rw [E.out]; exact Bi.nil _ _, K.out⟩
end Go.Proofs.Ytclkflnonckajaa.Ac
