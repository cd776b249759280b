import Derived.Test.YtncjicggolmofaaW2
namespace Go.Proofs.Ytncjicggolmofaa.Sb
open Go Go.RowKit
set_option linter.unusedVariables false
set_option linter.unusedSimpArgs false
set_option maxRecDepth 100000 in
set_option maxHeartbeats 16000000 in
theorem rfree_any (A : Option Addr) (cp : Nat) (S : Sc) (ob : Int) (w : World) (hr : RdC w A S.sl) (hn : S.sl.length ≤ 1000) (hln : ∀ k, k < S.sl.length → (us S k).length ≤ 1000) (ho1 : -9223372036854775808 ≤ ob) (ho2 : ob ≤ 9223372036854775807) : Calls Try.prog 29 #[.agg #[.int .i64 S.ob, .slice A S.sl.length cp], .int .i64 ob] w fun e w' => ∃ v, e = .returned (.tuple #[.agg #[.int .i64 (fO S ob), v], .int .i64 (fF S ob), .int .i64 (fE S ob)]) ∧ OwnC w.heap.size w' v (fL S ob) ∧ Below w.heap.size w w' := by
  have HR := hide (fun w' (h : Below w.heap.size w w') => hr.below h)
  have K := hide (bal (bal (brefl w) (.cells #[.int .i64 S.ob, .slice A S.sl.length cp] 24)) (.cells #[.int .i64 0, .slice none 0 0] 24))
  have CK := hide (fun w' (h : Below w.heap.size w w') => rcheck_any A cp S w' (hr.below h) (by omega) (fun k hk => by have := hln k hk; omega))
  have X := hide ((Box.new w 24 #[.int .i64 S.ob, .slice A S.sl.length cp]).below (bal (brefl _) (.cells #[.int .i64 0, .slice none 0 0] 24)))
  have Y := hide (Box.new (w.alloc (.cells #[.int .i64 S.ob, .slice A S.sl.length cp] 24)) 24 #[.int .i64 0, .slice none 0 0])
  obtain ⟨g2, hg2⟩ : ∃ g, g = w.heap.size := ⟨_, rfl⟩
  obtain ⟨g4, hg4⟩ : ∃ g, g = (w.alloc (.cells #[.int .i64 S.ob, .slice A S.sl.length cp] 24)).heap.size := ⟨_, rfl⟩
  have hg5 : g4 = g2 + 1 := by rw [hg4, hg2, alloc_size']
  have HG2 := hide hg2
  have HG4 := hide hg5
  rw [← hg2] at X
  rw [← hg4] at Y
  clear hg2 hg4 hg5 hr
  by_cases h0 : chE S = 0
  rotate_left 1
  · have E := hide (show fE S ob = chE S from if_neg h0)
    have EN := hide (fE_no (show fE S ob ≠ 0 by rw [E.out]; exact h0))
    rw [EN.out.1, EN.out.2.1, EN.out.2.2, E.out]
    have h2 : (chE S != 0) = true := bne_iff_ne.2 h0
    clear E EN h0
    generalize chE S = ce at *
    go_enter Try.func29, Try.ntmps29
    go_upto_region 1 with fail
    rw [← HG2.out, ← HG4.out]
    generalize (w.alloc (.cells #[.int .i64 S.ob, .slice A S.sl.length cp] 24)).alloc (.cells #[.int .i64 0, .slice none 0 0] 24) = w1 at *
    obtain ⟨x0, x1⟩ : w1.cell? ⟨g2, 0, none⟩ = some (.int .i64 S.ob) ∧ w1.cell? ⟨g2, 1, none⟩ = some (.slice A S.sl.length cp) := ⟨X.out.cell 0, X.out.cell 1⟩
    go_wp2_with fail
    refine (CK.out _ K.out).mono ?_
    rintro e w2 ⟨rfl, hb⟩
    replace K := hide (btrans K.out hb)
    replace Y := hide (Y.out.below hb)
    clear hb x0 x1
    have y0 : w2.cell? ⟨g4, 0, none⟩ = some (.int .i64 0) := Y.out.cell 0
    have y1 : w2.cell? ⟨g4, 1, none⟩ = some (.slice none 0 0) := Y.out.cell 1
    have yf0 := Y.out.frozen 0
    have yf1 := Y.out.frozen 1
    go_wp2
    have E1 := (Y.out.put 0 (.int .i64 0)).put 1 (.slice none 0 0)
    refine ret_s3 (v := .slice none 0 0) (g := g4) (k := 4) (o := 0) (er := 0) (er2 := ce) (m := 5) (m2 := 6) rfl rfl rfl rfl rfl E1 ?_
    refine ⟨_, rfl, ?_, ?_⟩
    · exact OwnC.nil _ _
    · exact bset (bset K.out (by show w.heap.size ≤ g4; have h1 := HG2.out; have h2 := HG4.out; omega) _) (by show w.heap.size ≤ g4; have h1 := HG2.out; have h2 := HG4.out; omega) _
  rw [h0] at CK
  have V := hide (vd_of h0)
  have LI := hide (fun w' (h : Below w.heap.size w w') => list_any A cp S true w' (HR.out w' h) V.out.wf)
  have OW := hide (fun w' (h : Below w.heap.size w w') => own_any A cp S w' (HR.out w' h) hn hln)
  have UI := hide (uf_iff V.out ob)
  have LL := hide (show (ls S true S.sl.length).length ≤ 8192 from by have := ls_len V.out.wf true _ (Nat.le_refl S.sl.length); have := V.out.wf.len; omega)
  have HF0 := hide (show ¬ uf S ob = true → fE S ob = 6 from fun h => by unfold fE; rw [if_pos h0, if_neg h])
  have HF1 := hide (show uf S ob = true → fE S ob = 0 from fun h => by unfold fE; rw [if_pos h0, if_pos h])
  clear h0
  go_enter Try.func29, Try.ntmps29
  go_upto_region 1 with fail
  rw [← HG2.out, ← HG4.out]
  generalize (w.alloc (.cells #[.int .i64 S.ob, .slice A S.sl.length cp] 24)).alloc (.cells #[.int .i64 0, .slice none 0 0] 24) = w1 at *
  obtain ⟨x0, x1⟩ : w1.cell? ⟨g2, 0, none⟩ = some (.int .i64 S.ob) ∧ w1.cell? ⟨g2, 1, none⟩ = some (.slice A S.sl.length cp) := ⟨X.out.cell 0, X.out.cell 1⟩
  go_wp2_with fail
  refine (CK.out _ K.out).mono ?_
  rintro e w2 ⟨rfl, hb⟩
  replace K := hide (btrans K.out hb)
  replace Y := hide (Y.out.below hb)
  replace X := hide (X.out.below hb)
  clear hb x0 x1 CK
  obtain ⟨x0, x1⟩ : w2.cell? ⟨g2, 0, none⟩ = some (.int .i64 S.ob) ∧ w2.cell? ⟨g2, 1, none⟩ = some (.slice A S.sl.length cp) := ⟨X.out.cell 0, X.out.cell 1⟩
  go_wp2_with fail
  refine (LI.out _ K.out).mono ?_
  rintro e w3 ⟨⟨Al, cl, rfl, ho⟩, hb⟩
  have BL := hide (OwI.bi ho)
  replace K := hide (btrans K.out hb)
  replace Y := hide (Y.out.below hb)
  replace X := hide (X.out.below hb)
  clear hb x0 x1 LI ho
  obtain ⟨l, hl⟩ : ∃ l, l = ls S true S.sl.length := ⟨_, rfl⟩
  rw [← hl] at BL UI LL ⊢
  clear hl
  have hl9 := LL.out
  go_upto_region 7 with fail
  go_loopw [9, 10] (fun fd i wr => ∃ k : Nat, k ≤ l.length ∧ fd = .bool (decide (ob ∈ l.take k)) ∧ i = .int .i64 k ∧ w3 = wr) (fun _ i _ => l.length - (intOf i).toNat)
  case atStart => exact ⟨0, Nat.zero_le _, by simp, rfl, rfl⟩
  case round =>
    obtain ⟨k, hk, rfl, rfl, rfl⟩ := hrel
    by_cases hlt : k < l.length
    · have hl2 : (k : Int) < (l.length : Int) := by omega
      have hk0 : (0 : Int) ≤ (k : Int) := by omega
      have TS := take_snocI hlt
      by_cases hm : ob ∈ l.take k
      · have hm1 : decide (ob ∈ l.take k) = true := decide_eq_true hm
        have hm2 : decide (ob ∈ l.take (k + 1)) = true := decide_eq_true (by rw [TS]; exact List.mem_append.2 (.inl hm))
        have HM2 := hide hm2
        rw [hm1]
        clear hm hm1 hm2 TS
        go_wp2
        go_roundw
        case rel => first | exact ⟨k + 1, by omega, by rw [HM2.out], by go_num, trivial⟩ | exact ⟨k + 1, by omega, by rw [HM2.out], by go_num, rfl⟩ | exact ⟨k + 1, by omega, by rw [HM2.out], by omega, rfl⟩ | exact ⟨k + 1, by omega, HM2.out.symm, by omega⟩
        case measure => simp [intOf]; omega
      · have hm1 : decide (ob ∈ l.take k) = false := decide_eq_false hm
        obtain ⟨b, off, eA, hbl, y0⟩ := BL.out.cells (brefl _) hlt
        subst eA
        have HM2 := hide (show decide (ob ∈ l.take (k + 1)) = (l.getD k 0 == ob) from by
          rw [TS]
          by_cases e : l.getD k 0 = ob
          · rw [e]; simp
          · rw [decide_eq_false (by rw [List.mem_append]; rintro (h | h); exact hm h; exact e (List.mem_singleton.1 h).symm)]
            exact (beq_eq_false_iff_ne.2 e).symm)
        rw [hm1]
        generalize l.getD k 0 = y at *
        clear hm hm1 TS
        go_wp2
        go_roundw
        case rel => first | exact ⟨k + 1, by omega, by rw [HM2.out], by go_num, trivial⟩ | exact ⟨k + 1, by omega, by rw [HM2.out], by go_num, rfl⟩ | exact ⟨k + 1, by omega, by rw [HM2.out], by omega, rfl⟩ | exact ⟨k + 1, by omega, by rw [HM2.out], by omega⟩ | exact ⟨k + 1, by omega, HM2.out.symm, by omega⟩
        case measure => simp [intOf]; omega
    · obtain rfl : k = l.length := by omega
      rw [List.take_length]
      by_cases hm : ob ∈ l
      rotate_left 1
      · rw [decide_eq_false hm]
        have E := hide (HF0.out (fun h => hm (UI.out.1 h)))
        have EN := hide (fE_no (show fE S ob ≠ 0 by rw [E.out]; decide))
        have y0 : w3.cell? ⟨g4, 0, none⟩ = some (.int .i64 0) := Y.out.cell 0
        have y1 : w3.cell? ⟨g4, 1, none⟩ = some (.slice none 0 0) := Y.out.cell 1
        have yf0 := Y.out.frozen 0
        have yf1 := Y.out.frozen 1
        clear hm
        go_wp2
        have E1 := (Y.out.put 0 (.int .i64 0)).put 1 (.slice none 0 0)
        refine ret_s3 (v := .slice none 0 0) (g := g4) (k := 4) (o := 0) (er := 0) (er2 := 6) (m := 5) (m2 := 6) rfl rfl rfl rfl rfl E1 ?_
        refine ⟨_, by rw [EN.out.2.1, EN.out.2.2, E.out], by rw [EN.out.1]; exact OwnC.nil _ _, bset (bset K.out (by show w.heap.size ≤ g4; have h1 := HG2.out; have h2 := HG4.out; omega) _) (by show w.heap.size ≤ g4; have h1 := HG2.out; have h2 := HG4.out; omega) _⟩
      rw [decide_eq_true hm]
      have UF := hide (UI.out.2 hm)
      have E := hide (HF1.out UF.out)
      clear hm HF0 HF1 UI LL BL hl9
      obtain ⟨x0, x1⟩ : w3.cell? ⟨g2, 0, none⟩ = some (.int .i64 S.ob) ∧ w3.cell? ⟨g2, 1, none⟩ = some (.slice A S.sl.length cp) := ⟨X.out.cell 0, X.out.cell 1⟩
      go_wp2_with fail
      refine (OW.out _ K.out).mono ?_
      rintro e w4 ⟨v, rfl, hD, hb⟩
      obtain ⟨Av, cv, ev, _⟩ := hD.c.form
      subst ev
      have XL := hide X.out.lt
      have YL := hide Y.out.lt
      have KW := hide K.out.size
      replace X := hide (X.out.below hb)
      replace Y := hide (Y.out.below hb)
      have KB := hide hb.size
      replace K := hide (btrans K.out hb)
      clear hb x0 x1 OW
      have M := bal (brefl w4) (.cells #[.int .i64 S.ob, .slice Av S.sl.length cv] 24)
      have Z := hide (Box.new w4 24 #[.int .i64 S.ob, .slice Av S.sl.length cv])
      have D := hide (hD.below M)
      replace X := hide (X.out.below M)
      replace Y := hide (Y.out.below M)
      replace K := hide (btrans K.out M)
      clear M hD
      go_upto_region 13 with fail
      obtain ⟨g11, hg11⟩ : ∃ q, q = w4.heap.size := ⟨_, rfl⟩
      rw [← hg11] at Z ⊢
      have HG3 := hide (show w3.heap.size ≤ g11 by have := KB.out; omega)
      clear hg11 KB
      generalize w4.alloc (.cells #[.int .i64 S.ob, .slice Av S.sl.length cv] 24) = w5 at *
      obtain ⟨u1, u2, u3⟩ := uf_ok UF.out
      obtain ⟨hlt, hfr⟩ := hit_lt u2
      have hal := fA_lt V.out hlt (o := ob)
      have hob := V.out.ob
      have hm0 : ¬ S.ob = 0 := by omega
      have hw1 : IntKind.i64.wrap (ob.tdiv S.ob) = ob / S.ob := by
        rw [IntKind.wrap_i64, Int.tdiv_eq_ediv_of_nonneg u1]
        have h1 := Int.ediv_nonneg (a := ob) (b := S.ob) u1 (by omega)
        have h2 := Int.ediv_le_self S.ob u1
        omega
      have EM : ob.tmod S.ob = ((fA S ob : Nat) : Int) := by
        rw [Int.tmod_eq_emod_of_nonneg u1]
        have h3 := Int.emod_nonneg ob (b := S.ob) (by omega)
        unfold fA
        omega
      have AT := hide (fun w' (h : RdC w' Av S.sl) => at_any Av cv S (ob / S.ob) w' h (by omega))
      rw [at_uf V.out UF.out] at AT
      have hci1 : ((fI S ob : Nat) : Int) < (S.sl.length : Int) := by omega
      have hci0 : (0 : Int) ≤ ((fI S ob : Nat) : Int) := by omega
      have hai1 : ((fA S ob : Nat) : Int) < ((us S (fI S ob)).length : Int) := by omega
      have hai0 : (0 : Int) ≤ ((fA S ob : Nat) : Int) := by omega
      have LT := hide hlt
      have AL := hide hal
      clear u1 u2 u3 hfr hal hlt hob
      obtain ⟨fl, hfl⟩ : ∃ n, n = (us S (fI S ob)).length := ⟨_, rfl⟩
      rw [← hfl] at hai1
      have HFL := hide hfl
      obtain ⟨ci, hci⟩ : ∃ n, n = fI S ob := ⟨_, rfl⟩
      obtain ⟨ai, hai⟩ : ∃ n, n = fA S ob := ⟨_, rfl⟩
      rw [← hci] at AT hci1 hci0 HFL LT AL
      rw [← hai] at EM hai1 hai0 AL
      have HCI := hide hci
      have HAI := hide hai
      clear hci hai hfl
      have KD : Below w5.heap.size w5 w5.drew := below_drewN (brefl _) 1
      replace X := hide (X.out.below KD)
      replace Y := hide (Y.out.below KD)
      replace Z := hide (Z.out.below KD)
      replace D := hide (D.out.below KD)
      replace K := hide (btrans K.out KD)
      clear KD
      refine wp_region_noPanic ?_
      refine wp_region_held_drew (S := (fun W => (W.cell? ⟨g11, 0, none⟩ = some (.int .i64 S.ob) ∧ W.cell? ⟨g11, 1, none⟩ = some (.slice Av S.sl.length cv)) ∧ W.cell? ⟨g2, 0, none⟩ = some (.int .i64 S.ob))) (by kernel_rfl) ?_ (fun hHeld => ?_)
      · exact ⟨⟨Z.out.cell 0, Z.out.cell 1⟩, X.out.cell 0⟩
      generalize w5.drew = wd at *
      refine wpAnyH_take (i := 0) (oi := ⟨some 43, _, _, _, _, _⟩) (v := ?_) rfl (by kernel_rfl) (by kernel_rfl) (by kernel_rfl) (fun _ _ _ h => h) (Or.inl ⟨by kernel_rfl, ?_⟩) (by assumption) ?_
      rotate_left 1
      · (intro w hSw; (try dsimp only at hSw); go_simp) <;> (with_reducible rfl)
      (try simp only [Act.put, List.setIfInBounds_toArray, List.set_cons_succ, List.set_cons_zero])
      refine wpAnyH_take (i := 1) (oi := ⟨some 44, _, _, _, _, _⟩) (v := ?_) rfl (by kernel_rfl) (by kernel_rfl) (by kernel_rfl) (fun _ _ _ h => h) (Or.inl ⟨by kernel_rfl, ?_⟩) (by assumption) ?_
      rotate_left 1
      · (intro w hSw; (try dsimp only at hSw); go_simp) <;> (with_reducible rfl)
      (try simp only [Act.put, List.setIfInBounds_toArray, List.set_cons_succ, List.set_cons_zero])
      refine wpAnyH_take (i := 2) (oi := ⟨some 45, _, _, _, _, _⟩) (v := ?_) rfl (by kernel_rfl) (by kernel_rfl) (by kernel_rfl) (fun _ _ _ h => h) (Or.inl ⟨by kernel_rfl, ?_⟩) (by assumption) ?_
      rotate_left 1
      · (intro w hSw; (try dsimp only at hSw); go_simp) <;> (with_reducible rfl)
      (try simp only [Act.put, List.setIfInBounds_toArray, List.set_cons_succ, List.set_cons_zero])
      refine wpAnyH_take (i := 3) (oi := ⟨some 46, _, _, _, _, _⟩) (v := ?_) rfl (by kernel_rfl) (by kernel_rfl) (by kernel_rfl) (fun _ _ _ h => h) (Or.inl ⟨by kernel_rfl, ?_⟩) (by assumption) ?_
      rotate_left 1
      · (intro w hSw; (try dsimp only at hSw); go_simp) <;> (with_reducible rfl)
      (try simp only [Act.put, List.setIfInBounds_toArray, List.set_cons_succ, List.set_cons_zero])
      refine wpAnyH_take (i := 4) (oi := ⟨some 47, _, _, _, _, _⟩) (v := ?_) rfl (by kernel_rfl) (by kernel_rfl) (by kernel_rfl) (fun _ _ _ h => h) (Or.inl ⟨by kernel_rfl, ?_⟩) (by assumption) ?_
      rotate_left 1
      · (intro w hSw; (try dsimp only at hSw); go_simp) <;> (with_reducible rfl)
      (try simp only [Act.put, List.setIfInBounds_toArray, List.set_cons_succ, List.set_cons_zero])
      refine wpAnyH_ready (rs := [5]) (by kernel_rfl) (by simp) ?_
      refine AllReadyH.cons (o := ⟨some 48, _, _, _, _, _⟩) rfl (fun K' hK => ?_) AllReadyH.nil
      go_simp
      refine (AT.out _ D.out.c.rd).mono ?_
      rintro e w6 ⟨rfl, hb⟩
      replace K := hide (btrans K.out hb)
      replace X := hide (X.out.below hb)
      replace Y := hide (Y.out.below hb)
      replace Z := hide (Z.out.below hb)
      replace D := hide (D.out.below hb)
      clear hb
      refine hK.out _ _ ?_ (fun hHeld => ?_)
      · exact ⟨⟨Z.out.cell 0, Z.out.cell 1⟩, X.out.cell 0⟩
      clear hK K'
      (try simp only [Act.put, List.setIfInBounds_toArray, List.set_cons_succ, List.set_cons_zero])
      refine wpAnyH_take (i := 6) (oi := ⟨some 12, _, _, _, _, _⟩) (v := ?_) rfl (by kernel_rfl) (by kernel_rfl) (by kernel_rfl) (fun _ _ _ h => h) (Or.inl ⟨by kernel_rfl, ?_⟩) (by assumption) ?_
      rotate_left 1
      · (intro w hSw; (try dsimp only at hSw); go_simp) <;> (with_reducible rfl)
      (try simp only [Act.put, List.setIfInBounds_toArray, List.set_cons_succ, List.set_cons_zero])
      refine wpAnyH_done (by kernel_rfl) ?_ _
      refine NoPanic.normal ?_
      clear AT
      go_upto_region 14 with fail
      have KD : Below w6.heap.size w6 w6.drew := below_drewN (brefl _) 1
      replace X := hide (X.out.below KD)
      replace Y := hide (Y.out.below KD)
      replace Z := hide (Z.out.below KD)
      replace D := hide (D.out.below KD)
      replace K := hide (btrans K.out KD)
      clear KD hHeld
      obtain ⟨g, c, gf, cf5, ev, hBg, hgl, hBgf, hgfl, e0, e1, e2, e3, D6, hxf, hxg, B6, hcf5⟩ := D.out.flag (k := ci) (a := ai) (by exact LT.out) (by exact AL.out) false
      injection ev with ev1 _ ev2
      subst ev1 ev2
      have Z2 := hide (Z.out.far (b := gf) (i := ai) (by obtain ⟨cu, hx⟩ := hxf; exact Box.ne Z.out hx (by decide)) (.bool false))
      have X2 := hide (X.out.far (b := gf) (i := ai) (fun q => by have := XL.out; omega) (.bool false))
      have Y2 := hide (Y.out.far (b := gf) (i := ai) (fun q => by have := YL.out; omega) (.bool false))
      have K6 := hide (bset K.out (p := ⟨gf, ai, none⟩) (by show w.heap.size ≤ gf; have := KW.out; omega) (.bool false))
      have HGF := hide (show gf ≠ g from by obtain ⟨cu, hx⟩ := hxg; obtain ⟨cu2, hx2⟩ := hxf; exact Box.ne hx2 hx (by decide))
      have r0 : (w6.drew.setCell ⟨gf, ai, none⟩ (.bool false)).cell? ⟨g, ci * 2, none⟩ = some (.int .i64 (cAt S.sl ci).1) := by
        obtain ⟨cu, hx⟩ := hxg
        rw [(hx.far HGF.out.symm (.bool false)).cell, ← hx.cell]; exact e0
      have r1 : (w6.drew.setCell ⟨gf, ai, none⟩ (.bool false)).cell? ⟨g, ci * 2 + 1, none⟩ = some (.slice (some ⟨gf, 0, none⟩) (cAt S.sl ci).2.length cf5) := by
        obtain ⟨cu, hx⟩ := hxg
        rw [(hx.far HGF.out.symm (.bool false)).cell, ← hx.cell]; exact e1
      have hfl2 : (cAt S.sl ci).2.length = fl := HFL.out.symm
      rw [hfl2] at e1 r1 hcf5
      have R0 := hide r0
      have R1 := hide r1
      have E1 := hide e1
      have D6' := hide D6
      have B6' := hide B6
      have C5 := hide hcf5
      have E2 := hide (And.intro e2 e3)
      have HBG := hide hBg
      clear r0 r1 D6 B6 hcf5 hxf hxg hfl2 D e0 e1 e2 e3 hBgf hgfl hgl hBg
      refine wp_region_noPanic ?_
      refine wp_region_held_drew (S := (fun W => (W.cell? ⟨g11, 0, none⟩ = some (.int .i64 S.ob) ∧ W.cell? ⟨g11, 1, none⟩ = some (.slice (some ⟨g, 0, none⟩) S.sl.length cv)) ∧ W.cell? ⟨g2, 0, none⟩ = some (.int .i64 S.ob) ∧ W.cell? ⟨g, ci * 2 + 1, none⟩ = some (.slice (some ⟨gf, 0, none⟩) fl cf5))) (by kernel_rfl) ?_ (fun hHeld => ?_)
      · exact ⟨⟨Z.out.cell 0, Z.out.cell 1⟩, X.out.cell 0, E1.out⟩
      generalize w6.drew = wf at *
      have e2 := E2.out.1
      have e3 := E2.out.2
      refine wpAnyH_take (i := 0) (oi := ⟨some 49, _, _, _, _, _⟩) (v := ?_) rfl (by kernel_rfl) (by kernel_rfl) (by kernel_rfl) (fun _ _ _ h => h) (Or.inl ⟨by kernel_rfl, ?_⟩) (by assumption) ?_
      rotate_left 1
      · (intro w hSw; (try dsimp only at hSw); go_simp) <;> (with_reducible rfl)
      (try simp only [Act.put, List.setIfInBounds_toArray, List.set_cons_succ, List.set_cons_zero])
      refine wpAnyH_take (i := 1) (oi := ⟨some 50, _, _, _, _, _⟩) (v := ?_) rfl (by kernel_rfl) (by kernel_rfl) (by kernel_rfl) (fun _ _ _ h => h) (Or.inl ⟨by kernel_rfl, ?_⟩) (by assumption) ?_
      rotate_left 1
      · (intro w hSw; (try dsimp only at hSw); go_simp) <;> (with_reducible rfl)
      (try simp only [Act.put, List.setIfInBounds_toArray, List.set_cons_succ, List.set_cons_zero])
      refine wpAnyH_take (i := 2) (oi := ⟨some 51, _, _, _, _, _⟩) (v := ?_) rfl (by kernel_rfl) (by kernel_rfl) (by kernel_rfl) (fun _ _ _ h => h) (Or.inl ⟨by kernel_rfl, ?_⟩) (by assumption) ?_
      rotate_left 1
      · (intro w hSw; (try dsimp only at hSw); go_simp) <;> (with_reducible rfl)
      (try simp only [Act.put, List.setIfInBounds_toArray, List.set_cons_succ, List.set_cons_zero])
      refine wpAnyH_take (i := 3) (oi := ⟨some 52, _, _, _, _, _⟩) (v := ?_) rfl (by kernel_rfl) (by kernel_rfl) (by kernel_rfl) (fun _ _ _ h => h) (Or.inl ⟨by kernel_rfl, ?_⟩) (by assumption) ?_
      rotate_left 1
      · (intro w hSw; (try dsimp only at hSw); go_simp) <;> (with_reducible rfl)
      (try simp only [Act.put, List.setIfInBounds_toArray, List.set_cons_succ, List.set_cons_zero])
      refine wpAnyH_take (i := 4) (oi := ⟨some 53, _, _, _, _, _⟩) (v := ?_) rfl (by kernel_rfl) (by kernel_rfl) (by kernel_rfl) (fun _ _ _ h => h) (Or.inl ⟨by kernel_rfl, ?_⟩) (by assumption) ?_
      rotate_left 1
      · (intro w hSw; (try dsimp only at hSw); go_simp) <;> (with_reducible rfl)
      (try simp only [Act.put, List.setIfInBounds_toArray, List.set_cons_succ, List.set_cons_zero])
      refine wpAnyH_take (i := 5) (oi := ⟨some 54, _, _, _, _, _⟩) (v := ?_) rfl (by kernel_rfl) (by kernel_rfl) (by kernel_rfl) (fun _ _ _ h => h) (Or.inl ⟨by kernel_rfl, ?_⟩) (by assumption) ?_
      rotate_left 1
      · (intro w hSw; (try dsimp only at hSw); go_simp) <;> (with_reducible rfl)
      (try simp only [Act.put, List.setIfInBounds_toArray, List.set_cons_succ, List.set_cons_zero])
      refine wpAnyH_take (i := 6) (oi := ⟨some 55, _, _, _, _, _⟩) (v := ?_) rfl (by kernel_rfl) (by kernel_rfl) (by kernel_rfl) (fun _ _ _ h => h) (Or.inl ⟨by kernel_rfl, ?_⟩) (by assumption) ?_
      rotate_left 1
      · (intro w hSw; (try dsimp only at hSw); go_simp) <;> (with_reducible rfl)
      (try simp only [Act.put, List.setIfInBounds_toArray, List.set_cons_succ, List.set_cons_zero])
      refine wpAnyH_take (i := 7) (oi := ⟨some 56, _, _, _, _, _⟩) (v := ?_) rfl (by kernel_rfl) (by kernel_rfl) (by kernel_rfl) (fun _ _ _ h => h) (Or.inl ⟨by kernel_rfl, ?_⟩) (by assumption) ?_
      rotate_left 1
      · (intro w hSw; (try dsimp only at hSw); go_simp) <;> (with_reducible rfl)
      (try simp only [Act.put, List.setIfInBounds_toArray, List.set_cons_succ, List.set_cons_zero])
      refine wpAnyH_take (i := 8) (oi := ⟨some 57, _, _, _, _, _⟩) (v := ?_) rfl (by kernel_rfl) (by kernel_rfl) (by kernel_rfl) (fun _ _ _ h => h) (Or.inl ⟨by kernel_rfl, ?_⟩) (by assumption) ?_
      rotate_left 1
      · (intro w hSw; (try dsimp only at hSw); go_simp) <;> (with_reducible rfl)
      (try simp only [Act.put, List.setIfInBounds_toArray, List.set_cons_succ, List.set_cons_zero])
      refine wpAnyH_take (i := 9) (oi := ⟨some 58, _, _, _, _, _⟩) (v := ?_) rfl (by kernel_rfl) (by kernel_rfl) (by kernel_rfl) (fun _ _ _ h => h) (Or.inl ⟨by kernel_rfl, ?_⟩) (by assumption) ?_
      rotate_left 1
      · (intro w hSw; (try dsimp only at hSw); go_simp) <;> (with_reducible rfl)
      (try simp only [Act.put, List.setIfInBounds_toArray, List.set_cons_succ, List.set_cons_zero])
      refine wpAnyH_take (i := 10) (oi := ⟨some 59, _, _, _, _, _⟩) (v := ?_) rfl (by kernel_rfl) (by kernel_rfl) (by kernel_rfl) (fun _ _ _ h => h) (Or.inl ⟨by kernel_rfl, ?_⟩) (by assumption) ?_
      rotate_left 1
      · (intro w hSw; (try dsimp only at hSw); go_simp) <;> (with_reducible rfl)
      (try simp only [Act.put, List.setIfInBounds_toArray, List.set_cons_succ, List.set_cons_zero])
      refine wpAnyH_ready (rs := [11]) (by kernel_rfl) (by simp) ?_
      refine AllReadyH.cons (o := ⟨none, _, _, _, _, _⟩) rfl (fun K' hK => ?_) AllReadyH.nil
      go_simp
      refine hK.out _ _ ?_ (fun hHeld => ?_)
      · exact ⟨⟨Z2.out.cell 0, Z2.out.cell 1⟩, X2.out.cell 0, R1.out⟩
      clear hK K'
      (try simp only [Act.put, List.setIfInBounds_toArray, List.set_cons_succ, List.set_cons_zero])
      refine wpAnyH_done (by kernel_rfl) ?_ _
      refine NoPanic.normal ?_
      clear hHeld e2 e3
      have HBW := hide (show w.heap.size ≤ w3.heap.size from KW.out)
      generalize wf.setCell ⟨gf, ai, none⟩ (.bool false) = w7 at *
      obtain ⟨l6, hl6⟩ : ∃ l, l = (cAt S.sl ci).2.set ai false := ⟨_, rfl⟩
      have HL6 := hide hl6
      have hll : l6.length = fl := by rw [hl6, List.length_set]; exact HFL.out.symm
      rw [← hl6] at D6' B6'
      have IS := used_any (cAt S.sl ci).1 (some ⟨gf, 0, none⟩) cf5 l6 w7 B6'.out (by rw [hll, HFL.out]; have := hln ci LT.out; omega)
      rw [hll] at IS
      replace IS := hide IS
      obtain ⟨f6, hf6⟩ : ∃ f, f = (cAt S.sl ci).1 := ⟨_, rfl⟩
      rw [← hf6] at IS R0 D6'
      have HF6 := hide hf6
      have FC := hide (show fC S ob = S.sl.set ci (f6, l6) by
        unfold fC
        rw [← HCI.out, ← HAI.out, HL6.out, HF6.out]; rfl)
      have FZ := hide (show fZ S ob = cnt l6 by
        unfold fZ
        rw [← HCI.out, ← HAI.out, HL6.out]; rfl)
      have EO := hide (show fO S ob = S.ob by unfold fO; rw [if_pos E.out])
      clear hl6 hf6 hll B6' X Y Z K E1 E2
      obtain ⟨z0, z1⟩ : w7.cell? ⟨g11, 0, none⟩ = some (.int .i64 S.ob) ∧ w7.cell? ⟨g11, 1, none⟩ = some (.slice (some ⟨g, 0, none⟩) S.sl.length cv) := ⟨Z2.out.cell 0, Z2.out.cell 1⟩
      have r0 := R0.out
      have r1 := R1.out
      by_cases hz : cnt l6 = 0
      rotate_left 1
      · have hz2 : (0 : Int) < ((cnt l6 : Nat) : Int) := by omega
        have EL := hide (show fL S ob = S.sl.set ci (f6, l6) by unfold fL; rw [if_pos E.out, if_neg (by rw [FZ.out]; exact hz), FC.out])
        have EF := hide (show fF S ob = -1 by unfold fF; rw [if_pos E.out, if_neg (by rw [FZ.out]; exact hz)])
        clear hz
        go_wp2_with fail
        refine IS.out.mono ?_
        rintro e w8 ⟨rfl, hb⟩
        replace Z2 := hide (Z2.out.below hb)
        replace Y2 := hide (Y2.out.below hb)
        replace D6' := hide (D6'.out.below hb)
        replace K6 := hide (btrans K6.out hb)
        clear hb z0 z1 r0 r1 IS
        obtain ⟨z0, z1⟩ : w8.cell? ⟨g11, 0, none⟩ = some (.int .i64 S.ob) ∧ w8.cell? ⟨g11, 1, none⟩ = some (.slice (some ⟨g, 0, none⟩) S.sl.length cv) := ⟨Z2.out.cell 0, Z2.out.cell 1⟩
        have y0 : w8.cell? ⟨g4, 0, none⟩ = some (.int .i64 0) := Y2.out.cell 0
        have y1 : w8.cell? ⟨g4, 1, none⟩ = some (.slice none 0 0) := Y2.out.cell 1
        have yf0 := Y2.out.frozen 0
        have yf1 := Y2.out.frozen 1
        have HGW := hide (show w.heap.size ≤ g4 by have h1 := HG2.out; have h2 := HG4.out; omega)
        go_wp2
        have E1 := (Y2.out.put 0 (.int .i64 S.ob)).put 1 (.slice (some ⟨g, 0, none⟩) S.sl.length cv)
        have KP1 := Kp.boxset Y2.out HGW.out 0 (.int .i64 S.ob)
        have KP2 := Kp.boxset (Y2.out.put 0 (.int .i64 S.ob)) HGW.out 1 (.slice (some ⟨g, 0, none⟩) S.sl.length cv)
        refine ret_s3 (v := .slice (some ⟨g, 0, none⟩) S.sl.length cv) (g := g4) (k := 4) (o := S.ob) (er := -1) (er2 := 0) (m := 5) (m2 := 6) rfl rfl rfl rfl rfl E1 ?_
        exact ⟨_, by rw [EF.out, EO.out, E.out], by rw [EL.out]; exact (((D6'.out.kp KP1 (by decide) (by decide)).kp KP2 (by decide) (by decide)).mono HBW.out).c, (K6.out.trans KP1.below).trans KP2.below⟩
      rw [hz] at IS
      have EL := hide (show fL S ob = rmv (S.sl.set ci (f6, l6)) ci (S.sl.set ci (f6, l6)).length by
        rw [rmv_all _ (by rw [List.length_set]; exact LT.out)]
        unfold fL
        rw [if_pos E.out, if_pos (by rw [FZ.out]; exact hz), ← HCI.out, List.take_set_of_le (Nat.le_refl _), List.drop_set_of_lt (Nat.lt_succ_self _)])
      have EF := hide (show fF S ob = f6 by unfold fF; rw [if_pos E.out, if_pos (by rw [FZ.out]; exact hz), HF6.out, ← HCI.out]; rfl)
      have LS := hide (show (S.sl.set ci (f6, l6)).length = S.sl.length from List.length_set ..)
      clear hz
      go_wp2_with fail
      refine IS.out.mono ?_
      rintro e w8 ⟨rfl, hb⟩
      replace Z2 := hide (Z2.out.below hb)
      replace Y2 := hide (Y2.out.below hb)
      replace X2 := hide (X2.out.below hb)
      replace D6' := hide (D6'.out.below hb)
      replace K6 := hide (btrans K6.out hb)
      have HZYK := And.intro Z2 (And.intro Y2 K6)
      have HX8 := X2
      clear hb z0 z1 r0 r1 IS R0 R1 Z2 X2 Y2 K6
      obtain ⟨Z, Y, K⟩ : Hid (Box w8 g11 24 #[.int .i64 S.ob, .slice (some ⟨g, 0, none⟩) S.sl.length cv]) ∧ Hid (Box w8 g4 24 #[.int .i64 0, .slice none 0 0]) ∧ Hid (Below w.heap.size w w8) := HZYK
      have x0 : w8.cell? ⟨g2, 0, none⟩ = some (.int .i64 S.ob) := HX8.out.cell 0
      clear HX8
      obtain ⟨i0, hi0, hzz0, hzz1, hzz2⟩ := info_parts info52
      obtain ⟨L6, hL6⟩ : ∃ l, l = S.sl.set ci (f6, l6) := ⟨_, rfl⟩
      rw [← hL6] at EL LS D6'
      have H6 := hide (show (cAt L6 ci).1 = f6 by
        rw [hL6]
        unfold cAt
        rw [List.getD_eq_getElem?_getD, List.getElem?_set_self LT.out]; rfl)
      obtain ⟨R, eR, hRl, hrow, hfl, hap⟩ := RdC.asD D6'.out
      rw [LS.out] at hRl
      obtain ⟨g', eg, hgl, _, hcl, _⟩ := row_cell (show w8.ownsRow w3.heap.size 52 2 (.slice (some ⟨g, 0, none⟩) L6.length cv) L6.length (cC R) by rw [LS.out]; have h := hrow; rw [LS.out] at h; exact h) (by rw [LS.out]; have := LT.out; omega)
      injection eg with eg; injection eg with eg
      subst eg
      have RC := hide (show ∀ k, k < S.sl.length → ∃ Ak nk ck, nk = (cAt L6 k).2.length ∧ w8.cell? ⟨g, k * 2, none⟩ = some (.int .i64 (cAt L6 k).1) ∧ w8.cell? ⟨g, k * 2 + 1, none⟩ = some (.slice Ak nk ck) ∧ OwnBy w8 (.slice Ak nk ck) (cAt L6 k).2 from fun k hk => by
        have hkR : k < R.length := by omega
        have ep := pcC_get eR hkR
        obtain ⟨Ak, ck, ek, _⟩ := row_form (hfl k hkR)
        have e1 : (R[k]).1 = (cAt L6 k).1 := by rw [← ep]; rfl
        have e2 : (R[k]).2.1 = (cAt L6 k).2 := by rw [← ep]; rfl
        refine ⟨Ak, _, ck, rfl, ?_, ?_, ?_⟩
        · rw [← e1]; exact hcl _ _ (cC_at (R := R) (k := k) hkR).1
        · rw [← e2, ← ek]; exact hcl _ _ (cC_at (R := R) (k := k) hkR).2
        · have := hfl k hkR
          rw [← e2, ← ek]; exact FlB.oby this)
      have HGL := hide hgl
      have HZL := hide Z.out.lt
      have HYL := hide Y.out.lt
      clear hrow hfl hap hcl hgl eR hRl hL6 D6'
      have M := bal (brefl w8) (.cells #[.int .i64 S.ob, .slice none 0 0] 24)
      have Z13 := hide (Box.new w8 24 #[.int .i64 S.ob, .slice none 0 0])
      obtain ⟨g13, hg13⟩ : ∃ q, q = w8.heap.size := ⟨_, rfl⟩
      have HG13 := hide hg13
      rw [← hg13] at Z13
      have KM := hide M
      have HGN := hide (show g11 ≠ g13 by have := HZL.out; have := HG13.out; omega)
      go_upto_region 19 with fail
      rw [← HG13.out]
      clear M hg13 x0
      generalize w8.alloc (.cells #[.int .i64 S.ob, .slice none 0 0] 24) = w9 at *
      have OC := hide (OwnC.nil w8.heap.size w9)
      have hci1' := hci1
      have LS2 := hide (show ∀ k, (rmv L6 ci k).length ≤ 1000 from fun k => by have := rmv_len L6 ci k; rw [LS.out] at this; omega)
      go_loopw [14] (fun i wr => ∃ (k : Nat) (v : Value), k ≤ S.sl.length ∧ i = .int .i64 k ∧ Hid (Below w8.heap.size w8 wr) ∧ Hid (Box wr g13 24 #[.int .i64 S.ob, v]) ∧ Hid (OwnC w8.heap.size wr v (rmv L6 ci k))) (fun i _ => S.sl.length - (intOf i).toNat)
      case atStart => exact ⟨0, _, Nat.zero_le _, rfl, KM, Z13, hide (show OwnC w8.heap.size w9 (.slice none 0 0) (rmv L6 ci 0) from by unfold rmv; rw [if_pos (Nat.zero_le _)]; exact OC.out)⟩
      case round =>
        clear KM Z13 OC
        obtain ⟨k, v, hk, rfl, KM, Z13, OC⟩ := hrel
        have Z9 := hide (Z.out.below KM.out)
        obtain ⟨z0, z1⟩ : wr.cell? ⟨g11, 0, none⟩ = some (.int .i64 S.ob) ∧ wr.cell? ⟨g11, 1, none⟩ = some (.slice (some ⟨g, 0, none⟩) S.sl.length cv) := ⟨Z9.out.cell 0, Z9.out.cell 1⟩
        by_cases hlk : k < S.sl.length
        · have hl2 : (k : Int) < (S.sl.length : Int) := by omega
          have hk0 : (0 : Int) ≤ (k : Int) := by omega
          by_cases hkc : k = ci
          · subst hkc
            have hne : (((k : Nat) : Int) != ((k : Nat) : Int)) = false := by simp
            have O2 := hide (show OwnC w8.heap.size wr v (rmv L6 k (k + 1)) by rw [rmv_eq (by rw [LS.out]; exact hlk)]; exact OC.out)
            clear OC
            go_wp2
            go_roundw
            case rel => first | exact ⟨k + 1, _, by omega, by go_num, KM, Z13, O2⟩ | exact ⟨k + 1, _, by omega, by omega, KM, Z13, O2⟩ | exact ⟨k + 1, _, by omega, by omega, Z13, O2⟩ | exact ⟨k + 1, v, by omega, by go_num, Z13, O2⟩
            case measure => simp [intOf]; omega
          · have hne : (((k : Nat) : Int) != ((ci : Nat) : Int)) = true := bne_iff_ne.2 (by omega)
            obtain ⟨Ak, nk, ck, hnk, c0, c1, hob⟩ := RC.out k hlk
            have TS := hide (show rmv L6 ci (k + 1) = rmv L6 ci k ++ [cAt L6 k] from rmv_ne (by rw [LS.out]; exact hlk) hkc)
            have LR := LS2.out k
            obtain ⟨fk, hfk⟩ : ∃ f, f = (cAt L6 k).1 := ⟨_, rfl⟩
            obtain ⟨lk, hlk'⟩ : ∃ l, l = (cAt L6 k).2 := ⟨_, rfl⟩
            have hca : cAt L6 k = (fk, lk) := by rw [hfk, hlk']
            rw [hca] at TS
            rw [← hfk] at c0
            rw [← hlk'] at hob
            obtain ⟨R', eR', hr', ho'⟩ := OC.out
            obtain ⟨rk, hrk⟩ : ∃ r, r = rmv L6 ci k := ⟨_, rfl⟩
            rw [← hrk] at eR' hr' LR TS
            have hRl' : R'.length = rk.length := by rw [← eR', List.length_map]
            obtain ⟨A', c', ev', _⟩ := row_form hr'
            subst ev'
            obtain ⟨nr, hnr'⟩ : ∃ n, n = rk.length := ⟨_, rfl⟩
            rw [← hnr'] at hr' LR hRl' Z13
            have ER := hide eR'
            clear hfk hlk' hca hnk eR' hrk hnr' OC
            have d0 : wr.cell? ⟨g, k * 2, none⟩ = some (.int .i64 fk) := (KM.out.cell (p := ⟨g, k * 2, none⟩) HGL.out).trans c0
            have d1 : wr.cell? ⟨g, k * 2 + 1, none⟩ = some (.slice Ak nk ck) := (KM.out.cell (p := ⟨g, k * 2 + 1, none⟩) HGL.out).trans c1
            have OB := hide (hob.below KM.out)
            have HO := hide ho'
            have RW := hide hr'
            clear c0 c1 hob ho' hr' hkc
            go_upto_region 22 with fail
            have KD : Below wr.heap.size wr wr.drew := below_drewN (brefl _) 1
            have D0 := hide (show wr.drew.cell? ⟨g, k * 2, none⟩ = some (.int .i64 fk) from d0)
            have D1 := hide (show wr.drew.cell? ⟨g, k * 2 + 1, none⟩ = some (.slice Ak nk ck) from d1)
            have KM2 := hide (show Below w8.heap.size w8 wr.drew from below_drewN KM.out 1)
            have Z132 := hide (Z13.out.below KD)
            have Z92 := hide (Z9.out.below KD)
            have OB2 := hide (OB.out.below KD)
            have HO2 := hide (fun r hr => (HO.out r hr).below KD)
            have RW2 := hide (row_below RW.out KD)
            clear KD d0 d1 z0 z1 KM Z13 Z9 OB HO RW
            refine wp_region_noPanic ?_
            refine wp_region_held_drew (S := (fun W => (W.cell? ⟨g11, 0, none⟩ = some (.int .i64 S.ob) ∧ W.cell? ⟨g11, 1, none⟩ = some (.slice (some ⟨g, 0, none⟩) S.sl.length cv)) ∧ W.cell? ⟨g, k * 2, none⟩ = some (.int .i64 fk) ∧ W.cell? ⟨g, k * 2 + 1, none⟩ = some (.slice Ak nk ck))) (by kernel_rfl) ?_ (fun hHeld => ?_)
            · exact ⟨⟨Z92.out.cell 0, Z92.out.cell 1⟩, D0.out, D1.out⟩
            generalize wr.drew = wd at *
            have z1 := Z132.out.cell 1
            refine wpAnyH_take (i := 0) (oi := ⟨some 81, _, _, _, _, _⟩) (v := ?_) rfl (by kernel_rfl) (by kernel_rfl) (by kernel_rfl) (fun _ _ _ h => h) (Or.inl ⟨by kernel_rfl, ?_⟩) (by assumption) ?_
            rotate_left 1
            · (intro w hSw; (try dsimp only at hSw); go_simp) <;> (with_reducible rfl)
            (try simp only [Act.put, List.setIfInBounds_toArray, List.set_cons_succ, List.set_cons_zero])
            refine wpAnyH_take (i := 2) (oi := ⟨some 83, _, _, _, _, _⟩) (v := ?_) rfl (by kernel_rfl) (by kernel_rfl) (by kernel_rfl) (fun _ _ _ h => h) (Or.inl ⟨by kernel_rfl, ?_⟩) (by assumption) ?_
            rotate_left 1
            · (intro w hSw; (try dsimp only at hSw); go_simp) <;> (with_reducible rfl)
            (try simp only [Act.put, List.setIfInBounds_toArray, List.set_cons_succ, List.set_cons_zero])
            refine wpAnyH_take (i := 3) (oi := ⟨some 84, _, _, _, _, _⟩) (v := ?_) rfl (by kernel_rfl) (by kernel_rfl) (by kernel_rfl) (fun _ _ _ h => h) (Or.inl ⟨by kernel_rfl, ?_⟩) (by assumption) ?_
            rotate_left 1
            · (intro w hSw; (try dsimp only at hSw); go_simp) <;> (with_reducible rfl)
            (try simp only [Act.put, List.setIfInBounds_toArray, List.set_cons_succ, List.set_cons_zero])
            refine wpAnyH_take (i := 4) (oi := ⟨some 85, _, _, _, _, _⟩) (v := ?_) rfl (by kernel_rfl) (by kernel_rfl) (by kernel_rfl) (fun _ _ _ h => h) (Or.inl ⟨by kernel_rfl, ?_⟩) (by assumption) ?_
            rotate_left 1
            · (intro w hSw; (try dsimp only at hSw); go_simp) <;> (with_reducible rfl)
            (try simp only [Act.put, List.setIfInBounds_toArray, List.set_cons_succ, List.set_cons_zero])
            refine wpAnyH_take (i := 5) (oi := ⟨some 86, _, _, _, _, _⟩) (v := ?_) rfl (by kernel_rfl) (by kernel_rfl) (by kernel_rfl) (fun _ _ _ h => h) (Or.inl ⟨by kernel_rfl, ?_⟩) (by assumption) ?_
            rotate_left 1
            · (intro w hSw; (try dsimp only at hSw); go_simp) <;> (with_reducible rfl)
            (try simp only [Act.put, List.setIfInBounds_toArray, List.set_cons_succ, List.set_cons_zero])
            refine wpAnyH_take (i := 6) (oi := ⟨some 87, _, _, _, _, _⟩) (v := ?_) rfl (by kernel_rfl) (by kernel_rfl) (by kernel_rfl) (fun _ _ _ h => h) (Or.inl ⟨by kernel_rfl, ?_⟩) (by assumption) ?_
            rotate_left 1
            · (intro w hSw; (try dsimp only at hSw); go_simp) <;> (with_reducible rfl)
            (try simp only [Act.put, List.setIfInBounds_toArray, List.set_cons_succ, List.set_cons_zero])
            refine wpAnyH_ready (rs := [1, 7]) (by kernel_rfl) (by simp) ?_
            refine AllReadyH.cons (o := ⟨some 82, _, _, _, _, _⟩) rfl (fun K' hK => ?_) ?_
            · go_simp
              refine hK.out _ _ ?_ (fun hHeld => ?_)
              · exact ⟨⟨Z92.out.cell 0, Z92.out.cell 1⟩, D0.out, D1.out⟩
              clear hK K'
              (try simp only [Act.put, List.setIfInBounds_toArray, List.set_cons_succ, List.set_cons_zero])
              refine wpAnyH_ready (rs := [7]) (by kernel_rfl) (by simp) ?_
              refine AllReadyH.cons (o := ⟨some 88, _, _, _, _, _⟩) rfl (fun K' hK => ?_) AllReadyH.nil
              go_simp
              have M2 := bal (brefl wd) (.cells #[.int .i64 fk, .slice Ak nk ck] 52)
              have NB := hide (cells_two (Box.new wd 52 #[.int .i64 fk, .slice Ak nk ck]))
              have SC := hide (Nat.le_trans KM2.out.size M2.size)
              have HKD := hide KM2.out.size
              replace D0 := hide ((M2.cell (p := ⟨g, k * 2, none⟩) (Nat.lt_of_lt_of_le HGL.out HKD.out)).trans D0.out)
              replace D1 := hide ((M2.cell (p := ⟨g, k * 2 + 1, none⟩) (Nat.lt_of_lt_of_le HGL.out HKD.out)).trans D1.out)
              replace KM2 := hide (KM2.out.trans (M2.mono HKD.out))
              replace Z132 := hide (Z132.out.below M2)
              replace Z92 := hide (Z92.out.below M2)
              replace OB2 := hide (OB2.out.below M2)
              replace HO2 := hide (fun r hr => (HO2.out r hr).below M2)
              replace RW2 := hide (row_below RW2.out M2)
              clear M2 HKD
              have z1 := Z132.out.cell 1
              refine hK.out _ _ ?_ (fun hHeld => ?_)
              · exact ⟨⟨Z92.out.cell 0, Z92.out.cell 1⟩, D0.out, D1.out⟩
              clear hK K'
              (try simp only [Act.put, List.setIfInBounds_toArray, List.set_cons_succ, List.set_cons_zero])
              refine wpAnyH_ready (rs := [8]) (by kernel_rfl) (by simp) ?_
              refine AllReadyH.cons (o := ⟨some 89, _, _, _, _, _⟩) rfl (fun K' hK => ?_) AllReadyH.nil
              refine step_append_own rfl (.tmp 82) (.tmp 88) 22 rfl w8.heap.size 52 i0 _ 2 32 Try.underlying22 hi0 hzz0 hzz1 hzz2 rfl (by omega) (.slice A' nr c') nr (cC R') rfl RW2.out ⟨wd.heap.size, 0, none⟩ 1 1 [.int .i64 fk, .slice Ak nk ck] rfl rfl NB.out (by intro u hu; rcases List.mem_cons.1 hu with rfl | hu; rfl; rw [List.mem_singleton.1 hu]; rfl) (by simp only [maxLen]; omega) (by omega) SC.out ?_
              intro v5 w5' hown5 hg5
              obtain ⟨A5, c5, ev5, _⟩ := row_form hown5
              subst ev5
              have KU := kp_own RW2.out hg5 SC.out
              have DD := hide (show OwnC w8.heap.size w5' (.slice A5 (nr + 1) c5) (rmv L6 ci (k + 1)) by rw [TS.out, ← ER.out]; exact OwnC.push HO2.out OB2.out hRl' hown5 KU)
              replace KM2 := hide (KM2.out.trans KU.below)
              replace Z132 := hide (Z132.out.kp KU (by decide))
              replace Z92 := hide (Z92.out.kp KU (by decide))
              replace D0 := hide ((KU.below.cell (p := ⟨g, k * 2, none⟩) HGL.out).trans D0.out)
              replace D1 := hide ((KU.below.cell (p := ⟨g, k * 2 + 1, none⟩) HGL.out).trans D1.out)
              clear hown5 hg5 KU NB SC
              have z1 := Z132.out.cell 1
              have zf := Z132.out.frozen 1
              refine hK.out _ _ ?_ (fun hHeld => ?_)
              · exact ⟨⟨Z92.out.cell 0, Z92.out.cell 1⟩, D0.out, D1.out⟩
              clear hK K'
              (try simp only [Act.put, List.setIfInBounds_toArray, List.set_cons_succ, List.set_cons_zero])
              refine wpAnyH_take (i := 9) (oi := ⟨some 90, _, _, _, _, _⟩) (v := ?_) rfl (by kernel_rfl) (by kernel_rfl) (by kernel_rfl) (fun _ _ _ h => h) (Or.inl ⟨by kernel_rfl, ?_⟩) (by assumption) ?_
              rotate_left 1
              · (intro w hSw; (try dsimp only at hSw); go_simp) <;> (with_reducible rfl)
              (try simp only [Act.put, List.setIfInBounds_toArray, List.set_cons_succ, List.set_cons_zero])
              refine wpAnyH_ready (rs := [10]) (by kernel_rfl) (by simp) ?_
              refine AllReadyH.cons (o := ⟨none, _, _, _, _, _⟩) rfl (fun K' hK => ?_) AllReadyH.nil
              go_simp
              have KS := Kp.boxset Z132.out (Nat.le_of_eq HG13.out.symm) 1 (.slice A5 (nr + 1) c5)
              have O9 := hide (DD.out.kp KS (by decide) (by decide))
              have KM9 := hide (KM2.out.trans KS.below)
              have Z139 := hide (Z132.out.put 1 (.slice A5 (nr + 1) c5))
              replace Z92 := hide (Z92.out.far (b := g13) (i := 1) HGN.out (.slice A5 (nr + 1) c5))
              replace D0 := hide ((KS.below.cell (p := ⟨g, k * 2, none⟩) HGL.out).trans D0.out)
              replace D1 := hide ((KS.below.cell (p := ⟨g, k * 2 + 1, none⟩) HGL.out).trans D1.out)
              clear KS DD z1 zf
              refine hK.out _ _ ?_ (fun hHeld => ?_)
              · exact ⟨⟨Z92.out.cell 0, Z92.out.cell 1⟩, D0.out, D1.out⟩
              clear hK K'
              (try simp only [Act.put, List.setIfInBounds_toArray, List.set_cons_succ, List.set_cons_zero])
              refine wpAnyH_done (by kernel_rfl) ?_ _
              refine NoPanic.normal ?_
              clear hHeld
              go_wp2
              go_roundw
              case rel => first | exact ⟨k + 1, _, by omega, by go_num, KM9, Z139, O9⟩ | exact ⟨k + 1, _, by omega, by omega, KM9, Z139, O9⟩ | ((repeat apply Exists.intro); refine ⟨?_, rfl⟩; exact ⟨k + 1, _, by omega, by go_num, KM9, Z139, O9⟩)
              case measure => simp [intOf]; omega
            refine AllReadyH.cons (o := ⟨some 88, _, _, _, _, _⟩) rfl (fun K' hK => ?_) AllReadyH.nil
            go_simp
            have M2 := bal (brefl wd) (.cells #[.int .i64 fk, .slice Ak nk ck] 52)
            have NB := hide (cells_two (Box.new wd 52 #[.int .i64 fk, .slice Ak nk ck]))
            have SC := hide (Nat.le_trans KM2.out.size M2.size)
            have HKD := hide KM2.out.size
            replace D0 := hide ((M2.cell (p := ⟨g, k * 2, none⟩) (Nat.lt_of_lt_of_le HGL.out HKD.out)).trans D0.out)
            replace D1 := hide ((M2.cell (p := ⟨g, k * 2 + 1, none⟩) (Nat.lt_of_lt_of_le HGL.out HKD.out)).trans D1.out)
            replace KM2 := hide (KM2.out.trans (M2.mono HKD.out))
            replace Z132 := hide (Z132.out.below M2)
            replace Z92 := hide (Z92.out.below M2)
            replace OB2 := hide (OB2.out.below M2)
            replace HO2 := hide (fun r hr => (HO2.out r hr).below M2)
            replace RW2 := hide (row_below RW2.out M2)
            clear M2 HKD
            have z1 := Z132.out.cell 1
            refine hK.out _ _ ?_ (fun hHeld => ?_)
            · exact ⟨⟨Z92.out.cell 0, Z92.out.cell 1⟩, D0.out, D1.out⟩
            clear hK K'
            (try simp only [Act.put, List.setIfInBounds_toArray, List.set_cons_succ, List.set_cons_zero])
            refine wpAnyH_ready (rs := [1]) (by kernel_rfl) (by simp) ?_
            refine AllReadyH.cons (o := ⟨some 82, _, _, _, _, _⟩) rfl (fun K' hK => ?_) AllReadyH.nil
            go_simp
            refine hK.out _ _ ?_ (fun hHeld => ?_)
            · exact ⟨⟨Z92.out.cell 0, Z92.out.cell 1⟩, D0.out, D1.out⟩
            clear hK K'
            (try simp only [Act.put, List.setIfInBounds_toArray, List.set_cons_succ, List.set_cons_zero])
            refine wpAnyH_ready (rs := [8]) (by kernel_rfl) (by simp) ?_
            refine AllReadyH.cons (o := ⟨some 89, _, _, _, _, _⟩) rfl (fun K' hK => ?_) AllReadyH.nil
            refine step_append_own rfl (.tmp 82) (.tmp 88) 22 rfl w8.heap.size 52 i0 _ 2 32 Try.underlying22 hi0 hzz0 hzz1 hzz2 rfl (by omega) (.slice A' nr c') nr (cC R') rfl RW2.out ⟨wd.heap.size, 0, none⟩ 1 1 [.int .i64 fk, .slice Ak nk ck] rfl rfl NB.out (by intro u hu; rcases List.mem_cons.1 hu with rfl | hu; rfl; rw [List.mem_singleton.1 hu]; rfl) (by simp only [maxLen]; omega) (by omega) SC.out ?_
            intro v5 w5' hown5 hg5
            obtain ⟨A5, c5, ev5, _⟩ := row_form hown5
            subst ev5
            have KU := kp_own RW2.out hg5 SC.out
            have DD := hide (show OwnC w8.heap.size w5' (.slice A5 (nr + 1) c5) (rmv L6 ci (k + 1)) by rw [TS.out, ← ER.out]; exact OwnC.push HO2.out OB2.out hRl' hown5 KU)
            replace KM2 := hide (KM2.out.trans KU.below)
            replace Z132 := hide (Z132.out.kp KU (by decide))
            replace Z92 := hide (Z92.out.kp KU (by decide))
            replace D0 := hide ((KU.below.cell (p := ⟨g, k * 2, none⟩) HGL.out).trans D0.out)
            replace D1 := hide ((KU.below.cell (p := ⟨g, k * 2 + 1, none⟩) HGL.out).trans D1.out)
            clear hown5 hg5 KU NB SC
            have z1 := Z132.out.cell 1
            have zf := Z132.out.frozen 1
            refine hK.out _ _ ?_ (fun hHeld => ?_)
            · exact ⟨⟨Z92.out.cell 0, Z92.out.cell 1⟩, D0.out, D1.out⟩
            clear hK K'
            (try simp only [Act.put, List.setIfInBounds_toArray, List.set_cons_succ, List.set_cons_zero])
            refine wpAnyH_take (i := 9) (oi := ⟨some 90, _, _, _, _, _⟩) (v := ?_) rfl (by kernel_rfl) (by kernel_rfl) (by kernel_rfl) (fun _ _ _ h => h) (Or.inl ⟨by kernel_rfl, ?_⟩) (by assumption) ?_
            rotate_left 1
            · (intro w hSw; (try dsimp only at hSw); go_simp) <;> (with_reducible rfl)
            (try simp only [Act.put, List.setIfInBounds_toArray, List.set_cons_succ, List.set_cons_zero])
            refine wpAnyH_ready (rs := [10]) (by kernel_rfl) (by simp) ?_
            refine AllReadyH.cons (o := ⟨none, _, _, _, _, _⟩) rfl (fun K' hK => ?_) AllReadyH.nil
            go_simp
            have KS := Kp.boxset Z132.out (Nat.le_of_eq HG13.out.symm) 1 (.slice A5 (nr + 1) c5)
            have O9 := hide (DD.out.kp KS (by decide) (by decide))
            have KM9 := hide (KM2.out.trans KS.below)
            have Z139 := hide (Z132.out.put 1 (.slice A5 (nr + 1) c5))
            replace Z92 := hide (Z92.out.far (b := g13) (i := 1) HGN.out (.slice A5 (nr + 1) c5))
            replace D0 := hide ((KS.below.cell (p := ⟨g, k * 2, none⟩) HGL.out).trans D0.out)
            replace D1 := hide ((KS.below.cell (p := ⟨g, k * 2 + 1, none⟩) HGL.out).trans D1.out)
            clear KS DD z1 zf
            refine hK.out _ _ ?_ (fun hHeld => ?_)
            · exact ⟨⟨Z92.out.cell 0, Z92.out.cell 1⟩, D0.out, D1.out⟩
            clear hK K'
            (try simp only [Act.put, List.setIfInBounds_toArray, List.set_cons_succ, List.set_cons_zero])
            refine wpAnyH_done (by kernel_rfl) ?_ _
            refine NoPanic.normal ?_
            clear hHeld
            go_wp2
            go_roundw
            case rel => first | exact ⟨k + 1, _, by omega, by go_num, KM9, Z139, O9⟩ | exact ⟨k + 1, _, by omega, by omega, KM9, Z139, O9⟩ | ((repeat apply Exists.intro); refine ⟨?_, rfl⟩; exact ⟨k + 1, _, by omega, by go_num, KM9, Z139, O9⟩)
            case measure => simp [intOf]; omega
        · obtain rfl : k = S.sl.length := by omega
          have O9 := hide (show OwnC w8.heap.size wr v (fL S ob) by rw [EL.out, LS.out]; exact OC.out)
          obtain ⟨Aw, cw, ew, _⟩ := O9.out.form
          subst ew
          have Y9 := hide (Y.out.below KM.out)
          obtain ⟨Ac, nc, cc, hnc, c0, c1, _⟩ := RC.out ci LT.out
          rw [H6.out] at c0
          have D0 := hide (show wr.cell? ⟨g, ci * 2, none⟩ = some (.int .i64 f6) from (KM.out.cell (p := ⟨g, ci * 2, none⟩) HGL.out).trans c0)
          have K9 := hide (btrans K.out KM.out)
          clear c0 c1 hnc RC OC
          go_upto_region 23 with fail
          have KD : Below wr.heap.size wr wr.drew := below_drewN (brefl _) 1
          replace Z13 := hide (Z13.out.below KD)
          replace Z9 := hide (Z9.out.below KD)
          replace Y9 := hide (Y9.out.below KD)
          replace O9 := hide (O9.out.below KD)
          replace K9 := hide (btrans K9.out KD)
          replace D0 := hide (show wr.drew.cell? ⟨g, ci * 2, none⟩ = some (.int .i64 f6) from D0.out)
          have HGW := hide (show w.heap.size ≤ g4 by have h1 := HG2.out; have h2 := HG4.out; omega)
          have H13 := hide (show g13 ≠ g4 by have := HYL.out; have := HG13.out; omega)
          have H11 := hide (show g11 ≠ g4 by have := YL.out; have := HG3.out; omega)
          have HG4' := hide (show g ≠ g4 by have := YL.out; have := HBG.out; omega)
          clear KD z0 z1 KM
          refine wp_region_noPanic ?_
          refine wp_region_held_drew (S := (fun W => (W.cell? ⟨g11, 0, none⟩ = some (.int .i64 S.ob) ∧ W.cell? ⟨g11, 1, none⟩ = some (.slice (some ⟨g, 0, none⟩) S.sl.length cv)) ∧ (W.cell? ⟨g13, 0, none⟩ = some (.int .i64 S.ob) ∧ W.cell? ⟨g13, 1, none⟩ = some (.slice Aw (fL S ob).length cw)) ∧ W.cell? ⟨g, ci * 2, none⟩ = some (.int .i64 f6))) (by kernel_rfl) ?_ (fun hHeld => ?_)
          · exact ⟨⟨Z9.out.cell 0, Z9.out.cell 1⟩, ⟨Z13.out.cell 0, Z13.out.cell 1⟩, D0.out⟩
          generalize wr.drew = wd at *
          refine wpAnyH_take (i := 0) (oi := ⟨some 91, _, _, _, _, _⟩) (v := ?_) rfl (by kernel_rfl) (by kernel_rfl) (by kernel_rfl) (fun _ _ _ h => h) (Or.inl ⟨by kernel_rfl, ?_⟩) (by assumption) ?_
          rotate_left 1
          · (intro w hSw; (try dsimp only at hSw); go_simp) <;> (with_reducible rfl)
          (try simp only [Act.put, List.setIfInBounds_toArray, List.set_cons_succ, List.set_cons_zero])
          refine wpAnyH_take (i := 1) (oi := ⟨some 92, _, _, _, _, _⟩) (v := ?_) rfl (by kernel_rfl) (by kernel_rfl) (by kernel_rfl) (fun _ _ _ h => h) (Or.inl ⟨by kernel_rfl, ?_⟩) (by assumption) ?_
          rotate_left 1
          · (intro w hSw; (try dsimp only at hSw); go_simp) <;> (with_reducible rfl)
          (try simp only [Act.put, List.setIfInBounds_toArray, List.set_cons_succ, List.set_cons_zero])
          refine wpAnyH_take (i := 2) (oi := ⟨some 93, _, _, _, _, _⟩) (v := ?_) rfl (by kernel_rfl) (by kernel_rfl) (by kernel_rfl) (fun _ _ _ h => h) (Or.inl ⟨by kernel_rfl, ?_⟩) (by assumption) ?_
          rotate_left 1
          · (intro w hSw; (try dsimp only at hSw); go_simp) <;> (with_reducible rfl)
          (try simp only [Act.put, List.setIfInBounds_toArray, List.set_cons_succ, List.set_cons_zero])
          refine wpAnyH_take (i := 3) (oi := ⟨some 94, _, _, _, _, _⟩) (v := ?_) rfl (by kernel_rfl) (by kernel_rfl) (by kernel_rfl) (fun _ _ _ h => h) (Or.inl ⟨by kernel_rfl, ?_⟩) (by assumption) ?_
          rotate_left 1
          · (intro w hSw; (try dsimp only at hSw); go_simp) <;> (with_reducible rfl)
          (try simp only [Act.put, List.setIfInBounds_toArray, List.set_cons_succ, List.set_cons_zero])
          refine wpAnyH_take (i := 4) (oi := ⟨some 95, _, _, _, _, _⟩) (v := ?_) rfl (by kernel_rfl) (by kernel_rfl) (by kernel_rfl) (fun _ _ _ h => h) (Or.inl ⟨by kernel_rfl, ?_⟩) (by assumption) ?_
          rotate_left 1
          · (intro w hSw; (try dsimp only at hSw); go_simp) <;> (with_reducible rfl)
          (try simp only [Act.put, List.setIfInBounds_toArray, List.set_cons_succ, List.set_cons_zero])
          refine wpAnyH_take (i := 5) (oi := ⟨some 96, _, _, _, _, _⟩) (v := ?_) rfl (by kernel_rfl) (by kernel_rfl) (by kernel_rfl) (fun _ _ _ h => h) (Or.inl ⟨by kernel_rfl, ?_⟩) (by assumption) ?_
          rotate_left 1
          · (intro w hSw; (try dsimp only at hSw); go_simp) <;> (with_reducible rfl)
          (try simp only [Act.put, List.setIfInBounds_toArray, List.set_cons_succ, List.set_cons_zero])
          refine wpAnyH_take (i := 6) (oi := ⟨some 97, _, _, _, _, _⟩) (v := ?_) rfl (by kernel_rfl) (by kernel_rfl) (by kernel_rfl) (fun _ _ _ h => h) (Or.inl ⟨by kernel_rfl, ?_⟩) (by assumption) ?_
          rotate_left 1
          · (intro w hSw; (try dsimp only at hSw); go_simp) <;> (with_reducible rfl)
          (try simp only [Act.put, List.setIfInBounds_toArray, List.set_cons_succ, List.set_cons_zero])
          refine wpAnyH_ready (rs := [7]) (by kernel_rfl) (by simp) ?_
          refine AllReadyH.cons (o := ⟨none, _, _, _, _, _⟩) rfl (fun K' hK => ?_) AllReadyH.nil
          have y0 : wd.cell? ⟨g4, 0, none⟩ = some (.int .i64 0) := Y9.out.cell 0
          have y1 : wd.cell? ⟨g4, 1, none⟩ = some (.slice none 0 0) := Y9.out.cell 1
          have yf0 := Y9.out.frozen 0
          have yf1 := Y9.out.frozen 1
          go_simp
          have E1 := Y9.out.put 0 (.int .i64 S.ob)
          have KP1 := Kp.boxset Y9.out HGW.out 0 (.int .i64 S.ob)
          have KP2 := Kp.boxset E1 HGW.out 1 (.slice Aw (fL S ob).length cw)
          replace Y9 := hide (E1.put 1 (.slice Aw (fL S ob).length cw))
          replace Z13 := hide ((Z13.out.far H13.out (.int .i64 S.ob) (i := 0)).far H13.out (.slice Aw (fL S ob).length cw) (i := 1))
          replace Z9 := hide ((Z9.out.far H11.out (.int .i64 S.ob) (i := 0)).far H11.out (.slice Aw (fL S ob).length cw) (i := 1))
          replace D0 := hide (show ((wd.setCell ⟨g4, 0, none⟩ (.int .i64 S.ob)).setCell ⟨g4, 1, none⟩ (.slice Aw (fL S ob).length cw)).cell? ⟨g, ci * 2, none⟩ = some (.int .i64 f6) by rw [cell_far HG4'.out, cell_far HG4'.out]; exact D0.out)
          replace O9 := hide ((O9.out.kp KP1 (by decide) (by decide)).kp KP2 (by decide) (by decide))
          replace K9 := hide ((K9.out.trans KP1.below).trans KP2.below)
          clear E1 KP1 KP2 y0 y1 yf0 yf1
          refine hK.out _ _ ?_ (fun hHeld => ?_)
          · exact ⟨⟨Z9.out.cell 0, Z9.out.cell 1⟩, ⟨Z13.out.cell 0, Z13.out.cell 1⟩, D0.out⟩
          clear hK K'
          (try simp only [Act.put, List.setIfInBounds_toArray, List.set_cons_succ, List.set_cons_zero])
          refine wpAnyH_take (i := 8) (oi := ⟨some 5, _, _, _, _, _⟩) (v := ?_) rfl (by kernel_rfl) (by kernel_rfl) (by kernel_rfl) (fun _ _ _ h => h) (Or.inl ⟨by kernel_rfl, ?_⟩) (by assumption) ?_
          rotate_left 1
          · (intro w hSw; (try dsimp only at hSw); go_simp) <;> (with_reducible rfl)
          (try simp only [Act.put, List.setIfInBounds_toArray, List.set_cons_succ, List.set_cons_zero])
          refine wpAnyH_take (i := 9) (oi := ⟨some 6, _, _, _, _, _⟩) (v := ?_) rfl (by kernel_rfl) (by kernel_rfl) (by kernel_rfl) (fun _ _ _ h => h) (Or.inl ⟨by kernel_rfl, ?_⟩) (by assumption) ?_
          rotate_left 1
          · (intro w hSw; (try dsimp only at hSw); go_simp) <;> (with_reducible rfl)
          (try simp only [Act.put, List.setIfInBounds_toArray, List.set_cons_succ, List.set_cons_zero])
          refine wpAnyH_done (by kernel_rfl) ?_ _
          refine NoPanic.normal ?_
          clear hHeld
          go_wp2
          refine ret_s3 (v := .slice Aw (fL S ob).length cw) (g := g4) (k := 4) (o := S.ob) (er := f6) (er2 := 0) (m := 5) (m2 := 6) rfl rfl rfl rfl rfl Y9.out ?_
          exact ⟨_, by rw [EF.out, EO.out, E.out], O9.out.mono K.out.size, K9.out⟩
end Go.Proofs.Ytncjicggolmofaa.Sb
