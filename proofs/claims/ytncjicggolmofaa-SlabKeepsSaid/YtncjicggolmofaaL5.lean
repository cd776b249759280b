import Derived.Test.YtncjicggolmofaaL3
import Derived.Test.YtncjicggolmofaaV5
namespace Go.Proofs.Ytncjicggolmofaa.Sb
open Go Go.RowKit
set_option linter.unusedVariables false
set_option linter.unusedSimpArgs false
set_option maxRecDepth 100000 in
set_option maxHeartbeats 16000000 in
theorem law_unique (A : Option Addr) (cp : Nat) (S : Sc) (n : Int) (Af : Option Addr) (cf : Nat) (fs : Is) (w : World) (hr : RdC w A S.sl) (hn : S.sl.length ≤ 9223372036854775807) (hln : ∀ k, k < S.sl.length → (us S k).length ≤ 9223372036854775807) (hnr : n ≤ 9223372036854775807 ∧ -9223372036854775808 ≤ n) (hq : Bi w Af fs) (hqn : fs.length ≤ 9223372036854775807) : Calls Try.prog 9 #[.agg #[.int .i64 S.ob, .slice A S.sl.length cp], .int .i64 n, .slice Af fs.length cf] w fun e w' => e = .returned (.bool true) ∧ Below w.heap.size w w' := by
  have AWK := hide (fun w => awake_any w)
  have K := hide (bal (brefl w) (.cells #[.int .i64 S.ob, .slice A S.sl.length cp] 24))
  have X := hide (Box.new w 24 #[.int .i64 S.ob, .slice A S.sl.length cp])
  have FW := hide (fun w' (h : Below w.heap.size w w') => few_any A cp S w' (hr.below h) hn)
  obtain ⟨g2, hg2⟩ : ∃ g, g = w.heap.size := ⟨_, rfl⟩
  have HG2 := hide hg2
  rw [← hg2] at X
  clear hg2
  have HR := hide (fun w' (h : Below w.heap.size w w') => hr.below h)
  have HQ := hide (fun w' (h : Below w.heap.size w w') => hq.below h)
  clear hr hq
  go_enter Try.func9, Try.ntmps9
  go_upto_region 1 with fail
  rw [← HG2.out]
  generalize (w.alloc (.cells #[.int .i64 S.ob, .slice A S.sl.length cp] 24)) = w1 at *
  obtain ⟨x0, x1⟩ : w1.cell? ⟨g2, 0, none⟩ = some (.int .i64 S.ob) ∧ w1.cell? ⟨g2, 1, none⟩ = some (.slice A S.sl.length cp) := ⟨X.out.cell 0, X.out.cell 1⟩
  go_wp2_with fail
  refine (FW.out _ K.out).mono ?_
  rintro e w2 ⟨rfl, hb⟩
  replace K := hide (btrans K.out hb)
  replace X := hide (X.out.below hb)
  clear hb x0 x1 FW
  cases hf : fw S
  · go_wp2_with fail
    refine (AWK.out _).mono ?_
    rintro e w9 ⟨rfl, hb⟩
    replace K := hide (btrans K.out hb)
    clear hb
    go_wp2
    go_ret
    exact ⟨rfl, K.out⟩
  have hfw : S.sl.length ≤ 20 ∧ ∀ k, k < S.sl.length → (us S k).length ≤ 40 := of_decide_eq_true hf
  by_cases h40 : 40 < fs.length
  · have hd : decide ((40 : Int) < (fs.length : Int)) = true := decide_eq_true (by omega)
    have hd2 : (40 : Int) < (fs.length : Int) := by omega
    go_wp2_with fail
    refine (AWK.out _).mono ?_
    rintro e w9 ⟨rfl, hb⟩
    replace K := hide (btrans K.out hb)
    clear hb
    go_wp2
    go_ret
    exact ⟨rfl, K.out⟩
  have hd : decide ((40 : Int) < (fs.length : Int)) = false := decide_eq_false (by omega)
  have AL := hide (fun w' (h : Below w.heap.size w w') => alloc_any A cp S n Af cf fs w' (HR.out w' h) (by omega) (fun k hk => by have := hfw.2 k hk; omega) hnr (HQ.out w' h) (by omega))
  unfold AlR at AL
  have OB := hide (fun w' (h : Below w.heap.size w w') => objs_any A cp S w' (HR.out w' h) hn hln)
  obtain ⟨x0, x1⟩ : w2.cell? ⟨g2, 0, none⟩ = some (.int .i64 S.ob) ∧ w2.cell? ⟨g2, 1, none⟩ = some (.slice A S.sl.length cp) := ⟨X.out.cell 0, X.out.cell 1⟩
  have HFW := hide hfw
  have H40 := hide h40
  clear hfw h40
  go_wp2_with fail
  refine (AL.out _ K.out).mono ?_
  rintro e w3 ⟨v, A3, c3, rfl, hD, hO, hb⟩
  obtain ⟨A4, c4, ev, _⟩ := hD.c.form
  subst ev
  replace K := hide (btrans K.out hb)
  replace X := hide (X.out.below hb)
  have RD := hide (show RdC w3 A4 (alL S n fs) from hD.c.rd)
  have BI := hide (show Bi w3 A3 (alI S n fs) from OwI.bi hO)
  have HC3 := hide (show (alI S n fs).length ≤ c3 from by obtain ⟨A9, c9, e9, h9⟩ := row_form hO; injection e9 with _ _ e9; omega)
  clear hb x0 x1 AL hD hO
  have M := bal (brefl w3) (.cells #[.int .i64 (alB S n fs), .slice A4 (alL S n fs).length c4] 24)
  have X7 := hide (Box.new w3 24 #[.int .i64 (alB S n fs), .slice A4 (alL S n fs).length c4])
  replace K := hide (btrans K.out M)
  replace X := hide (X.out.below M)
  replace RD := hide (RD.out.below M)
  replace BI := hide (BI.out.below M)
  clear M
  by_cases h0 : alE S n fs = 0
  rotate_left 1
  · have hnz : (alE S n fs != 0) = true := bne_iff_ne.2 h0
    have e2 : (alI S n fs).length = 0 := by rw [(al_no h0).2.1]; rfl
    rw [e2]
    clear h0 e2
    generalize alE S n fs = er at *
    go_wp2_with fail
    refine (AWK.out _).mono ?_
    rintro e w9 ⟨rfl, hb⟩
    replace K := hide (btrans K.out hb)
    clear hb
    go_wp2
    go_ret
    exact ⟨rfl, K.out⟩
  obtain ⟨f1, f2, f3, f4, f5⟩ := al_facts h0
  have f6 := alI_len h0 (.inr trivial)
  have hB : alB S n fs = S.ob := if_pos h0
  rw [hB] at X7 K X RD BI ⊢
  rw [h0]
  have VT := vd_of f1
  have hTl := VT.wf.len
  have OT := hide (fun W (h : RdC W A4 (alL S n fs)) => objs_any A4 c4 ⟨S.ob, alL S n fs⟩ W h (by omega) (fun k hk => by have := VT.wf.l32 hk; omega))
  have CT := hide (fun W (h : RdC W A4 (alL S n fs)) => check_any A4 c4 ⟨S.ob, alL S n fs⟩ W h (by omega) (fun k hk => by have := VT.wf.l32 hk; omega))
  rw [f1] at CT
  have hol := obj_len S
  have hol2 := obj_len ⟨S.ob, alL S n fs⟩
  change (alL S n fs).length ≤ 256 at hTl
  obtain ⟨li, hli⟩ : ∃ l, l = alI S n fs := ⟨_, rfl⟩
  obtain ⟨o1, ho1⟩ : ∃ l, l = obj S := ⟨_, rfl⟩
  obtain ⟨o2, ho2⟩ : ∃ l, l = obj ⟨S.ob, alL S n fs⟩ := ⟨_, rfl⟩
  obtain ⟨tl, htl⟩ : ∃ l, l = alL S n fs := ⟨_, rfl⟩
  rw [← hli] at f2 f3 f4 f5 f6 BI HC3 ⊢
  rw [← ho1] at f2 f4 f5 OB hol
  rw [← ho2] at f2 f5 hol2
  have OT' := OT
  simp only [← ho2] at OT
  rw [← htl] at OT CT RD X7 K X BI ⊢
  dsimp only at OT CT
  have F2 := hide f2
  have F3 := hide f3
  have F4 := hide f4
  have HNI := hide f6
  have hnn : n = (li.length : Int) := f6.symm
  have HL5 := hide (show o2.length = o1.length + li.length from f5)
  clear f1 f2 f3 f4 f5 f6 VT h0 hB hli ho1 ho2 htl OT'
  subst hnn
  go_upto_region 6 with fail
  obtain ⟨g7, hg7⟩ : ∃ g, g = w3.heap.size := ⟨_, rfl⟩
  rw [← hg7] at X7 ⊢
  clear hg7
  generalize w3.alloc (.cells #[.int .i64 S.ob, .slice A4 tl.length c4] 24) = w4 at *
  have KD : Below w4.heap.size w4 w4.drew := below_drewN (brefl _) 1
  replace K := hide (btrans K.out KD)
  replace X := hide (X.out.below KD)
  replace X7 := hide (X7.out.below KD)
  replace RD := hide (RD.out.below KD)
  replace BI := hide (BI.out.below KD)
  clear KD
  refine wp_region_noPanic ?_
  refine wp_region_held_drew (S := (fun W => (W.cell? ⟨g2, 0, none⟩ = some (.int .i64 S.ob) ∧ W.cell? ⟨g2, 1, none⟩ = some (.slice A S.sl.length cp)) ∧ W.cell? ⟨g7, 0, none⟩ = some (.int .i64 S.ob) ∧ W.cell? ⟨g7, 1, none⟩ = some (.slice A4 tl.length c4))) (by kernel_rfl) ?_ (fun hHeld => ?_)
  · exact ⟨⟨X.out.cell 0, X.out.cell 1⟩, X7.out.cell 0, X7.out.cell 1⟩
  generalize w4.drew = wd at *
  refine wpAnyH_take (i := 0) (oi := ⟨some 39, _, _, _, _, _⟩) (v := ?_) rfl (by kernel_rfl) (by kernel_rfl) (by kernel_rfl) (fun _ _ _ h => h) (Or.inl ⟨by kernel_rfl, ?_⟩) (by assumption) ?_
  rotate_left 1
  · (intro w hSw; (try dsimp only at hSw); go_simp) <;> (with_reducible rfl)
  (try simp only [Act.put, List.setIfInBounds_toArray, List.set_cons_succ, List.set_cons_zero])
  refine wpAnyH_take (i := 2) (oi := ⟨some 41, _, _, _, _, _⟩) (v := ?_) rfl (by kernel_rfl) (by kernel_rfl) (by kernel_rfl) (fun _ _ _ h => h) (Or.inl ⟨by kernel_rfl, ?_⟩) (by assumption) ?_
  rotate_left 1
  · (intro w hSw; (try dsimp only at hSw); go_simp) <;> (with_reducible rfl)
  (try simp only [Act.put, List.setIfInBounds_toArray, List.set_cons_succ, List.set_cons_zero])
  refine wpAnyH_ready (rs := [1]) (by kernel_rfl) (by simp) ?_
  refine AllReadyH.cons (o := ⟨some 40, _, _, _, _, _⟩) rfl (fun K' hK => ?_) AllReadyH.nil
  go_simp
  refine (OB.out _ K.out).mono ?_
  rintro e w5 ⟨⟨Ao, co, rfl, ho⟩, hb⟩
  replace K := hide (btrans K.out hb)
  replace X := hide (X.out.below hb)
  replace X7 := hide (X7.out.below hb)
  replace RD := hide (RD.out.below hb)
  replace BI := hide (BI.out.below hb)
  have B1 := hide (show Bi w5 Ao o1 from OwI.bi ho)
  clear hb ho
  refine hK.out _ _ ?_ (fun hHeld => ?_)
  · exact ⟨⟨X.out.cell 0, X.out.cell 1⟩, X7.out.cell 0, X7.out.cell 1⟩
  clear hK K'
  (try simp only [Act.put, List.setIfInBounds_toArray, List.set_cons_succ, List.set_cons_zero])
  refine wpAnyH_ready (rs := [3]) (by kernel_rfl) (by simp) ?_
  refine AllReadyH.cons (o := ⟨some 42, _, _, _, _, _⟩) rfl (fun K' hK => ?_) AllReadyH.nil
  go_simp
  refine (OT.out _ RD.out).mono ?_
  rintro e w6 ⟨⟨At, ct, rfl, ho⟩, hb⟩
  replace K := hide (btrans K.out hb)
  replace X := hide (X.out.below hb)
  replace X7 := hide (X7.out.below hb)
  replace RD := hide (RD.out.below hb)
  replace BI := hide (BI.out.below hb)
  replace B1 := hide (B1.out.below hb)
  have B2 := hide (show Bi w6 At o2 from OwI.bi ho)
  clear hb ho
  refine hK.out _ _ ?_ (fun hHeld => ?_)
  · exact ⟨⟨X.out.cell 0, X.out.cell 1⟩, X7.out.cell 0, X7.out.cell 1⟩
  clear hK K'
  (try simp only [Act.put, List.setIfInBounds_toArray, List.set_cons_succ, List.set_cons_zero])
  refine wpAnyH_take (i := 4) (oi := ⟨some 10, _, _, _, _, _⟩) (v := ?_) rfl (by kernel_rfl) (by kernel_rfl) (by kernel_rfl) (fun _ _ _ h => h) (Or.inl ⟨by kernel_rfl, ?_⟩) (by assumption) ?_
  rotate_left 1
  · (intro w hSw; (try dsimp only at hSw); go_simp) <;> (with_reducible rfl)
  (try simp only [Act.put, List.setIfInBounds_toArray, List.set_cons_succ, List.set_cons_zero])
  refine wpAnyH_take (i := 5) (oi := ⟨some 11, _, _, _, _, _⟩) (v := ?_) rfl (by kernel_rfl) (by kernel_rfl) (by kernel_rfl) (fun _ _ _ h => h) (Or.inl ⟨by kernel_rfl, ?_⟩) (by assumption) ?_
  rotate_left 1
  · (intro w hSw; (try dsimp only at hSw); go_simp) <;> (with_reducible rfl)
  (try simp only [Act.put, List.setIfInBounds_toArray, List.set_cons_succ, List.set_cons_zero])
  refine wpAnyH_done (by kernel_rfl) ?_ _
  refine NoPanic.normal ?_
  clear hHeld OB OT
  have hL5 := HL5.out
  have hl3 : li.length ≤ 8192 := by omega
  have hwr : IntKind.i64.wrap ((o1.length : Int) + (li.length : Int)) = (o2.length : Int) := by rw [IntKind.wrap_i64]; omega
  clear hL5
  obtain ⟨z0, z1⟩ : w6.cell? ⟨g7, 0, none⟩ = some (.int .i64 S.ob) ∧ w6.cell? ⟨g7, 1, none⟩ = some (.slice A4 tl.length c4) := ⟨X7.out.cell 0, X7.out.cell 1⟩
  have CX := hide (CT.out w6 RD.out)
  go_wp2_with fail
  refine CX.out.mono ?_
  rintro e w7 ⟨rfl, hb⟩
  replace K := hide (btrans K.out hb)
  replace BI := hide (BI.out.below hb)
  replace B1 := hide (B1.out.below hb)
  replace B2 := hide (B2.out.below hb)
  clear hb z0 z1 CX CT X X7 RD
  have hl1 := hol
  clear hwr
  go_upto_region 10 with fail
  go_loopw [12] (fun i wr => ∃ k : Nat, k ≤ li.length ∧ i = .int .i64 k ∧ Hid (Below w.heap.size w wr) ∧ Hid (Bi wr A3 li) ∧ Hid (Bi wr Ao o1) ∧ Hid (Bi wr At o2)) (fun i _ => li.length - (intOf i).toNat)
  case atStart => exact ⟨0, Nat.zero_le _, rfl, K, BI, B1, B2⟩
  case round =>
    clear K BI B1 B2
    obtain ⟨k, hk, rfl, K, BI, B1, B2⟩ := hrel
    by_cases hlk : k < li.length
    · have hl2 : (k : Int) < (li.length : Int) := by omega
      have hk0 : (0 : Int) ≤ (k : Int) := by omega
      have hkc : (k : Int) ≤ (c3 : Int) := by have := HC3.out; omega
      obtain ⟨b, off, eA, hbl, y0⟩ := BI.out.cells (brefl wr) hlk
      subst eA
      have hmem : li.getD k 0 ∈ li := by rw [getD_get hlk]; exact List.getElem_mem hlk
      have hn1 : li.getD k 0 ∉ o1 := F4.out _ hmem
      have hn2 : li.getD k 0 ∈ o2 := (F2.out _).2 (.inr hmem)
      have hn3 : li.getD k 0 ∉ li.take k := fun c => by
        obtain ⟨j, hj, e⟩ := List.mem_iff_getElem.1 c
        rw [List.length_take] at hj
        rw [List.getElem_take, getD_get hlk] at e
        have := (List.getElem_inj F3.out).1 e
        omega
      obtain ⟨x, hx⟩ : ∃ x, x = li.getD k 0 := ⟨_, rfl⟩
      rw [← hx] at y0 hn1 hn2 hn3
      have H1 := hide (fun W (h : Bi W Ao o1) => (show Calls Try.prog 31 #[.slice Ao o1.length co, .int .i64 x] W fun e w' => e = .returned (.bool false) ∧ W = w' from (has_any Ao co o1 x W h (by omega)).mono (fun e w' h => ⟨by rw [h.1, decide_eq_false hn1], h.2⟩)))
      have H2 := hide (fun W (h : Bi W At o2) => (show Calls Try.prog 31 #[.slice At o2.length ct, .int .i64 x] W fun e w' => e = .returned (.bool true) ∧ W = w' from (has_any At ct o2 x W h (by omega)).mono (fun e w' h => ⟨by rw [h.1, decide_eq_true hn2], h.2⟩)))
      have htk : (li.take k).length = k := by rw [List.length_take]; omega
      have H3 := hide (fun W (h : Bi W (some ⟨b, off, none⟩) li) => (show Calls Try.prog 31 #[.slice (some ⟨b, off, none⟩) k c3, .int .i64 x] W fun e w' => e = .returned (.bool false) ∧ W = w' from by
        have hb : Bi W (some ⟨b, off, none⟩) (li.take k) := fun hne => by
          obtain ⟨b', off', e, h1, h2⟩ := h (fun e => by rw [e] at hlk; exact absurd hlk (Nat.not_lt_zero _))
          refine ⟨b', off', e, h1, fun q hq => ?_⟩
          rw [htk] at hq
          rw [h2 q (by omega), List.getD_eq_getElem?_getD, List.getD_eq_getElem?_getD, List.getElem?_take_of_lt hq]
        have := has_any (some ⟨b, off, none⟩) c3 (li.take k) x W hb (by omega)
        rw [htk] at this
        exact this.mono (fun e w' h => ⟨by rw [h.1, decide_eq_false hn3], h.2⟩)))
      clear hx hmem hn1 hn2 hn3 htk hbl
      go_upto_region 12 with fail
      have KD : Below wr.heap.size wr wr.drew := below_drewN (brefl _) 1
      replace K := hide (btrans K.out KD)
      replace BI := hide (BI.out.below KD)
      replace B1 := hide (B1.out.below KD)
      replace B2 := hide (B2.out.below KD)
      have Y0 := hide (show wr.drew.cell? ⟨b, off + k, none⟩ = some (.int .i64 x) from y0)
      clear KD y0
      refine wp_region_noPanic ?_
      refine wp_region_held_drew (S := (fun W => W.cell? ⟨b, off + k, none⟩ = some (.int .i64 x))) (by kernel_rfl) ?_ (fun hHeld => ?_)
      · exact Y0.out
      generalize wr.drew = wd at *
      refine wpAnyH_take (i := 0) (oi := ⟨some 67, _, _, _, _, _⟩) (v := ?_) rfl (by kernel_rfl) (by kernel_rfl) (by kernel_rfl) (fun _ _ _ h => h) (Or.inl ⟨by kernel_rfl, ?_⟩) (by assumption) ?_
      rotate_left 1
      · (intro w hSw; (try dsimp only at hSw); go_simp) <;> (with_reducible rfl)
      (try simp only [Act.put, List.setIfInBounds_toArray, List.set_cons_succ, List.set_cons_zero])
      refine wpAnyH_take (i := 1) (oi := ⟨some 68, _, _, _, _, _⟩) (v := ?_) rfl (by kernel_rfl) (by kernel_rfl) (by kernel_rfl) (fun _ _ _ h => h) (Or.inl ⟨by kernel_rfl, ?_⟩) (by assumption) ?_
      rotate_left 1
      · (intro w hSw; (try dsimp only at hSw); go_simp) <;> (with_reducible rfl)
      (try simp only [Act.put, List.setIfInBounds_toArray, List.set_cons_succ, List.set_cons_zero])
      refine wpAnyH_take (i := 2) (oi := ⟨some 69, _, _, _, _, _⟩) (v := ?_) rfl (by kernel_rfl) (by kernel_rfl) (by kernel_rfl) (fun _ _ _ h => h) (Or.inl ⟨by kernel_rfl, ?_⟩) (by assumption) ?_
      rotate_left 1
      · (intro w hSw; (try dsimp only at hSw); go_simp) <;> (with_reducible rfl)
      (try simp only [Act.put, List.setIfInBounds_toArray, List.set_cons_succ, List.set_cons_zero])
      refine wpAnyH_take (i := 3) (oi := ⟨some 70, _, _, _, _, _⟩) (v := ?_) rfl (by kernel_rfl) (by kernel_rfl) (by kernel_rfl) (fun _ _ _ h => h) (Or.inl ⟨by kernel_rfl, ?_⟩) (by assumption) ?_
      rotate_left 1
      · (intro w hSw; (try dsimp only at hSw); go_simp) <;> (with_reducible rfl)
      (try simp only [Act.put, List.setIfInBounds_toArray, List.set_cons_succ, List.set_cons_zero])
      refine wpAnyH_take (i := 4) (oi := ⟨some 71, _, _, _, _, _⟩) (v := ?_) rfl (by kernel_rfl) (by kernel_rfl) (by kernel_rfl) (fun _ _ _ h => h) (Or.inl ⟨by kernel_rfl, ?_⟩) (by assumption) ?_
      rotate_left 1
      · (intro w hSw; (try dsimp only at hSw); go_simp) <;> (with_reducible rfl)
      (try simp only [Act.put, List.setIfInBounds_toArray, List.set_cons_succ, List.set_cons_zero])
      refine wpAnyH_ready (rs := [5]) (by kernel_rfl) (by simp) ?_
      refine AllReadyH.cons (o := ⟨some 72, _, _, _, _, _⟩) rfl (fun K' hK => ?_) AllReadyH.nil
      go_simp
      refine (H1.out _ B1.out).mono ?_
      rintro e w8 ⟨rfl, rfl⟩
      refine hK.out _ _ ?_ (fun hHeld => ?_)
      · exact Y0.out
      clear hK K'
      (try simp only [Act.put, List.setIfInBounds_toArray, List.set_cons_succ, List.set_cons_zero])
      refine wpAnyH_take (i := 6) (oi := ⟨some 73, _, _, _, _, _⟩) (v := ?_) rfl (by kernel_rfl) (by kernel_rfl) (by kernel_rfl) (fun _ _ _ h => h) (Or.inl ⟨by kernel_rfl, ?_⟩) (by assumption) ?_
      rotate_left 1
      · (intro w hSw; (try dsimp only at hSw); go_simp) <;> (with_reducible rfl)
      (try simp only [Act.put, List.setIfInBounds_toArray, List.set_cons_succ, List.set_cons_zero])
      refine wpAnyH_take (i := 7) (oi := ⟨some 74, _, _, _, _, _⟩) (v := ?_) rfl (by kernel_rfl) (by kernel_rfl) (by kernel_rfl) (fun _ _ _ h => h) (Or.inl ⟨by kernel_rfl, ?_⟩) (by assumption) ?_
      rotate_left 1
      · (intro w hSw; (try dsimp only at hSw); go_simp) <;> (with_reducible rfl)
      (try simp only [Act.put, List.setIfInBounds_toArray, List.set_cons_succ, List.set_cons_zero])
      refine wpAnyH_take (i := 8) (oi := ⟨some 75, _, _, _, _, _⟩) (v := ?_) rfl (by kernel_rfl) (by kernel_rfl) (by kernel_rfl) (fun _ _ _ h => h) (Or.inl ⟨by kernel_rfl, ?_⟩) (by assumption) ?_
      rotate_left 1
      · (intro w hSw; (try dsimp only at hSw); go_simp) <;> (with_reducible rfl)
      (try simp only [Act.put, List.setIfInBounds_toArray, List.set_cons_succ, List.set_cons_zero])
      refine wpAnyH_take (i := 9) (oi := ⟨some 76, _, _, _, _, _⟩) (v := ?_) rfl (by kernel_rfl) (by kernel_rfl) (by kernel_rfl) (fun _ _ _ h => h) (Or.inl ⟨by kernel_rfl, ?_⟩) (by assumption) ?_
      rotate_left 1
      · (intro w hSw; (try dsimp only at hSw); go_simp) <;> (with_reducible rfl)
      (try simp only [Act.put, List.setIfInBounds_toArray, List.set_cons_succ, List.set_cons_zero])
      refine wpAnyH_take (i := 10) (oi := ⟨some 77, _, _, _, _, _⟩) (v := ?_) rfl (by kernel_rfl) (by kernel_rfl) (by kernel_rfl) (fun _ _ _ h => h) (Or.inl ⟨by kernel_rfl, ?_⟩) (by assumption) ?_
      rotate_left 1
      · (intro w hSw; (try dsimp only at hSw); go_simp) <;> (with_reducible rfl)
      (try simp only [Act.put, List.setIfInBounds_toArray, List.set_cons_succ, List.set_cons_zero])
      refine wpAnyH_take (i := 11) (oi := ⟨some 78, _, _, _, _, _⟩) (v := ?_) rfl (by kernel_rfl) (by kernel_rfl) (by kernel_rfl) (fun _ _ _ h => h) (Or.inl ⟨by kernel_rfl, ?_⟩) (by assumption) ?_
      rotate_left 1
      · (intro w hSw; (try dsimp only at hSw); go_simp) <;> (with_reducible rfl)
      (try simp only [Act.put, List.setIfInBounds_toArray, List.set_cons_succ, List.set_cons_zero])
      refine wpAnyH_ready (rs := [12]) (by kernel_rfl) (by simp) ?_
      refine AllReadyH.cons (o := ⟨some 79, _, _, _, _, _⟩) rfl (fun K' hK => ?_) AllReadyH.nil
      go_simp
      refine (H2.out _ B2.out).mono ?_
      rintro e w8 ⟨rfl, rfl⟩
      refine hK.out _ _ ?_ (fun hHeld => ?_)
      · exact Y0.out
      clear hK K'
      (try simp only [Act.put, List.setIfInBounds_toArray, List.set_cons_succ, List.set_cons_zero])
      refine wpAnyH_take (i := 13) (oi := ⟨some 80, _, _, _, _, _⟩) (v := ?_) rfl (by kernel_rfl) (by kernel_rfl) (by kernel_rfl) (fun _ _ _ h => h) (Or.inl ⟨by kernel_rfl, ?_⟩) (by assumption) ?_
      rotate_left 1
      · (intro w hSw; (try dsimp only at hSw); go_simp) <;> (with_reducible rfl)
      (try simp only [Act.put, List.setIfInBounds_toArray, List.set_cons_succ, List.set_cons_zero])
      refine wpAnyH_take (i := 14) (oi := ⟨some 81, _, _, _, _, _⟩) (v := ?_) rfl (by kernel_rfl) (by kernel_rfl) (by kernel_rfl) (fun _ _ _ h => h) (Or.inl ⟨by kernel_rfl, ?_⟩) (by assumption) ?_
      rotate_left 1
      · (intro w hSw; (try dsimp only at hSw); go_simp) <;> (with_reducible rfl)
      (try simp only [Act.put, List.setIfInBounds_toArray, List.set_cons_succ, List.set_cons_zero])
      refine wpAnyH_take (i := 15) (oi := ⟨some 82, _, _, _, _, _⟩) (v := ?_) rfl (by kernel_rfl) (by kernel_rfl) (by kernel_rfl) (fun _ _ _ h => h) (Or.inl ⟨by kernel_rfl, ?_⟩) (by assumption) ?_
      rotate_left 1
      · (intro w hSw; (try dsimp only at hSw); go_simp) <;> (with_reducible rfl)
      (try simp only [Act.put, List.setIfInBounds_toArray, List.set_cons_succ, List.set_cons_zero])
      refine wpAnyH_take (i := 16) (oi := ⟨some 83, _, _, _, _, _⟩) (v := ?_) rfl (by kernel_rfl) (by kernel_rfl) (by kernel_rfl) (fun _ _ _ h => h) (Or.inl ⟨by kernel_rfl, ?_⟩) (by assumption) ?_
      rotate_left 1
      · (intro w hSw; (try dsimp only at hSw); go_simp) <;> (with_reducible rfl)
      (try simp only [Act.put, List.setIfInBounds_toArray, List.set_cons_succ, List.set_cons_zero])
      refine wpAnyH_take (i := 17) (oi := ⟨some 84, _, _, _, _, _⟩) (v := ?_) rfl (by kernel_rfl) (by kernel_rfl) (by kernel_rfl) (fun _ _ _ h => h) (Or.inl ⟨by kernel_rfl, ?_⟩) (by assumption) ?_
      rotate_left 1
      · (intro w hSw; (try dsimp only at hSw); go_simp) <;> (with_reducible rfl)
      (try simp only [Act.put, List.setIfInBounds_toArray, List.set_cons_succ, List.set_cons_zero])
      refine wpAnyH_take (i := 18) (oi := ⟨some 85, _, _, _, _, _⟩) (v := ?_) rfl (by kernel_rfl) (by kernel_rfl) (by kernel_rfl) (fun _ _ _ h => h) (Or.inl ⟨by kernel_rfl, ?_⟩) (by assumption) ?_
      rotate_left 1
      · (intro w hSw; (try dsimp only at hSw); go_simp) <;> (with_reducible rfl)
      (try simp only [Act.put, List.setIfInBounds_toArray, List.set_cons_succ, List.set_cons_zero])
      refine wpAnyH_take (i := 19) (oi := ⟨some 86, _, _, _, _, _⟩) (v := ?_) rfl (by kernel_rfl) (by kernel_rfl) (by kernel_rfl) (fun _ _ _ h => h) (Or.inl ⟨by kernel_rfl, ?_⟩) (by assumption) ?_
      rotate_left 1
      · (intro w hSw; (try dsimp only at hSw); go_simp) <;> (with_reducible rfl)
      (try simp only [Act.put, List.setIfInBounds_toArray, List.set_cons_succ, List.set_cons_zero])
      refine wpAnyH_take (i := 20) (oi := ⟨some 87, _, _, _, _, _⟩) (v := ?_) rfl (by kernel_rfl) (by kernel_rfl) (by kernel_rfl) (fun _ _ _ h => h) (Or.inl ⟨by kernel_rfl, ?_⟩) (by assumption) ?_
      rotate_left 1
      · (intro w hSw; (try dsimp only at hSw); go_simp) <;> (with_reducible rfl)
      (try simp only [Act.put, List.setIfInBounds_toArray, List.set_cons_succ, List.set_cons_zero])
      refine wpAnyH_take (i := 21) (oi := ⟨some 88, _, _, _, _, _⟩) (v := ?_) rfl (by kernel_rfl) (by kernel_rfl) (by kernel_rfl) (fun _ _ _ h => h) (Or.inl ⟨by kernel_rfl, ?_⟩) (by assumption) ?_
      rotate_left 1
      · (intro w hSw; (try dsimp only at hSw); go_simp) <;> (with_reducible rfl)
      (try simp only [Act.put, List.setIfInBounds_toArray, List.set_cons_succ, List.set_cons_zero])
      refine wpAnyH_take (i := 22) (oi := ⟨some 89, _, _, _, _, _⟩) (v := ?_) rfl (by kernel_rfl) (by kernel_rfl) (by kernel_rfl) (fun _ _ _ h => h) (Or.inl ⟨by kernel_rfl, ?_⟩) (by assumption) ?_
      rotate_left 1
      · (intro w hSw; (try dsimp only at hSw); go_simp) <;> (with_reducible rfl)
      (try simp only [Act.put, List.setIfInBounds_toArray, List.set_cons_succ, List.set_cons_zero])
      refine wpAnyH_ready (rs := [23]) (by kernel_rfl) (by simp) ?_
      refine AllReadyH.cons (o := ⟨some 90, _, _, _, _, _⟩) rfl (fun K' hK => ?_) AllReadyH.nil
      go_simp
      refine (H3.out _ BI.out).mono ?_
      rintro e w8 ⟨rfl, rfl⟩
      refine hK.out _ _ ?_ (fun hHeld => ?_)
      · exact Y0.out
      clear hK K'
      (try simp only [Act.put, List.setIfInBounds_toArray, List.set_cons_succ, List.set_cons_zero])
      refine wpAnyH_take (i := 24) (oi := ⟨some 91, _, _, _, _, _⟩) (v := ?_) rfl (by kernel_rfl) (by kernel_rfl) (by kernel_rfl) (fun _ _ _ h => h) (Or.inl ⟨by kernel_rfl, ?_⟩) (by assumption) ?_
      rotate_left 1
      · (intro w hSw; (try dsimp only at hSw); go_simp) <;> (with_reducible rfl)
      (try simp only [Act.put, List.setIfInBounds_toArray, List.set_cons_succ, List.set_cons_zero])
      refine wpAnyH_done (by kernel_rfl) ?_ _
      refine NoPanic.normal ?_
      clear hHeld H1 H2 H3 Y0
      go_wp2
      go_roundw
      case rel => first | exact ⟨k + 1, by omega, by go_num, K, BI, B1, B2⟩ | exact ⟨k + 1, by omega, by omega⟩ | ((repeat apply Exists.intro); refine ⟨?_, rfl⟩; exact ⟨k + 1, by omega, by go_num, K, BI, B1, B2⟩)
      case measure => simp [intOf]; omega
    · obtain rfl : k = li.length := by omega
      go_upto_region 15 with fail
      go_loopw [13] (fun i wr2 => ∃ k : Nat, k ≤ o1.length ∧ i = .int .i64 k ∧ wr = wr2) (fun i _ => o1.length - (intOf i).toNat)
      case atStart => exact ⟨0, Nat.zero_le _, rfl, rfl⟩
      case round =>
        obtain ⟨q, hq, rfl, rfl⟩ := hrel
        by_cases hlq : q < o1.length
        · have hl2 : (q : Int) < (o1.length : Int) := by omega
          have hk0 : (0 : Int) ≤ (q : Int) := by omega
          obtain ⟨b, off, eA, hbl, y0⟩ := B1.out.cells (brefl _) hlq
          subst eA
          have hn2 : o1.getD q 0 ∈ o2 := (F2.out _).2 (.inl (by rw [getD_get hlq]; exact List.getElem_mem hlq))
          generalize o1.getD q 0 = x at *
          have H2 := hide (show Calls Try.prog 31 #[.slice At o2.length ct, .int .i64 x] wr fun e w' => e = .returned (.bool true) ∧ wr = w' from (has_any At ct o2 x wr B2.out (by omega)).mono (fun e w' h => ⟨by rw [h.1, decide_eq_true hn2], h.2⟩))
          clear hn2
          go_wp2_with fail
          refine H2.out.mono ?_
          rintro e w9 ⟨rfl, rfl⟩
          go_wp2
          go_roundw
          case rel => first | exact ⟨q + 1, by omega, by go_num, trivial⟩ | exact ⟨q + 1, by omega, by go_num, rfl⟩ | exact ⟨q + 1, by omega, by omega⟩ | ((repeat apply Exists.intro); refine ⟨?_, rfl⟩; exact ⟨q + 1, by omega, by go_num, trivial⟩)
          case measure => simp [intOf]; omega
        · obtain rfl : q = o1.length := by omega
          go_wp2_with fail
          refine (AWK.out _).mono ?_
          rintro e w9 ⟨rfl, hb⟩
          replace K := hide (btrans K.out hb)
          clear hb
          go_wp2
          go_ret
          exact ⟨rfl, K.out⟩
end Go.Proofs.Ytncjicggolmofaa.Sb
