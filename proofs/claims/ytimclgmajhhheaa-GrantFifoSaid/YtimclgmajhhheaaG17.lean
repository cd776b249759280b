import Derived.Test.YtimclgmajhhheaaG16
namespace Go.Proofs.Ytimclgmajhhheaa.Gr
open Go Go.RowKit Ac
set_option linter.unusedVariables false
set_option linter.unusedSimpArgs false
theorem root_in {L : List A5} (V : Vd L) {a : Int} (h0 : 0 ≤ a) (h1 : a < L.length) : (0 : Int) ∈ pth L a :=
  pth_ind V.tr V.len.2 (P := fun a l => 0 ≤ a → (0 : Int) ∈ l) (fun h => by omega) (fun a ha ih _ => by
    rcases Nat.eq_zero_or_pos a with rfl | hp
    · exact List.mem_cons_self ..
    · exact List.mem_cons_of_mem _ (ih (V.tr.2 a ha hp).1)) a (by omega) h1 h0
theorem us_root {L : List A5} (V : Vd L) {a t : Int} (h0 : 0 ≤ a) (h1 : a < L.length) : us (adL L a t) 0 = us L 0 + t := by
  rw [adL_us V.len.1]
  unfold ip
  rw [if_pos (show ((0 : Nat) : Int) ∈ pth L a from root_in V h0 h1)]
  omega
theorem tot_sv {Q : List A4} {L : List A5} {n m : Int} (h : svE Q L = 0) : ∀ i, i ≤ Q.length → (∀ j, j < i → gr Q L n m j) → us (svL Q L i) 0 = us L 0 + sumT Q i
  | 0, _, _ => by show us L 0 = us L 0 + 0; omega
  | i + 1, hi, g => by
    have S := sk_all h i (by omega) (fun j hj => g j (by omega))
    have ok := (ckQ_ok (sv_ok h).1).1 i (by omega)
    have hac := (sv_ok h).2.2 i (by omega)
    have ih := tot_sv (n := n) (m := m) h i (by omega) (fun j hj => g j (by omega))
    have e : sumT Q (i + 1) = sumT Q i + tot (qAt Q i) := rfl
    show us (adL (svL Q L i) (qAt Q i).ac (tot (qAt Q i))) 0 = _
    rw [us_root S.vd ok.2.1 (by rw [S.len]; exact hac), ih, e]
    omega
structure FF (Q : List A4) (L : List A5) (n m : Int) (k : Nat) (M : List A5) (sk st : Int) : Prop where
  le : k ≤ Q.length
  len : M.length = L.length
  ch : chE M = 0
  tr : tR M = tR L + st
  tw : 0 ≤ tR L ∧ tR L + st ≤ 9223372036854775807 ∧ 0 ≤ st
  pos : 0 < k → sk ≤ n ∧ st ≤ m
  kn : sk ≤ n ∨ sk = 0
  km : st ≤ m ∨ st = 0
  k0 : 0 ≤ sk
  nx : k < Q.length → shE (qAt Q k) M = 0 ∧ 0 < (shV (qAt Q k) M (n - sk) (m - st)).c
  ng : k < Q.length → n < 0 ∨ m < 0 → shE (qAt Q 0) L = 0 ∧ 0 < (shV (qAt Q 0) L n m).c
theorem fifo_all {Q : List A4} {L : List A5} {n m : Int} (h : svE Q L = 0) (hQ : Q.length ≤ 100) : FF Q L n m (svK Q L n m) (svL Q L (svK Q L n m)) (sumK Q (svK Q L n m)) (sumT Q (svK Q L n m)) := by
  obtain ⟨g, hle, hng⟩ := svK_all Q L n m
  generalize svK Q L n m = k at *
  have S := sk_all h k hle g
  obtain ⟨e1, e2, e3⟩ := sv_ok h
  have ok := (ckQ_ok e1).1
  have V := vd_of e2
  have bd := sum_bd ok k hle
  have er : tR (svL Q L k) = us (svL Q L k) 0 := if_pos (chE_0 S.vd)
  have er2 : tR L = us L 0 := if_pos e2
  have ts := tot_sv h k hle g
  have r0 := (V.rg 0 V.len.1).1.1
  unfold inr at r0
  have PS : 0 < k → sumK Q k ≤ n ∧ sumT Q k ≤ m := fun hp => by
    obtain ⟨j, rfl⟩ : ∃ j, k = j + 1 := ⟨k - 1, by omega⟩
    have S' := sk_all h j (by omega) (fun i hi => g i (by omega))
    have i := sk_in S' (ok j (by omega)) (e3 j (by omega)) (g j (by omega))
    have eK : sumK Q (j + 1) = sumK Q j + (qAt Q j).ke := rfl
    have eT : sumT Q (j + 1) = sumT Q j + tot (qAt Q j) := rfl
    omega
  have Z : ¬ 0 < k → sumK Q k = 0 ∧ sumT Q k = 0 := fun hp => by
    obtain rfl : k = 0 := by omega
    exact ⟨rfl, rfl⟩
  refine ⟨hle, S.len, chE_0 S.vd, by rw [er, er2, ts], by rw [er2]; omega, PS, ?_, ?_, bd.1.1, fun hk => ?_, fun hk hneg => ?_⟩
  · by_cases hp : 0 < k
    · exact .inl (PS hp).1
    · exact .inr (Z hp).1
  · by_cases hp : 0 < k
    · exact .inl (PS hp).2
    · exact .inr (Z hp).2
  · have z := sh_ok (n := n - sumK Q k) (m := m - sumT Q k) (ok k hk) (mE_0 (chE_0 S.vd) ⟨(ok k hk).2.1, show (qAt Q k).ac < (svL Q L k).length by rw [S.len]; exact e3 k hk⟩)
    have := hng hk
    unfold gr svS at this
    rw [z.1] at this
    exact ⟨z.2.symm, by omega⟩
  · have hk0 : 0 < Q.length := by omega
    have z := sh_ok (n := n) (m := m) (ok 0 hk0) (mE_0 e2 ⟨(ok 0 hk0).2.1, e3 0 hk0⟩)
    refine ⟨z.2.symm, ?_⟩
    rw [← z.1]
    rcases Int.lt_or_le 0 (shS (qAt Q 0) L n m).c with c | c
    · exact c
    · obtain ⟨p1, p2, p3⟩ := sh_pos V (ok 0 hk0) (e3 0 hk0) c
      have i1 := (ok 0 hk0).2.2.1
      have i2 := (ok 0 hk0).2.2.2
      unfold inr at i1 i2
      unfold tot at p3
      omega
set_option maxRecDepth 100000 in
set_option maxHeartbeats 8000000 in
theorem law_fifo (A : Option Addr) (cp : Nat) (Q : List A4) (B : Option Addr) (cq : Nat) (L : List A5) (n m : Int) (w : World) (hq : Qs w A Q) (hr : As w B L) (hQ : Q.length ≤ 9223372036854775807) (hQc : Q.length ≤ cp) (hcq : L.length ≤ cq) (hL : L.length ≤ 9223372036854775807) (hn : i64r n) (hm : i64r m) : Calls Try.prog 6 #[.slice A Q.length cp, .slice B L.length cq, .agg #[.int .i64 n, .int .i64 m]] w fun e w' => e = .returned (.bool (true)) ∧ Below w.heap.size w w' := by
  have AWK := hide (fun w => awake_any w)
  have Y := hide (Box.new w 36 #[.int .i64 n, .int .i64 m])
  have K := hide (bal (brefl w) (.cells #[.int .i64 n, .int .i64 m] 36))
  obtain ⟨W0, hW0⟩ : ∃ W0, W0 = w.alloc (.cells #[.int .i64 n, .int .i64 m] 36) := ⟨_, rfl⟩
  rw [← hW0] at Y K
  obtain ⟨g4, hg4⟩ : ∃ g4, g4 = w.heap.size := ⟨_, rfl⟩
  rw [← hg4] at Y
  have HW := hide hW0
  have HB := hide hg4
  clear hW0 hg4
  have FW := hide (fun w => few_any A B Q.length L.length cp cq w hQ hL)
  by_cases hf : (decide ((Q.length : Int) ≤ 20) && decide ((L.length : Int) ≤ 20)) = true
  rotate_left 1
  · have hf2 : (decide ((Q.length : Int) ≤ 20) && decide ((L.length : Int) ≤ 20)) = false := by simpa using hf
    rw [hf2] at FW
    clear hf hf2 hq hr Y
    go_enter Try.func6, Try.ntmps6
    go_upto_region 1 with fail
    rw [← HW.out]
    clear HW HB
    go_wp2_with fail
    refine (AWK.out _).mono ?_
    rintro e w1 ⟨rfl, hb⟩
    replace K := hide (btrans K.out hb)
    clear hb
    go_wp2_with fail
    refine (FW.out _).mono ?_
    rintro e w2 ⟨rfl, rfl⟩
    go_wp2_with fail
    refine (AWK.out _).mono ?_
    rintro e w3 ⟨rfl, hb⟩
    replace K := hide (btrans K.out hb)
    clear hb
    go_wp2
    go_ret
    exact ⟨rfl, K.out⟩
  have hq20 : Q.length ≤ 20 := by
    have := (Bool.and_eq_true _ _ ▸ hf).1
    have := of_decide_eq_true this
    omega
  rw [hf] at FW
  clear hf
  have VD := hide (fun w' (h : Below w.heap.size w w') => valid_any A cp Q B cq L w' (hq.below h) (hr.below h) (by omega) hcq hL)
  by_cases h0 : svE Q L = 0
  rotate_left 1
  · rw [decide_eq_false h0] at VD
    clear h0 hq hr Y
    go_enter Try.func6, Try.ntmps6
    go_upto_region 1 with fail
    rw [← HW.out]
    clear HW HB
    go_wp2_with fail
    refine (AWK.out _).mono ?_
    rintro e w1 ⟨rfl, hb⟩
    replace K := hide (btrans K.out hb)
    clear hb
    go_wp2_with fail
    refine (FW.out _).mono ?_
    rintro e w2 ⟨rfl, rfl⟩
    go_wp2_with fail
    refine (VD.out _ K.out).mono ?_
    rintro e w3 ⟨rfl, hb⟩
    replace K := hide (btrans K.out hb)
    clear hb
    go_wp2_with fail
    refine (AWK.out _).mono ?_
    rintro e w4 ⟨rfl, hb⟩
    replace K := hide (btrans K.out hb)
    clear hb
    go_wp2
    go_ret
    exact ⟨rfl, K.out⟩
  rw [decide_eq_true h0] at VD
  have SD := fun w' (h : Below w.heap.size w w') => served_any A cp Q B cq L n m w' (hq.below h) (hr.below h) (by omega) hcq hL hn hm hQc h0
  have F := fifo_all (n := n) (m := m) h0 (by omega)
  have HQ := hide hq
  have HR := hide (fun w' (h : Below w.heap.size w w') => hr.below h)
  have TL := hide (fun w' (h : Below w.heap.size w w') => tot_any B cq L w' (hr.below h) hcq hL)
  clear hq hr h0
  obtain ⟨k, hk⟩ : ∃ x, x = svK Q L n m := ⟨_, rfl⟩
  rw [← hk] at SD F
  obtain ⟨M, hM⟩ : ∃ x, x = svL Q L k := ⟨_, rfl⟩
  rw [← hM] at SD F
  obtain ⟨sk, hsk⟩ : ∃ x, x = sumK Q k := ⟨_, rfl⟩
  obtain ⟨st, hst⟩ : ∃ x, x = sumT Q k := ⟨_, rfl⟩
  rw [← hsk, ← hst] at SD F
  clear hk hM hsk hst
  unfold SdR at SD
  have CM := fun A c w' (h2 : As w' A M) (h3 : M.length ≤ c) => check_any A c M w' h2 h3 (by have := F.len; omega)
  have TM := fun A c w' (h2 : As w' A M) (h3 : M.length ≤ c) => tot_any A c M w' h2 h3 (by have := F.len; omega)
  rw [F.ch] at CM
  rw [F.tr] at TM
  rw [F.len] at CM TM
  have hlM := hide F.len
  replace CM := hide CM
  replace TM := hide TM
  replace SD := hide SD
  have hle := F.le
  have tw := F.tw
  have pos := F.pos
  have kn := F.kn
  have km := F.km
  have k0 := F.k0
  have FX := hide F.nx
  have FN := hide F.ng
  clear F
  generalize tR L = tl at *
  unfold i64r at hn hm
  have hn := hn
  have hm := hm
  have wt : IntKind.i64.wrap (tl + st) = tl + st := IntWalk.i64_in _ (by omega)
  have wn : IntKind.i64.wrap (n - sk) = n - sk := IntWalk.i64_in _ (by omega)
  have wm : IntKind.i64.wrap (m - st) = m - st := IntWalk.i64_in _ (by omega)
  have hle1 : (k : Int) ≤ (Q.length : Int) := by omega
  have c1 : 0 < k → ¬ n < sk := fun h => by have := pos h; omega
  have c2 : 0 < k → ¬ m < st := fun h => by have := pos h; omega
  have PC := hide c1
  have PD := hide c2
  clear c1 c2 pos kn km tw
  go_enter Try.func6, Try.ntmps6
  go_upto_region 1 with fail
  rw [← HW.out, ← HB.out]
  clear HW HB
  go_wp2_with fail
  refine (AWK.out _).mono ?_
  rintro e w1 ⟨rfl, hb⟩
  replace K := hide (btrans K.out hb)
  replace Y := hide (Y.out.below hb)
  clear hb
  try clear y0 y1
  have y0 := Box.cell Y.out 0
  have y1 := Box.cell Y.out 1
  go_wp2_with fail
  refine (FW.out _).mono ?_
  rintro e w2 ⟨rfl, rfl⟩
  go_wp2_with fail
  refine (VD.out _ K.out).mono ?_
  rintro e w3 ⟨rfl, hb⟩
  replace K := hide (btrans K.out hb)
  replace Y := hide (Y.out.below hb)
  clear hb
  try clear y0 y1
  have y0 := Box.cell Y.out 0
  have y1 := Box.cell Y.out 1
  go_wp2_with fail
  refine (SD.out _ K.out).mono ?_
  rintro e w4 ⟨A1, c1, rfl, hO, hb⟩
  have hO2 := hO
  rw [← hlM.out] at hO2
  have O1 := hide (fun w' (h : Below w4.heap.size w4 w') => (owa_as hO2).1.below h)
  have C1 := hide (show L.length ≤ c1 by have := (owa_as hO2).2; rw [hlM.out] at this; exact this)
  have K1 := hide (brefl w4)
  clear hO hO2
  replace K := hide (btrans K.out hb)
  replace Y := hide (Y.out.below hb)
  clear hb
  clear SD VD FW
  try clear y0 y1
  have y0 := Box.cell Y.out 0
  have y1 := Box.cell Y.out 1
  go_wp2_with fail
  refine (CM.out A1 c1 _ (O1.out _ K1.out) C1.out).mono ?_
  rintro e w5 ⟨rfl, hb⟩
  replace K := hide (btrans K.out hb)
  replace K1 := hide (btrans K1.out hb)
  replace Y := hide (Y.out.below hb)
  clear hb
  try clear y0 y1
  have y0 := Box.cell Y.out 0
  have y1 := Box.cell Y.out 1
  go_wp2_with fail
  refine (TM.out A1 c1 _ (O1.out _ K1.out) C1.out).mono ?_
  rintro e w6 ⟨rfl, hb⟩
  replace K := hide (btrans K.out hb)
  replace K1 := hide (btrans K1.out hb)
  replace Y := hide (Y.out.below hb)
  clear hb
  try clear y0 y1
  have y0 := Box.cell Y.out 0
  have y1 := Box.cell Y.out 1
  go_wp2_with fail
  refine (TL.out _ K.out).mono ?_
  rintro e w7 ⟨rfl, hb⟩
  replace K := hide (btrans K.out hb)
  replace K1 := hide (btrans K1.out hb)
  replace Y := hide (Y.out.below hb)
  clear hb
  try clear y0 y1
  have y0 := Box.cell Y.out 0
  have y1 := Box.cell Y.out 1
  clear CM TM TL
  by_cases hkl : k < Q.length
  rotate_left 1
  · obtain rfl : k = Q.length := by omega
    by_cases hp : 0 < Q.length
    · have c1 := PC.out hp
      have c2 := PD.out hp
      have hpi : (0 : Int) < (Q.length : Int) := by omega
      go_wp2
      go_ret
      exact ⟨rfl, K.out⟩
    · have hpi : ¬ (0 : Int) < (Q.length : Int) := by omega
      go_wp2
      go_ret
      exact ⟨rfl, K.out⟩
  have hkl2 : (k : Int) < (Q.length : Int) := by omega
  have hk0 : (0 : Int) ≤ (k : Int) := by omega
  have hqn : 0 < Q.length := by omega
  have hq0 : (0 : Int) < (Q.length : Int) := by omega
  obtain ⟨b, off, rfl, hbl, -⟩ := HQ.out.cells (brefl _) hkl
  have YC := fun W (hW : Below w.heap.size w W) => Qs.at (HQ.out.below hW) hkl
  have YD := fun W (hW : Below w.heap.size w W) => Qs.at (HQ.out.below hW) (show 0 < Q.length by omega)
  obtain ⟨FX1, FX2⟩ := FX.out hkl
  have FN2 := FN.out hkl
  obtain ⟨⟨pc, ac, ke, us⟩, ha⟩ : ∃ a, a = qAt Q k := ⟨_, rfl⟩
  obtain ⟨⟨p0, a0, e0, u0⟩, ha0⟩ : ∃ a, a = qAt Q 0 := ⟨_, rfl⟩
  rw [← ha] at YC FX1 FX2
  rw [← ha0] at YD FN2
  dsimp only at YC YD
  simp only [Nat.zero_mul, Nat.add_zero] at YD
  clear ha ha0 FX FN HQ
  have SH := fun A c w' (h2 : As w' A M) (h3 : M.length ≤ c) => short_any pc ac ke us A c M (n - sk) (m - st) w' h2 h3 (by have := hlM.out; omega)
  have S0 := fun w' (h : Below w.heap.size w w') => short_any p0 a0 e0 u0 B cq L n m w' (HR.out _ h) hcq hL
  unfold ShR at SH S0
  rw [FX1, hlM.out] at SH
  obtain ⟨⟨s0, s1, s2⟩, hs⟩ : ∃ s, s = shV ⟨pc, ac, ke, us⟩ M (n - sk) (m - st) := ⟨_, rfl⟩
  obtain ⟨⟨z0, z1, z2⟩, hz⟩ : ∃ s, s = shV ⟨p0, a0, e0, u0⟩ L n m := ⟨_, rfl⟩
  obtain ⟨ze, hze⟩ : ∃ s, s = shE ⟨p0, a0, e0, u0⟩ L := ⟨_, rfl⟩
  rw [← hs] at SH FX2
  rw [← hz, ← hze] at S0 FN2
  dsimp only at SH S0 FX2 FN2
  clear hs hz hze FX1
  replace SH := hide SH
  replace S0 := hide S0
  replace YC := hide YC
  replace YD := hide YD
  have FF2 := hide FN2
  clear FN2
  have PQ := hide (show (0 < k) → sk ≤ n ∧ st ≤ m from fun h => ⟨by have := PC.out h; omega, by have := PD.out h; omega⟩)
  clear PC PD
  by_cases hp : 0 < k
  · obtain ⟨c1', c2'⟩ := PQ.out hp
    have hpi : (0 : Int) < (k : Int) := by omega
    clear PQ
    go_upto_region 10 with fail
    clear y0 y1
    have hdr : Below w7.heap.size w7 w7.drew := below_drewN (brefl _) 1
    replace K := hide (btrans K.out hdr)
    replace K1 := hide (btrans K1.out hdr)
    replace Y := hide (Y.out.below hdr)
    clear hdr
    refine wp_region_noPanic ?_
    refine wp_region_held_drew (S := (fun W => (W.cell? ⟨b, off + k * 4, none⟩ = some (.int .i64 pc) ∧ W.cell? ⟨b, off + k * 4 + 1, none⟩ = some (.int .i64 ac) ∧ W.cell? ⟨b, off + k * 4 + 2, none⟩ = some (.int .i64 ke) ∧ W.cell? ⟨b, off + k * 4 + 3, none⟩ = some (.int .i64 us)) ∧ W.cell? ⟨g4, 0, none⟩ = some (.int .i64 n) ∧ W.cell? ⟨g4, 1, none⟩ = some (.int .i64 m))) (by kernel_rfl) ?_ (fun hHeld => ?_)
    · exact ⟨YC.out _ K.out, Box.cell Y.out 0, Box.cell Y.out 1⟩
    generalize w7.drew = w8 at *
    refine wpAnyH_take (i := 0) (oi := ⟨some 77, _, _, _, _, _⟩) (v := ?_) rfl (by kernel_rfl) (by kernel_rfl) (by kernel_rfl) (fun _ _ _ h => h) (Or.inl ⟨by kernel_rfl, ?_⟩) (by assumption) ?_
    rotate_left 1
    · (intro w hSw; (try dsimp only at hSw); go_simp) <;> (with_reducible rfl)
    (try simp only [Act.put, List.setIfInBounds_toArray, List.set_cons_succ, List.set_cons_zero])
    refine wpAnyH_take (i := 1) (oi := ⟨some 78, _, _, _, _, _⟩) (v := ?_) rfl (by kernel_rfl) (by kernel_rfl) (by kernel_rfl) (fun _ _ _ h => h) (Or.inl ⟨by kernel_rfl, ?_⟩) (by assumption) ?_
    rotate_left 1
    · (intro w hSw; (try dsimp only at hSw); go_simp) <;> (with_reducible rfl)
    (try simp only [Act.put, List.setIfInBounds_toArray, List.set_cons_succ, List.set_cons_zero])
    refine wpAnyH_take (i := 2) (oi := ⟨some 79, _, _, _, _, _⟩) (v := ?_) rfl (by kernel_rfl) (by kernel_rfl) (by kernel_rfl) (fun _ _ _ h => h) (Or.inl ⟨by kernel_rfl, ?_⟩) (by assumption) ?_
    rotate_left 1
    · (intro w hSw; (try dsimp only at hSw); go_simp) <;> (with_reducible rfl)
    (try simp only [Act.put, List.setIfInBounds_toArray, List.set_cons_succ, List.set_cons_zero])
    refine wpAnyH_take (i := 3) (oi := ⟨some 80, _, _, _, _, _⟩) (v := ?_) rfl (by kernel_rfl) (by kernel_rfl) (by kernel_rfl) (fun _ _ _ h => h) (Or.inl ⟨by kernel_rfl, ?_⟩) (by assumption) ?_
    rotate_left 1
    · (intro w hSw; (try dsimp only at hSw); go_simp) <;> (with_reducible rfl)
    (try simp only [Act.put, List.setIfInBounds_toArray, List.set_cons_succ, List.set_cons_zero])
    refine wpAnyH_take (i := 4) (oi := ⟨some 81, _, _, _, _, _⟩) (v := ?_) rfl (by kernel_rfl) (by kernel_rfl) (by kernel_rfl) (fun _ _ _ h => h) (Or.inl ⟨by kernel_rfl, ?_⟩) (by assumption) ?_
    rotate_left 1
    · (intro w hSw; (try dsimp only at hSw); go_simp) <;> (with_reducible rfl)
    (try simp only [Act.put, List.setIfInBounds_toArray, List.set_cons_succ, List.set_cons_zero])
    refine wpAnyH_take (i := 5) (oi := ⟨some 82, _, _, _, _, _⟩) (v := ?_) rfl (by kernel_rfl) (by kernel_rfl) (by kernel_rfl) (fun _ _ _ h => h) (Or.inl ⟨by kernel_rfl, ?_⟩) (by assumption) ?_
    rotate_left 1
    · (intro w hSw; (try dsimp only at hSw); go_simp) <;> (with_reducible rfl)
    (try simp only [Act.put, List.setIfInBounds_toArray, List.set_cons_succ, List.set_cons_zero])
    refine wpAnyH_take (i := 6) (oi := ⟨some 83, _, _, _, _, _⟩) (v := ?_) rfl (by kernel_rfl) (by kernel_rfl) (by kernel_rfl) (fun _ _ _ h => h) (Or.inl ⟨by kernel_rfl, ?_⟩) (by assumption) ?_
    rotate_left 1
    · (intro w hSw; (try dsimp only at hSw); go_simp) <;> (with_reducible rfl)
    (try simp only [Act.put, List.setIfInBounds_toArray, List.set_cons_succ, List.set_cons_zero])
    refine wpAnyH_take (i := 7) (oi := ⟨some 84, _, _, _, _, _⟩) (v := ?_) rfl (by kernel_rfl) (by kernel_rfl) (by kernel_rfl) (fun _ _ _ h => h) (Or.inl ⟨by kernel_rfl, ?_⟩) (by assumption) ?_
    rotate_left 1
    · (intro w hSw; (try dsimp only at hSw); go_simp) <;> (with_reducible rfl)
    (try simp only [Act.put, List.setIfInBounds_toArray, List.set_cons_succ, List.set_cons_zero])
    refine wpAnyH_take (i := 8) (oi := ⟨some 85, _, _, _, _, _⟩) (v := ?_) rfl (by kernel_rfl) (by kernel_rfl) (by kernel_rfl) (fun _ _ _ h => h) (Or.inl ⟨by kernel_rfl, ?_⟩) (by assumption) ?_
    rotate_left 1
    · (intro w hSw; (try dsimp only at hSw); go_simp) <;> (with_reducible rfl)
    (try simp only [Act.put, List.setIfInBounds_toArray, List.set_cons_succ, List.set_cons_zero])
    refine wpAnyH_take (i := 9) (oi := ⟨some 86, _, _, _, _, _⟩) (v := ?_) rfl (by kernel_rfl) (by kernel_rfl) (by kernel_rfl) (fun _ _ _ h => h) (Or.inl ⟨by kernel_rfl, ?_⟩) (by assumption) ?_
    rotate_left 1
    · (intro w hSw; (try dsimp only at hSw); go_simp) <;> (with_reducible rfl)
    (try simp only [Act.put, List.setIfInBounds_toArray, List.set_cons_succ, List.set_cons_zero])
    refine wpAnyH_take (i := 10) (oi := ⟨some 87, _, _, _, _, _⟩) (v := ?_) rfl (by kernel_rfl) (by kernel_rfl) (by kernel_rfl) (fun _ _ _ h => h) (Or.inl ⟨by kernel_rfl, ?_⟩) (by assumption) ?_
    rotate_left 1
    · (intro w hSw; (try dsimp only at hSw); go_simp) <;> (with_reducible rfl)
    (try simp only [Act.put, List.setIfInBounds_toArray, List.set_cons_succ, List.set_cons_zero])
    refine wpAnyH_take (i := 11) (oi := ⟨some 88, _, _, _, _, _⟩) (v := ?_) rfl (by kernel_rfl) (by kernel_rfl) (by kernel_rfl) (fun _ _ _ h => h) (Or.inl ⟨by kernel_rfl, ?_⟩) (by assumption) ?_
    rotate_left 1
    · (intro w hSw; (try dsimp only at hSw); go_simp) <;> (with_reducible rfl)
    (try simp only [Act.put, List.setIfInBounds_toArray, List.set_cons_succ, List.set_cons_zero])
    refine wpAnyH_take (i := 12) (oi := ⟨some 89, _, _, _, _, _⟩) (v := ?_) rfl (by kernel_rfl) (by kernel_rfl) (by kernel_rfl) (fun _ _ _ h => h) (Or.inl ⟨by kernel_rfl, ?_⟩) (by assumption) ?_
    rotate_left 1
    · (intro w hSw; (try dsimp only at hSw); go_simp) <;> (with_reducible rfl)
    (try simp only [Act.put, List.setIfInBounds_toArray, List.set_cons_succ, List.set_cons_zero])
    refine wpAnyH_ready (rs := [13, 17]) (by kernel_rfl) (by simp) ?_
    refine AllReadyH.cons (o := ⟨some 90, _, _, _, _, _⟩) rfl (fun K' hK => ?_) ?_
    · go_simp
      refine (SH.out A1 c1 _ (O1.out _ K1.out) C1.out).mono ?_
      rintro e wc ⟨rfl, hb⟩
      replace K := hide (btrans K.out hb)
      replace K1 := hide (btrans K1.out hb)
      replace Y := hide (Y.out.below hb)
      clear hb
      refine hK.out _ _ ?_ (fun hHeld => ?_)
      · exact ⟨YC.out _ K.out, Box.cell Y.out 0, Box.cell Y.out 1⟩
      clear hK K'
      (try simp only [Act.put, List.setIfInBounds_toArray, List.set_cons_succ, List.set_cons_zero])
      refine wpAnyH_take (i := 14) (oi := ⟨some 76, _, _, _, _, _⟩) (v := ?_) rfl (by kernel_rfl) (by kernel_rfl) (by kernel_rfl) (fun _ _ _ h => h) (Or.inl ⟨by kernel_rfl, ?_⟩) (by assumption) ?_
      rotate_left 1
      · (intro w hSw; (try dsimp only at hSw); go_simp) <;> (with_reducible rfl)
      (try simp only [Act.put, List.setIfInBounds_toArray, List.set_cons_succ, List.set_cons_zero])
      refine wpAnyH_take (i := 15) (oi := ⟨some 91, _, _, _, _, _⟩) (v := ?_) rfl (by kernel_rfl) (by kernel_rfl) (by kernel_rfl) (fun _ _ _ h => h) (Or.inl ⟨by kernel_rfl, ?_⟩) (by assumption) ?_
      rotate_left 1
      · (intro w hSw; (try dsimp only at hSw); go_simp) <;> (with_reducible rfl)
      (try simp only [Act.put, List.setIfInBounds_toArray, List.set_cons_succ, List.set_cons_zero])
      refine wpAnyH_take (i := 16) (oi := ⟨some 92, _, _, _, _, _⟩) (v := ?_) rfl (by kernel_rfl) (by kernel_rfl) (by kernel_rfl) (fun _ _ _ h => h) (Or.inl ⟨by kernel_rfl, ?_⟩) (by assumption) ?_
      rotate_left 1
      · (intro w hSw; (try dsimp only at hSw); go_simp) <;> (with_reducible rfl)
      (try simp only [Act.put, List.setIfInBounds_toArray, List.set_cons_succ, List.set_cons_zero])
      refine wpAnyH_ready (rs := [17]) (by kernel_rfl) (by simp) ?_
      refine AllReadyH.cons (o := ⟨some 12, _, _, _, _, _⟩) rfl (fun K' hK => ?_) AllReadyH.nil
      go_simp
      have Z := hide (SB.new wc 0 0 false)
      have M1 := bal (brefl wc) (.cells #[.int .i64 0, .int .i64 0, .bool false] 38)
      have HC0 := K.out.size
      have HN0 := Y.out.lt
      obtain ⟨cb, hcb⟩ : ∃ cb, cb = wc.heap.size := ⟨_, rfl⟩
      have HC := hide (show w.heap.size ≤ cb by omega)
      have HN := hide (show g4 ≠ cb by omega)
      replace K := hide (btrans K.out M1)
      replace K1 := hide (btrans K1.out M1)
      replace Y := hide (Y.out.below M1)
      rw [← hcb] at Z ⊢
      clear hcb HC0 HN0 M1
      generalize wc.alloc (.cells #[.int .i64 0, .int .i64 0, .bool false] 38) = wa at *
      refine hK.out _ _ ?_ (fun hHeld => ?_)
      · exact ⟨YC.out _ K.out, Box.cell Y.out 0, Box.cell Y.out 1⟩
      clear hK K'
      (try simp only [Act.put, List.setIfInBounds_toArray, List.set_cons_succ, List.set_cons_zero])
      refine wpAnyH_ready (rs := [18]) (by kernel_rfl) (by simp) ?_
      refine AllReadyH.cons (o := ⟨none, _, _, _, _, _⟩) rfl (fun K' hK => ?_) AllReadyH.nil
      obtain ⟨x0, x1, x2⟩ := SB.cells Z.out
      obtain ⟨f0, f1, f2⟩ := SB.free Z.out
      go_simp
      replace K := hide (show Below w.heap.size w (((wa.setCell ⟨cb, 0, none⟩ (.int .i64 s0)).setCell ⟨cb, 1, none⟩ (.int .i64 s1)).setCell ⟨cb, 2, none⟩ (.bool s2)) from bset3 K.out HC.out)
      replace Y := hide (show Box (((wa.setCell ⟨cb, 0, none⟩ (.int .i64 s0)).setCell ⟨cb, 1, none⟩ (.int .i64 s1)).setCell ⟨cb, 2, none⟩ (.bool s2)) g4 36 #[.int .i64 n, .int .i64 m] from Box.far (Box.far (Box.far Y.out HN.out _) HN.out _) HN.out _)
      replace Z := hide (show SB (((wa.setCell ⟨cb, 0, none⟩ (.int .i64 s0)).setCell ⟨cb, 1, none⟩ (.int .i64 s1)).setCell ⟨cb, 2, none⟩ (.bool s2)) cb ⟨s0, s1, s2⟩ from SB.put Z.out)
      clear x0 x1 x2 f0 f1 f2
      generalize (((wa.setCell ⟨cb, 0, none⟩ (.int .i64 s0)).setCell ⟨cb, 1, none⟩ (.int .i64 s1)).setCell ⟨cb, 2, none⟩ (.bool s2)) = wu at *
      refine hK.out _ _ ?_ (fun hHeld => ?_)
      · exact ⟨YC.out _ K.out, Box.cell Y.out 0, Box.cell Y.out 1⟩
      clear hK K'
      (try simp only [Act.put, List.setIfInBounds_toArray, List.set_cons_succ, List.set_cons_zero])
      refine wpAnyH_take (i := 19) (oi := ⟨some 13, _, _, _, _, _⟩) (v := ?_) rfl (by kernel_rfl) (by kernel_rfl) (by kernel_rfl) (fun _ _ _ h => h) (Or.inl ⟨by kernel_rfl, ?_⟩) (by assumption) ?_
      rotate_left 1
      · (intro w hSw; (try dsimp only at hSw); go_simp) <;> (with_reducible rfl)
      (try simp only [Act.put, List.setIfInBounds_toArray, List.set_cons_succ, List.set_cons_zero])
      refine wpAnyH_done (by kernel_rfl) ?_ _
      refine NoPanic.normal ?_
      by_cases hn0 : n < 0
      · exfalso; omega
      by_cases hm0 : m < 0
      · obtain ⟨hze, hzp⟩ := FF2.out (.inr hm0)
        subst hze
        try clear y0 y1
        have y0 := Box.cell Y.out 0
        have y1 := Box.cell Y.out 1
        go_upto_region 12 with fail
        clear y0 y1
        have hdr : Below wu.heap.size wu wu.drew := below_drewN (brefl _) 1
        replace K := hide (btrans K.out hdr)
        replace Y := hide (Y.out.below hdr)
        replace Z := hide (Z.out.below hdr)
        clear hdr
        refine wp_region_noPanic ?_
        refine wp_region_held_drew (S := (fun W => (W.cell? ⟨b, off, none⟩ = some (.int .i64 p0) ∧ W.cell? ⟨b, off + 1, none⟩ = some (.int .i64 a0) ∧ W.cell? ⟨b, off + 2, none⟩ = some (.int .i64 e0) ∧ W.cell? ⟨b, off + 3, none⟩ = some (.int .i64 u0)) ∧ W.cell? ⟨g4, 0, none⟩ = some (.int .i64 n) ∧ W.cell? ⟨g4, 1, none⟩ = some (.int .i64 m))) (by kernel_rfl) ?_ (fun hHeld => ?_)
        · exact ⟨YD.out _ K.out, Box.cell Y.out 0, Box.cell Y.out 1⟩
        generalize wu.drew = wx at *
        refine wpAnyH_take (i := 0) (oi := ⟨some 102, _, _, _, _, _⟩) (v := ?_) rfl (by kernel_rfl) (by kernel_rfl) (by kernel_rfl) (fun _ _ _ h => h) (Or.inl ⟨by kernel_rfl, ?_⟩) (by assumption) ?_
        rotate_left 1
        · (intro w hSw; (try dsimp only at hSw); go_simp) <;> (with_reducible rfl)
        (try simp only [Act.put, List.setIfInBounds_toArray, List.set_cons_succ, List.set_cons_zero])
        refine wpAnyH_take (i := 1) (oi := ⟨some 103, _, _, _, _, _⟩) (v := ?_) rfl (by kernel_rfl) (by kernel_rfl) (by kernel_rfl) (fun _ _ _ h => h) (Or.inl ⟨by kernel_rfl, ?_⟩) (by assumption) ?_
        rotate_left 1
        · (intro w hSw; (try dsimp only at hSw); go_simp) <;> (with_reducible rfl)
        (try simp only [Act.put, List.setIfInBounds_toArray, List.set_cons_succ, List.set_cons_zero])
        refine wpAnyH_take (i := 2) (oi := ⟨some 104, _, _, _, _, _⟩) (v := ?_) rfl (by kernel_rfl) (by kernel_rfl) (by kernel_rfl) (fun _ _ _ h => h) (Or.inl ⟨by kernel_rfl, ?_⟩) (by assumption) ?_
        rotate_left 1
        · (intro w hSw; (try dsimp only at hSw); go_simp) <;> (with_reducible rfl)
        (try simp only [Act.put, List.setIfInBounds_toArray, List.set_cons_succ, List.set_cons_zero])
        refine wpAnyH_take (i := 3) (oi := ⟨some 105, _, _, _, _, _⟩) (v := ?_) rfl (by kernel_rfl) (by kernel_rfl) (by kernel_rfl) (fun _ _ _ h => h) (Or.inl ⟨by kernel_rfl, ?_⟩) (by assumption) ?_
        rotate_left 1
        · (intro w hSw; (try dsimp only at hSw); go_simp) <;> (with_reducible rfl)
        (try simp only [Act.put, List.setIfInBounds_toArray, List.set_cons_succ, List.set_cons_zero])
        refine wpAnyH_take (i := 4) (oi := ⟨some 106, _, _, _, _, _⟩) (v := ?_) rfl (by kernel_rfl) (by kernel_rfl) (by kernel_rfl) (fun _ _ _ h => h) (Or.inl ⟨by kernel_rfl, ?_⟩) (by assumption) ?_
        rotate_left 1
        · (intro w hSw; (try dsimp only at hSw); go_simp) <;> (with_reducible rfl)
        (try simp only [Act.put, List.setIfInBounds_toArray, List.set_cons_succ, List.set_cons_zero])
        refine wpAnyH_take (i := 5) (oi := ⟨some 107, _, _, _, _, _⟩) (v := ?_) rfl (by kernel_rfl) (by kernel_rfl) (by kernel_rfl) (fun _ _ _ h => h) (Or.inl ⟨by kernel_rfl, ?_⟩) (by assumption) ?_
        rotate_left 1
        · (intro w hSw; (try dsimp only at hSw); go_simp) <;> (with_reducible rfl)
        (try simp only [Act.put, List.setIfInBounds_toArray, List.set_cons_succ, List.set_cons_zero])
        refine wpAnyH_take (i := 6) (oi := ⟨some 108, _, _, _, _, _⟩) (v := ?_) rfl (by kernel_rfl) (by kernel_rfl) (by kernel_rfl) (fun _ _ _ h => h) (Or.inl ⟨by kernel_rfl, ?_⟩) (by assumption) ?_
        rotate_left 1
        · (intro w hSw; (try dsimp only at hSw); go_simp) <;> (with_reducible rfl)
        (try simp only [Act.put, List.setIfInBounds_toArray, List.set_cons_succ, List.set_cons_zero])
        refine wpAnyH_take (i := 7) (oi := ⟨some 109, _, _, _, _, _⟩) (v := ?_) rfl (by kernel_rfl) (by kernel_rfl) (by kernel_rfl) (fun _ _ _ h => h) (Or.inl ⟨by kernel_rfl, ?_⟩) (by assumption) ?_
        rotate_left 1
        · (intro w hSw; (try dsimp only at hSw); go_simp) <;> (with_reducible rfl)
        (try simp only [Act.put, List.setIfInBounds_toArray, List.set_cons_succ, List.set_cons_zero])
        refine wpAnyH_ready (rs := [8]) (by kernel_rfl) (by simp) ?_
        refine AllReadyH.cons (o := ⟨some 110, _, _, _, _, _⟩) rfl (fun K' hK => ?_) AllReadyH.nil
        go_simp
        refine (S0.out _ K.out).mono ?_
        rintro e wd ⟨rfl, hb⟩
        replace K := hide (btrans K.out hb)
        replace Y := hide (Y.out.below hb)
        replace Z := hide (Z.out.below hb)
        clear hb
        refine hK.out _ _ ?_ (fun hHeld => ?_)
        · exact ⟨YD.out _ K.out, Box.cell Y.out 0, Box.cell Y.out 1⟩
        clear hK K'
        (try simp only [Act.put, List.setIfInBounds_toArray, List.set_cons_succ, List.set_cons_zero])
        refine wpAnyH_take (i := 9) (oi := ⟨some 101, _, _, _, _, _⟩) (v := ?_) rfl (by kernel_rfl) (by kernel_rfl) (by kernel_rfl) (fun _ _ _ h => h) (Or.inl ⟨by kernel_rfl, ?_⟩) (by assumption) ?_
        rotate_left 1
        · (intro w hSw; (try dsimp only at hSw); go_simp) <;> (with_reducible rfl)
        (try simp only [Act.put, List.setIfInBounds_toArray, List.set_cons_succ, List.set_cons_zero])
        refine wpAnyH_take (i := 10) (oi := ⟨some 111, _, _, _, _, _⟩) (v := ?_) rfl (by kernel_rfl) (by kernel_rfl) (by kernel_rfl) (fun _ _ _ h => h) (Or.inl ⟨by kernel_rfl, ?_⟩) (by assumption) ?_
        rotate_left 1
        · (intro w hSw; (try dsimp only at hSw); go_simp) <;> (with_reducible rfl)
        (try simp only [Act.put, List.setIfInBounds_toArray, List.set_cons_succ, List.set_cons_zero])
        refine wpAnyH_take (i := 11) (oi := ⟨some 112, _, _, _, _, _⟩) (v := ?_) rfl (by kernel_rfl) (by kernel_rfl) (by kernel_rfl) (fun _ _ _ h => h) (Or.inl ⟨by kernel_rfl, ?_⟩) (by assumption) ?_
        rotate_left 1
        · (intro w hSw; (try dsimp only at hSw); go_simp) <;> (with_reducible rfl)
        (try simp only [Act.put, List.setIfInBounds_toArray, List.set_cons_succ, List.set_cons_zero])
        refine wpAnyH_ready (rs := [12]) (by kernel_rfl) (by simp) ?_
        refine AllReadyH.cons (o := ⟨none, _, _, _, _, _⟩) rfl (fun K' hK => ?_) AllReadyH.nil
        obtain ⟨x0, x1, x2⟩ := SB.cells Z.out
        obtain ⟨f0, f1, f2⟩ := SB.free Z.out
        go_simp
        replace K := hide (show Below w.heap.size w (((wd.setCell ⟨cb, 0, none⟩ (.int .i64 z0)).setCell ⟨cb, 1, none⟩ (.int .i64 z1)).setCell ⟨cb, 2, none⟩ (.bool z2)) from bset3 K.out HC.out)
        replace Y := hide (show Box (((wd.setCell ⟨cb, 0, none⟩ (.int .i64 z0)).setCell ⟨cb, 1, none⟩ (.int .i64 z1)).setCell ⟨cb, 2, none⟩ (.bool z2)) g4 36 #[.int .i64 n, .int .i64 m] from Box.far (Box.far (Box.far Y.out HN.out _) HN.out _) HN.out _)
        replace Z := hide (show SB (((wd.setCell ⟨cb, 0, none⟩ (.int .i64 z0)).setCell ⟨cb, 1, none⟩ (.int .i64 z1)).setCell ⟨cb, 2, none⟩ (.bool z2)) cb ⟨z0, z1, z2⟩ from SB.put Z.out)
        clear x0 x1 x2 f0 f1 f2
        generalize (((wd.setCell ⟨cb, 0, none⟩ (.int .i64 z0)).setCell ⟨cb, 1, none⟩ (.int .i64 z1)).setCell ⟨cb, 2, none⟩ (.bool z2)) = wv at *
        refine hK.out _ _ ?_ (fun hHeld => ?_)
        · exact ⟨YD.out _ K.out, Box.cell Y.out 0, Box.cell Y.out 1⟩
        clear hK K'
        (try simp only [Act.put, List.setIfInBounds_toArray, List.set_cons_succ, List.set_cons_zero])
        refine wpAnyH_take (i := 13) (oi := ⟨some 13, _, _, _, _, _⟩) (v := ?_) rfl (by kernel_rfl) (by kernel_rfl) (by kernel_rfl) (fun _ _ _ h => h) (Or.inl ⟨by kernel_rfl, ?_⟩) (by assumption) ?_
        rotate_left 1
        · (intro w hSw; (try dsimp only at hSw); go_simp) <;> (with_reducible rfl)
        (try simp only [Act.put, List.setIfInBounds_toArray, List.set_cons_succ, List.set_cons_zero])
        refine wpAnyH_done (by kernel_rfl) ?_ _
        refine NoPanic.normal ?_
        obtain ⟨x0, x1, x2⟩ := SB.cells Z.out
        (try simp only [Exit.inBlock, Exit.then])
        apply_assumption
        go_wp2
        go_ret
        exact ⟨rfl, K.out⟩
      try clear y0 y1
      have y0 := Box.cell Y.out 0
      have y1 := Box.cell Y.out 1
      obtain ⟨x0, x1, x2⟩ := SB.cells Z.out
      go_wp2
      go_ret
      exact ⟨rfl, K.out⟩
    refine AllReadyH.cons (o := ⟨some 12, _, _, _, _, _⟩) rfl (fun K' hK => ?_) AllReadyH.nil
    go_simp
    have Z := hide (SB.new w8 0 0 false)
    have M1 := bal (brefl w8) (.cells #[.int .i64 0, .int .i64 0, .bool false] 38)
    have HC0 := K.out.size
    have HN0 := Y.out.lt
    obtain ⟨cb, hcb⟩ : ∃ cb, cb = w8.heap.size := ⟨_, rfl⟩
    have HC := hide (show w.heap.size ≤ cb by omega)
    have HN := hide (show g4 ≠ cb by omega)
    replace K := hide (btrans K.out M1)
    replace K1 := hide (btrans K1.out M1)
    replace Y := hide (Y.out.below M1)
    rw [← hcb] at Z ⊢
    clear hcb HC0 HN0 M1
    generalize w8.alloc (.cells #[.int .i64 0, .int .i64 0, .bool false] 38) = wa at *
    refine hK.out _ _ ?_ (fun hHeld => ?_)
    · exact ⟨YC.out _ K.out, Box.cell Y.out 0, Box.cell Y.out 1⟩
    clear hK K'
    (try simp only [Act.put, List.setIfInBounds_toArray, List.set_cons_succ, List.set_cons_zero])
    refine wpAnyH_ready (rs := [13]) (by kernel_rfl) (by simp) ?_
    refine AllReadyH.cons (o := ⟨some 90, _, _, _, _, _⟩) rfl (fun K' hK => ?_) AllReadyH.nil
    go_simp
    refine (SH.out A1 c1 _ (O1.out _ K1.out) C1.out).mono ?_
    rintro e wc ⟨rfl, hb⟩
    replace K := hide (btrans K.out hb)
    replace K1 := hide (btrans K1.out hb)
    replace Y := hide (Y.out.below hb)
    replace Z := hide (Z.out.below hb)
    clear hb
    refine hK.out _ _ ?_ (fun hHeld => ?_)
    · exact ⟨YC.out _ K.out, Box.cell Y.out 0, Box.cell Y.out 1⟩
    clear hK K'
    (try simp only [Act.put, List.setIfInBounds_toArray, List.set_cons_succ, List.set_cons_zero])
    refine wpAnyH_take (i := 14) (oi := ⟨some 76, _, _, _, _, _⟩) (v := ?_) rfl (by kernel_rfl) (by kernel_rfl) (by kernel_rfl) (fun _ _ _ h => h) (Or.inl ⟨by kernel_rfl, ?_⟩) (by assumption) ?_
    rotate_left 1
    · (intro w hSw; (try dsimp only at hSw); go_simp) <;> (with_reducible rfl)
    (try simp only [Act.put, List.setIfInBounds_toArray, List.set_cons_succ, List.set_cons_zero])
    refine wpAnyH_take (i := 15) (oi := ⟨some 91, _, _, _, _, _⟩) (v := ?_) rfl (by kernel_rfl) (by kernel_rfl) (by kernel_rfl) (fun _ _ _ h => h) (Or.inl ⟨by kernel_rfl, ?_⟩) (by assumption) ?_
    rotate_left 1
    · (intro w hSw; (try dsimp only at hSw); go_simp) <;> (with_reducible rfl)
    (try simp only [Act.put, List.setIfInBounds_toArray, List.set_cons_succ, List.set_cons_zero])
    refine wpAnyH_take (i := 16) (oi := ⟨some 92, _, _, _, _, _⟩) (v := ?_) rfl (by kernel_rfl) (by kernel_rfl) (by kernel_rfl) (fun _ _ _ h => h) (Or.inl ⟨by kernel_rfl, ?_⟩) (by assumption) ?_
    rotate_left 1
    · (intro w hSw; (try dsimp only at hSw); go_simp) <;> (with_reducible rfl)
    (try simp only [Act.put, List.setIfInBounds_toArray, List.set_cons_succ, List.set_cons_zero])
    refine wpAnyH_ready (rs := [18]) (by kernel_rfl) (by simp) ?_
    refine AllReadyH.cons (o := ⟨none, _, _, _, _, _⟩) rfl (fun K' hK => ?_) AllReadyH.nil
    obtain ⟨x0, x1, x2⟩ := SB.cells Z.out
    obtain ⟨f0, f1, f2⟩ := SB.free Z.out
    go_simp
    replace K := hide (show Below w.heap.size w (((wc.setCell ⟨cb, 0, none⟩ (.int .i64 s0)).setCell ⟨cb, 1, none⟩ (.int .i64 s1)).setCell ⟨cb, 2, none⟩ (.bool s2)) from bset3 K.out HC.out)
    replace Y := hide (show Box (((wc.setCell ⟨cb, 0, none⟩ (.int .i64 s0)).setCell ⟨cb, 1, none⟩ (.int .i64 s1)).setCell ⟨cb, 2, none⟩ (.bool s2)) g4 36 #[.int .i64 n, .int .i64 m] from Box.far (Box.far (Box.far Y.out HN.out _) HN.out _) HN.out _)
    replace Z := hide (show SB (((wc.setCell ⟨cb, 0, none⟩ (.int .i64 s0)).setCell ⟨cb, 1, none⟩ (.int .i64 s1)).setCell ⟨cb, 2, none⟩ (.bool s2)) cb ⟨s0, s1, s2⟩ from SB.put Z.out)
    clear x0 x1 x2 f0 f1 f2
    generalize (((wc.setCell ⟨cb, 0, none⟩ (.int .i64 s0)).setCell ⟨cb, 1, none⟩ (.int .i64 s1)).setCell ⟨cb, 2, none⟩ (.bool s2)) = wu at *
    refine hK.out _ _ ?_ (fun hHeld => ?_)
    · exact ⟨YC.out _ K.out, Box.cell Y.out 0, Box.cell Y.out 1⟩
    clear hK K'
    (try simp only [Act.put, List.setIfInBounds_toArray, List.set_cons_succ, List.set_cons_zero])
    refine wpAnyH_take (i := 19) (oi := ⟨some 13, _, _, _, _, _⟩) (v := ?_) rfl (by kernel_rfl) (by kernel_rfl) (by kernel_rfl) (fun _ _ _ h => h) (Or.inl ⟨by kernel_rfl, ?_⟩) (by assumption) ?_
    rotate_left 1
    · (intro w hSw; (try dsimp only at hSw); go_simp) <;> (with_reducible rfl)
    (try simp only [Act.put, List.setIfInBounds_toArray, List.set_cons_succ, List.set_cons_zero])
    refine wpAnyH_done (by kernel_rfl) ?_ _
    refine NoPanic.normal ?_
    by_cases hn0 : n < 0
    · exfalso; omega
    by_cases hm0 : m < 0
    · obtain ⟨hze, hzp⟩ := FF2.out (.inr hm0)
      subst hze
      try clear y0 y1
      have y0 := Box.cell Y.out 0
      have y1 := Box.cell Y.out 1
      go_upto_region 12 with fail
      clear y0 y1
      have hdr : Below wu.heap.size wu wu.drew := below_drewN (brefl _) 1
      replace K := hide (btrans K.out hdr)
      replace Y := hide (Y.out.below hdr)
      replace Z := hide (Z.out.below hdr)
      clear hdr
      refine wp_region_noPanic ?_
      refine wp_region_held_drew (S := (fun W => (W.cell? ⟨b, off, none⟩ = some (.int .i64 p0) ∧ W.cell? ⟨b, off + 1, none⟩ = some (.int .i64 a0) ∧ W.cell? ⟨b, off + 2, none⟩ = some (.int .i64 e0) ∧ W.cell? ⟨b, off + 3, none⟩ = some (.int .i64 u0)) ∧ W.cell? ⟨g4, 0, none⟩ = some (.int .i64 n) ∧ W.cell? ⟨g4, 1, none⟩ = some (.int .i64 m))) (by kernel_rfl) ?_ (fun hHeld => ?_)
      · exact ⟨YD.out _ K.out, Box.cell Y.out 0, Box.cell Y.out 1⟩
      generalize wu.drew = wx at *
      refine wpAnyH_take (i := 0) (oi := ⟨some 102, _, _, _, _, _⟩) (v := ?_) rfl (by kernel_rfl) (by kernel_rfl) (by kernel_rfl) (fun _ _ _ h => h) (Or.inl ⟨by kernel_rfl, ?_⟩) (by assumption) ?_
      rotate_left 1
      · (intro w hSw; (try dsimp only at hSw); go_simp) <;> (with_reducible rfl)
      (try simp only [Act.put, List.setIfInBounds_toArray, List.set_cons_succ, List.set_cons_zero])
      refine wpAnyH_take (i := 1) (oi := ⟨some 103, _, _, _, _, _⟩) (v := ?_) rfl (by kernel_rfl) (by kernel_rfl) (by kernel_rfl) (fun _ _ _ h => h) (Or.inl ⟨by kernel_rfl, ?_⟩) (by assumption) ?_
      rotate_left 1
      · (intro w hSw; (try dsimp only at hSw); go_simp) <;> (with_reducible rfl)
      (try simp only [Act.put, List.setIfInBounds_toArray, List.set_cons_succ, List.set_cons_zero])
      refine wpAnyH_take (i := 2) (oi := ⟨some 104, _, _, _, _, _⟩) (v := ?_) rfl (by kernel_rfl) (by kernel_rfl) (by kernel_rfl) (fun _ _ _ h => h) (Or.inl ⟨by kernel_rfl, ?_⟩) (by assumption) ?_
      rotate_left 1
      · (intro w hSw; (try dsimp only at hSw); go_simp) <;> (with_reducible rfl)
      (try simp only [Act.put, List.setIfInBounds_toArray, List.set_cons_succ, List.set_cons_zero])
      refine wpAnyH_take (i := 3) (oi := ⟨some 105, _, _, _, _, _⟩) (v := ?_) rfl (by kernel_rfl) (by kernel_rfl) (by kernel_rfl) (fun _ _ _ h => h) (Or.inl ⟨by kernel_rfl, ?_⟩) (by assumption) ?_
      rotate_left 1
      · (intro w hSw; (try dsimp only at hSw); go_simp) <;> (with_reducible rfl)
      (try simp only [Act.put, List.setIfInBounds_toArray, List.set_cons_succ, List.set_cons_zero])
      refine wpAnyH_take (i := 4) (oi := ⟨some 106, _, _, _, _, _⟩) (v := ?_) rfl (by kernel_rfl) (by kernel_rfl) (by kernel_rfl) (fun _ _ _ h => h) (Or.inl ⟨by kernel_rfl, ?_⟩) (by assumption) ?_
      rotate_left 1
      · (intro w hSw; (try dsimp only at hSw); go_simp) <;> (with_reducible rfl)
      (try simp only [Act.put, List.setIfInBounds_toArray, List.set_cons_succ, List.set_cons_zero])
      refine wpAnyH_take (i := 5) (oi := ⟨some 107, _, _, _, _, _⟩) (v := ?_) rfl (by kernel_rfl) (by kernel_rfl) (by kernel_rfl) (fun _ _ _ h => h) (Or.inl ⟨by kernel_rfl, ?_⟩) (by assumption) ?_
      rotate_left 1
      · (intro w hSw; (try dsimp only at hSw); go_simp) <;> (with_reducible rfl)
      (try simp only [Act.put, List.setIfInBounds_toArray, List.set_cons_succ, List.set_cons_zero])
      refine wpAnyH_take (i := 6) (oi := ⟨some 108, _, _, _, _, _⟩) (v := ?_) rfl (by kernel_rfl) (by kernel_rfl) (by kernel_rfl) (fun _ _ _ h => h) (Or.inl ⟨by kernel_rfl, ?_⟩) (by assumption) ?_
      rotate_left 1
      · (intro w hSw; (try dsimp only at hSw); go_simp) <;> (with_reducible rfl)
      (try simp only [Act.put, List.setIfInBounds_toArray, List.set_cons_succ, List.set_cons_zero])
      refine wpAnyH_take (i := 7) (oi := ⟨some 109, _, _, _, _, _⟩) (v := ?_) rfl (by kernel_rfl) (by kernel_rfl) (by kernel_rfl) (fun _ _ _ h => h) (Or.inl ⟨by kernel_rfl, ?_⟩) (by assumption) ?_
      rotate_left 1
      · (intro w hSw; (try dsimp only at hSw); go_simp) <;> (with_reducible rfl)
      (try simp only [Act.put, List.setIfInBounds_toArray, List.set_cons_succ, List.set_cons_zero])
      refine wpAnyH_ready (rs := [8]) (by kernel_rfl) (by simp) ?_
      refine AllReadyH.cons (o := ⟨some 110, _, _, _, _, _⟩) rfl (fun K' hK => ?_) AllReadyH.nil
      go_simp
      refine (S0.out _ K.out).mono ?_
      rintro e wd ⟨rfl, hb⟩
      replace K := hide (btrans K.out hb)
      replace Y := hide (Y.out.below hb)
      replace Z := hide (Z.out.below hb)
      clear hb
      refine hK.out _ _ ?_ (fun hHeld => ?_)
      · exact ⟨YD.out _ K.out, Box.cell Y.out 0, Box.cell Y.out 1⟩
      clear hK K'
      (try simp only [Act.put, List.setIfInBounds_toArray, List.set_cons_succ, List.set_cons_zero])
      refine wpAnyH_take (i := 9) (oi := ⟨some 101, _, _, _, _, _⟩) (v := ?_) rfl (by kernel_rfl) (by kernel_rfl) (by kernel_rfl) (fun _ _ _ h => h) (Or.inl ⟨by kernel_rfl, ?_⟩) (by assumption) ?_
      rotate_left 1
      · (intro w hSw; (try dsimp only at hSw); go_simp) <;> (with_reducible rfl)
      (try simp only [Act.put, List.setIfInBounds_toArray, List.set_cons_succ, List.set_cons_zero])
      refine wpAnyH_take (i := 10) (oi := ⟨some 111, _, _, _, _, _⟩) (v := ?_) rfl (by kernel_rfl) (by kernel_rfl) (by kernel_rfl) (fun _ _ _ h => h) (Or.inl ⟨by kernel_rfl, ?_⟩) (by assumption) ?_
      rotate_left 1
      · (intro w hSw; (try dsimp only at hSw); go_simp) <;> (with_reducible rfl)
      (try simp only [Act.put, List.setIfInBounds_toArray, List.set_cons_succ, List.set_cons_zero])
      refine wpAnyH_take (i := 11) (oi := ⟨some 112, _, _, _, _, _⟩) (v := ?_) rfl (by kernel_rfl) (by kernel_rfl) (by kernel_rfl) (fun _ _ _ h => h) (Or.inl ⟨by kernel_rfl, ?_⟩) (by assumption) ?_
      rotate_left 1
      · (intro w hSw; (try dsimp only at hSw); go_simp) <;> (with_reducible rfl)
      (try simp only [Act.put, List.setIfInBounds_toArray, List.set_cons_succ, List.set_cons_zero])
      refine wpAnyH_ready (rs := [12]) (by kernel_rfl) (by simp) ?_
      refine AllReadyH.cons (o := ⟨none, _, _, _, _, _⟩) rfl (fun K' hK => ?_) AllReadyH.nil
      obtain ⟨x0, x1, x2⟩ := SB.cells Z.out
      obtain ⟨f0, f1, f2⟩ := SB.free Z.out
      go_simp
      replace K := hide (show Below w.heap.size w (((wd.setCell ⟨cb, 0, none⟩ (.int .i64 z0)).setCell ⟨cb, 1, none⟩ (.int .i64 z1)).setCell ⟨cb, 2, none⟩ (.bool z2)) from bset3 K.out HC.out)
      replace Y := hide (show Box (((wd.setCell ⟨cb, 0, none⟩ (.int .i64 z0)).setCell ⟨cb, 1, none⟩ (.int .i64 z1)).setCell ⟨cb, 2, none⟩ (.bool z2)) g4 36 #[.int .i64 n, .int .i64 m] from Box.far (Box.far (Box.far Y.out HN.out _) HN.out _) HN.out _)
      replace Z := hide (show SB (((wd.setCell ⟨cb, 0, none⟩ (.int .i64 z0)).setCell ⟨cb, 1, none⟩ (.int .i64 z1)).setCell ⟨cb, 2, none⟩ (.bool z2)) cb ⟨z0, z1, z2⟩ from SB.put Z.out)
      clear x0 x1 x2 f0 f1 f2
      generalize (((wd.setCell ⟨cb, 0, none⟩ (.int .i64 z0)).setCell ⟨cb, 1, none⟩ (.int .i64 z1)).setCell ⟨cb, 2, none⟩ (.bool z2)) = wv at *
      refine hK.out _ _ ?_ (fun hHeld => ?_)
      · exact ⟨YD.out _ K.out, Box.cell Y.out 0, Box.cell Y.out 1⟩
      clear hK K'
      (try simp only [Act.put, List.setIfInBounds_toArray, List.set_cons_succ, List.set_cons_zero])
      refine wpAnyH_take (i := 13) (oi := ⟨some 13, _, _, _, _, _⟩) (v := ?_) rfl (by kernel_rfl) (by kernel_rfl) (by kernel_rfl) (fun _ _ _ h => h) (Or.inl ⟨by kernel_rfl, ?_⟩) (by assumption) ?_
      rotate_left 1
      · (intro w hSw; (try dsimp only at hSw); go_simp) <;> (with_reducible rfl)
      (try simp only [Act.put, List.setIfInBounds_toArray, List.set_cons_succ, List.set_cons_zero])
      refine wpAnyH_done (by kernel_rfl) ?_ _
      refine NoPanic.normal ?_
      obtain ⟨x0, x1, x2⟩ := SB.cells Z.out
      (try simp only [Exit.inBlock, Exit.then])
      apply_assumption
      go_wp2
      go_ret
      exact ⟨rfl, K.out⟩
    try clear y0 y1
    have y0 := Box.cell Y.out 0
    have y1 := Box.cell Y.out 1
    obtain ⟨x0, x1, x2⟩ := SB.cells Z.out
    go_wp2
    go_ret
    exact ⟨rfl, K.out⟩
  · have hpi : ¬ (0 : Int) < (k : Int) := by omega
    clear PQ
    go_upto_region 10 with fail
    clear y0 y1
    have hdr : Below w7.heap.size w7 w7.drew := below_drewN (brefl _) 1
    replace K := hide (btrans K.out hdr)
    replace K1 := hide (btrans K1.out hdr)
    replace Y := hide (Y.out.below hdr)
    clear hdr
    refine wp_region_noPanic ?_
    refine wp_region_held_drew (S := (fun W => (W.cell? ⟨b, off + k * 4, none⟩ = some (.int .i64 pc) ∧ W.cell? ⟨b, off + k * 4 + 1, none⟩ = some (.int .i64 ac) ∧ W.cell? ⟨b, off + k * 4 + 2, none⟩ = some (.int .i64 ke) ∧ W.cell? ⟨b, off + k * 4 + 3, none⟩ = some (.int .i64 us)) ∧ W.cell? ⟨g4, 0, none⟩ = some (.int .i64 n) ∧ W.cell? ⟨g4, 1, none⟩ = some (.int .i64 m))) (by kernel_rfl) ?_ (fun hHeld => ?_)
    · exact ⟨YC.out _ K.out, Box.cell Y.out 0, Box.cell Y.out 1⟩
    generalize w7.drew = w8 at *
    refine wpAnyH_take (i := 0) (oi := ⟨some 77, _, _, _, _, _⟩) (v := ?_) rfl (by kernel_rfl) (by kernel_rfl) (by kernel_rfl) (fun _ _ _ h => h) (Or.inl ⟨by kernel_rfl, ?_⟩) (by assumption) ?_
    rotate_left 1
    · (intro w hSw; (try dsimp only at hSw); go_simp) <;> (with_reducible rfl)
    (try simp only [Act.put, List.setIfInBounds_toArray, List.set_cons_succ, List.set_cons_zero])
    refine wpAnyH_take (i := 1) (oi := ⟨some 78, _, _, _, _, _⟩) (v := ?_) rfl (by kernel_rfl) (by kernel_rfl) (by kernel_rfl) (fun _ _ _ h => h) (Or.inl ⟨by kernel_rfl, ?_⟩) (by assumption) ?_
    rotate_left 1
    · (intro w hSw; (try dsimp only at hSw); go_simp) <;> (with_reducible rfl)
    (try simp only [Act.put, List.setIfInBounds_toArray, List.set_cons_succ, List.set_cons_zero])
    refine wpAnyH_take (i := 2) (oi := ⟨some 79, _, _, _, _, _⟩) (v := ?_) rfl (by kernel_rfl) (by kernel_rfl) (by kernel_rfl) (fun _ _ _ h => h) (Or.inl ⟨by kernel_rfl, ?_⟩) (by assumption) ?_
    rotate_left 1
    · (intro w hSw; (try dsimp only at hSw); go_simp) <;> (with_reducible rfl)
    (try simp only [Act.put, List.setIfInBounds_toArray, List.set_cons_succ, List.set_cons_zero])
    refine wpAnyH_take (i := 3) (oi := ⟨some 80, _, _, _, _, _⟩) (v := ?_) rfl (by kernel_rfl) (by kernel_rfl) (by kernel_rfl) (fun _ _ _ h => h) (Or.inl ⟨by kernel_rfl, ?_⟩) (by assumption) ?_
    rotate_left 1
    · (intro w hSw; (try dsimp only at hSw); go_simp) <;> (with_reducible rfl)
    (try simp only [Act.put, List.setIfInBounds_toArray, List.set_cons_succ, List.set_cons_zero])
    refine wpAnyH_take (i := 4) (oi := ⟨some 81, _, _, _, _, _⟩) (v := ?_) rfl (by kernel_rfl) (by kernel_rfl) (by kernel_rfl) (fun _ _ _ h => h) (Or.inl ⟨by kernel_rfl, ?_⟩) (by assumption) ?_
    rotate_left 1
    · (intro w hSw; (try dsimp only at hSw); go_simp) <;> (with_reducible rfl)
    (try simp only [Act.put, List.setIfInBounds_toArray, List.set_cons_succ, List.set_cons_zero])
    refine wpAnyH_take (i := 5) (oi := ⟨some 82, _, _, _, _, _⟩) (v := ?_) rfl (by kernel_rfl) (by kernel_rfl) (by kernel_rfl) (fun _ _ _ h => h) (Or.inl ⟨by kernel_rfl, ?_⟩) (by assumption) ?_
    rotate_left 1
    · (intro w hSw; (try dsimp only at hSw); go_simp) <;> (with_reducible rfl)
    (try simp only [Act.put, List.setIfInBounds_toArray, List.set_cons_succ, List.set_cons_zero])
    refine wpAnyH_take (i := 6) (oi := ⟨some 83, _, _, _, _, _⟩) (v := ?_) rfl (by kernel_rfl) (by kernel_rfl) (by kernel_rfl) (fun _ _ _ h => h) (Or.inl ⟨by kernel_rfl, ?_⟩) (by assumption) ?_
    rotate_left 1
    · (intro w hSw; (try dsimp only at hSw); go_simp) <;> (with_reducible rfl)
    (try simp only [Act.put, List.setIfInBounds_toArray, List.set_cons_succ, List.set_cons_zero])
    refine wpAnyH_take (i := 7) (oi := ⟨some 84, _, _, _, _, _⟩) (v := ?_) rfl (by kernel_rfl) (by kernel_rfl) (by kernel_rfl) (fun _ _ _ h => h) (Or.inl ⟨by kernel_rfl, ?_⟩) (by assumption) ?_
    rotate_left 1
    · (intro w hSw; (try dsimp only at hSw); go_simp) <;> (with_reducible rfl)
    (try simp only [Act.put, List.setIfInBounds_toArray, List.set_cons_succ, List.set_cons_zero])
    refine wpAnyH_take (i := 8) (oi := ⟨some 85, _, _, _, _, _⟩) (v := ?_) rfl (by kernel_rfl) (by kernel_rfl) (by kernel_rfl) (fun _ _ _ h => h) (Or.inl ⟨by kernel_rfl, ?_⟩) (by assumption) ?_
    rotate_left 1
    · (intro w hSw; (try dsimp only at hSw); go_simp) <;> (with_reducible rfl)
    (try simp only [Act.put, List.setIfInBounds_toArray, List.set_cons_succ, List.set_cons_zero])
    refine wpAnyH_take (i := 9) (oi := ⟨some 86, _, _, _, _, _⟩) (v := ?_) rfl (by kernel_rfl) (by kernel_rfl) (by kernel_rfl) (fun _ _ _ h => h) (Or.inl ⟨by kernel_rfl, ?_⟩) (by assumption) ?_
    rotate_left 1
    · (intro w hSw; (try dsimp only at hSw); go_simp) <;> (with_reducible rfl)
    (try simp only [Act.put, List.setIfInBounds_toArray, List.set_cons_succ, List.set_cons_zero])
    refine wpAnyH_take (i := 10) (oi := ⟨some 87, _, _, _, _, _⟩) (v := ?_) rfl (by kernel_rfl) (by kernel_rfl) (by kernel_rfl) (fun _ _ _ h => h) (Or.inl ⟨by kernel_rfl, ?_⟩) (by assumption) ?_
    rotate_left 1
    · (intro w hSw; (try dsimp only at hSw); go_simp) <;> (with_reducible rfl)
    (try simp only [Act.put, List.setIfInBounds_toArray, List.set_cons_succ, List.set_cons_zero])
    refine wpAnyH_take (i := 11) (oi := ⟨some 88, _, _, _, _, _⟩) (v := ?_) rfl (by kernel_rfl) (by kernel_rfl) (by kernel_rfl) (fun _ _ _ h => h) (Or.inl ⟨by kernel_rfl, ?_⟩) (by assumption) ?_
    rotate_left 1
    · (intro w hSw; (try dsimp only at hSw); go_simp) <;> (with_reducible rfl)
    (try simp only [Act.put, List.setIfInBounds_toArray, List.set_cons_succ, List.set_cons_zero])
    refine wpAnyH_take (i := 12) (oi := ⟨some 89, _, _, _, _, _⟩) (v := ?_) rfl (by kernel_rfl) (by kernel_rfl) (by kernel_rfl) (fun _ _ _ h => h) (Or.inl ⟨by kernel_rfl, ?_⟩) (by assumption) ?_
    rotate_left 1
    · (intro w hSw; (try dsimp only at hSw); go_simp) <;> (with_reducible rfl)
    (try simp only [Act.put, List.setIfInBounds_toArray, List.set_cons_succ, List.set_cons_zero])
    refine wpAnyH_ready (rs := [13, 17]) (by kernel_rfl) (by simp) ?_
    refine AllReadyH.cons (o := ⟨some 90, _, _, _, _, _⟩) rfl (fun K' hK => ?_) ?_
    · go_simp
      refine (SH.out A1 c1 _ (O1.out _ K1.out) C1.out).mono ?_
      rintro e wc ⟨rfl, hb⟩
      replace K := hide (btrans K.out hb)
      replace K1 := hide (btrans K1.out hb)
      replace Y := hide (Y.out.below hb)
      clear hb
      refine hK.out _ _ ?_ (fun hHeld => ?_)
      · exact ⟨YC.out _ K.out, Box.cell Y.out 0, Box.cell Y.out 1⟩
      clear hK K'
      (try simp only [Act.put, List.setIfInBounds_toArray, List.set_cons_succ, List.set_cons_zero])
      refine wpAnyH_take (i := 14) (oi := ⟨some 76, _, _, _, _, _⟩) (v := ?_) rfl (by kernel_rfl) (by kernel_rfl) (by kernel_rfl) (fun _ _ _ h => h) (Or.inl ⟨by kernel_rfl, ?_⟩) (by assumption) ?_
      rotate_left 1
      · (intro w hSw; (try dsimp only at hSw); go_simp) <;> (with_reducible rfl)
      (try simp only [Act.put, List.setIfInBounds_toArray, List.set_cons_succ, List.set_cons_zero])
      refine wpAnyH_take (i := 15) (oi := ⟨some 91, _, _, _, _, _⟩) (v := ?_) rfl (by kernel_rfl) (by kernel_rfl) (by kernel_rfl) (fun _ _ _ h => h) (Or.inl ⟨by kernel_rfl, ?_⟩) (by assumption) ?_
      rotate_left 1
      · (intro w hSw; (try dsimp only at hSw); go_simp) <;> (with_reducible rfl)
      (try simp only [Act.put, List.setIfInBounds_toArray, List.set_cons_succ, List.set_cons_zero])
      refine wpAnyH_take (i := 16) (oi := ⟨some 92, _, _, _, _, _⟩) (v := ?_) rfl (by kernel_rfl) (by kernel_rfl) (by kernel_rfl) (fun _ _ _ h => h) (Or.inl ⟨by kernel_rfl, ?_⟩) (by assumption) ?_
      rotate_left 1
      · (intro w hSw; (try dsimp only at hSw); go_simp) <;> (with_reducible rfl)
      (try simp only [Act.put, List.setIfInBounds_toArray, List.set_cons_succ, List.set_cons_zero])
      refine wpAnyH_ready (rs := [17]) (by kernel_rfl) (by simp) ?_
      refine AllReadyH.cons (o := ⟨some 12, _, _, _, _, _⟩) rfl (fun K' hK => ?_) AllReadyH.nil
      go_simp
      have Z := hide (SB.new wc 0 0 false)
      have M1 := bal (brefl wc) (.cells #[.int .i64 0, .int .i64 0, .bool false] 38)
      have HC0 := K.out.size
      have HN0 := Y.out.lt
      obtain ⟨cb, hcb⟩ : ∃ cb, cb = wc.heap.size := ⟨_, rfl⟩
      have HC := hide (show w.heap.size ≤ cb by omega)
      have HN := hide (show g4 ≠ cb by omega)
      replace K := hide (btrans K.out M1)
      replace K1 := hide (btrans K1.out M1)
      replace Y := hide (Y.out.below M1)
      rw [← hcb] at Z ⊢
      clear hcb HC0 HN0 M1
      generalize wc.alloc (.cells #[.int .i64 0, .int .i64 0, .bool false] 38) = wa at *
      refine hK.out _ _ ?_ (fun hHeld => ?_)
      · exact ⟨YC.out _ K.out, Box.cell Y.out 0, Box.cell Y.out 1⟩
      clear hK K'
      (try simp only [Act.put, List.setIfInBounds_toArray, List.set_cons_succ, List.set_cons_zero])
      refine wpAnyH_ready (rs := [18]) (by kernel_rfl) (by simp) ?_
      refine AllReadyH.cons (o := ⟨none, _, _, _, _, _⟩) rfl (fun K' hK => ?_) AllReadyH.nil
      obtain ⟨x0, x1, x2⟩ := SB.cells Z.out
      obtain ⟨f0, f1, f2⟩ := SB.free Z.out
      go_simp
      replace K := hide (show Below w.heap.size w (((wa.setCell ⟨cb, 0, none⟩ (.int .i64 s0)).setCell ⟨cb, 1, none⟩ (.int .i64 s1)).setCell ⟨cb, 2, none⟩ (.bool s2)) from bset3 K.out HC.out)
      replace Y := hide (show Box (((wa.setCell ⟨cb, 0, none⟩ (.int .i64 s0)).setCell ⟨cb, 1, none⟩ (.int .i64 s1)).setCell ⟨cb, 2, none⟩ (.bool s2)) g4 36 #[.int .i64 n, .int .i64 m] from Box.far (Box.far (Box.far Y.out HN.out _) HN.out _) HN.out _)
      replace Z := hide (show SB (((wa.setCell ⟨cb, 0, none⟩ (.int .i64 s0)).setCell ⟨cb, 1, none⟩ (.int .i64 s1)).setCell ⟨cb, 2, none⟩ (.bool s2)) cb ⟨s0, s1, s2⟩ from SB.put Z.out)
      clear x0 x1 x2 f0 f1 f2
      generalize (((wa.setCell ⟨cb, 0, none⟩ (.int .i64 s0)).setCell ⟨cb, 1, none⟩ (.int .i64 s1)).setCell ⟨cb, 2, none⟩ (.bool s2)) = wu at *
      refine hK.out _ _ ?_ (fun hHeld => ?_)
      · exact ⟨YC.out _ K.out, Box.cell Y.out 0, Box.cell Y.out 1⟩
      clear hK K'
      (try simp only [Act.put, List.setIfInBounds_toArray, List.set_cons_succ, List.set_cons_zero])
      refine wpAnyH_take (i := 19) (oi := ⟨some 13, _, _, _, _, _⟩) (v := ?_) rfl (by kernel_rfl) (by kernel_rfl) (by kernel_rfl) (fun _ _ _ h => h) (Or.inl ⟨by kernel_rfl, ?_⟩) (by assumption) ?_
      rotate_left 1
      · (intro w hSw; (try dsimp only at hSw); go_simp) <;> (with_reducible rfl)
      (try simp only [Act.put, List.setIfInBounds_toArray, List.set_cons_succ, List.set_cons_zero])
      refine wpAnyH_done (by kernel_rfl) ?_ _
      refine NoPanic.normal ?_
      by_cases hn0 : n < 0
      · obtain ⟨hze, hzp⟩ := FF2.out (.inl hn0)
        subst hze
        try clear y0 y1
        have y0 := Box.cell Y.out 0
        have y1 := Box.cell Y.out 1
        go_upto_region 12 with fail
        clear y0 y1
        have hdr : Below wu.heap.size wu wu.drew := below_drewN (brefl _) 1
        replace K := hide (btrans K.out hdr)
        replace Y := hide (Y.out.below hdr)
        replace Z := hide (Z.out.below hdr)
        clear hdr
        refine wp_region_noPanic ?_
        refine wp_region_held_drew (S := (fun W => (W.cell? ⟨b, off, none⟩ = some (.int .i64 p0) ∧ W.cell? ⟨b, off + 1, none⟩ = some (.int .i64 a0) ∧ W.cell? ⟨b, off + 2, none⟩ = some (.int .i64 e0) ∧ W.cell? ⟨b, off + 3, none⟩ = some (.int .i64 u0)) ∧ W.cell? ⟨g4, 0, none⟩ = some (.int .i64 n) ∧ W.cell? ⟨g4, 1, none⟩ = some (.int .i64 m))) (by kernel_rfl) ?_ (fun hHeld => ?_)
        · exact ⟨YD.out _ K.out, Box.cell Y.out 0, Box.cell Y.out 1⟩
        generalize wu.drew = wx at *
        refine wpAnyH_take (i := 0) (oi := ⟨some 102, _, _, _, _, _⟩) (v := ?_) rfl (by kernel_rfl) (by kernel_rfl) (by kernel_rfl) (fun _ _ _ h => h) (Or.inl ⟨by kernel_rfl, ?_⟩) (by assumption) ?_
        rotate_left 1
        · (intro w hSw; (try dsimp only at hSw); go_simp) <;> (with_reducible rfl)
        (try simp only [Act.put, List.setIfInBounds_toArray, List.set_cons_succ, List.set_cons_zero])
        refine wpAnyH_take (i := 1) (oi := ⟨some 103, _, _, _, _, _⟩) (v := ?_) rfl (by kernel_rfl) (by kernel_rfl) (by kernel_rfl) (fun _ _ _ h => h) (Or.inl ⟨by kernel_rfl, ?_⟩) (by assumption) ?_
        rotate_left 1
        · (intro w hSw; (try dsimp only at hSw); go_simp) <;> (with_reducible rfl)
        (try simp only [Act.put, List.setIfInBounds_toArray, List.set_cons_succ, List.set_cons_zero])
        refine wpAnyH_take (i := 2) (oi := ⟨some 104, _, _, _, _, _⟩) (v := ?_) rfl (by kernel_rfl) (by kernel_rfl) (by kernel_rfl) (fun _ _ _ h => h) (Or.inl ⟨by kernel_rfl, ?_⟩) (by assumption) ?_
        rotate_left 1
        · (intro w hSw; (try dsimp only at hSw); go_simp) <;> (with_reducible rfl)
        (try simp only [Act.put, List.setIfInBounds_toArray, List.set_cons_succ, List.set_cons_zero])
        refine wpAnyH_take (i := 3) (oi := ⟨some 105, _, _, _, _, _⟩) (v := ?_) rfl (by kernel_rfl) (by kernel_rfl) (by kernel_rfl) (fun _ _ _ h => h) (Or.inl ⟨by kernel_rfl, ?_⟩) (by assumption) ?_
        rotate_left 1
        · (intro w hSw; (try dsimp only at hSw); go_simp) <;> (with_reducible rfl)
        (try simp only [Act.put, List.setIfInBounds_toArray, List.set_cons_succ, List.set_cons_zero])
        refine wpAnyH_take (i := 4) (oi := ⟨some 106, _, _, _, _, _⟩) (v := ?_) rfl (by kernel_rfl) (by kernel_rfl) (by kernel_rfl) (fun _ _ _ h => h) (Or.inl ⟨by kernel_rfl, ?_⟩) (by assumption) ?_
        rotate_left 1
        · (intro w hSw; (try dsimp only at hSw); go_simp) <;> (with_reducible rfl)
        (try simp only [Act.put, List.setIfInBounds_toArray, List.set_cons_succ, List.set_cons_zero])
        refine wpAnyH_take (i := 5) (oi := ⟨some 107, _, _, _, _, _⟩) (v := ?_) rfl (by kernel_rfl) (by kernel_rfl) (by kernel_rfl) (fun _ _ _ h => h) (Or.inl ⟨by kernel_rfl, ?_⟩) (by assumption) ?_
        rotate_left 1
        · (intro w hSw; (try dsimp only at hSw); go_simp) <;> (with_reducible rfl)
        (try simp only [Act.put, List.setIfInBounds_toArray, List.set_cons_succ, List.set_cons_zero])
        refine wpAnyH_take (i := 6) (oi := ⟨some 108, _, _, _, _, _⟩) (v := ?_) rfl (by kernel_rfl) (by kernel_rfl) (by kernel_rfl) (fun _ _ _ h => h) (Or.inl ⟨by kernel_rfl, ?_⟩) (by assumption) ?_
        rotate_left 1
        · (intro w hSw; (try dsimp only at hSw); go_simp) <;> (with_reducible rfl)
        (try simp only [Act.put, List.setIfInBounds_toArray, List.set_cons_succ, List.set_cons_zero])
        refine wpAnyH_take (i := 7) (oi := ⟨some 109, _, _, _, _, _⟩) (v := ?_) rfl (by kernel_rfl) (by kernel_rfl) (by kernel_rfl) (fun _ _ _ h => h) (Or.inl ⟨by kernel_rfl, ?_⟩) (by assumption) ?_
        rotate_left 1
        · (intro w hSw; (try dsimp only at hSw); go_simp) <;> (with_reducible rfl)
        (try simp only [Act.put, List.setIfInBounds_toArray, List.set_cons_succ, List.set_cons_zero])
        refine wpAnyH_ready (rs := [8]) (by kernel_rfl) (by simp) ?_
        refine AllReadyH.cons (o := ⟨some 110, _, _, _, _, _⟩) rfl (fun K' hK => ?_) AllReadyH.nil
        go_simp
        refine (S0.out _ K.out).mono ?_
        rintro e wd ⟨rfl, hb⟩
        replace K := hide (btrans K.out hb)
        replace Y := hide (Y.out.below hb)
        replace Z := hide (Z.out.below hb)
        clear hb
        refine hK.out _ _ ?_ (fun hHeld => ?_)
        · exact ⟨YD.out _ K.out, Box.cell Y.out 0, Box.cell Y.out 1⟩
        clear hK K'
        (try simp only [Act.put, List.setIfInBounds_toArray, List.set_cons_succ, List.set_cons_zero])
        refine wpAnyH_take (i := 9) (oi := ⟨some 101, _, _, _, _, _⟩) (v := ?_) rfl (by kernel_rfl) (by kernel_rfl) (by kernel_rfl) (fun _ _ _ h => h) (Or.inl ⟨by kernel_rfl, ?_⟩) (by assumption) ?_
        rotate_left 1
        · (intro w hSw; (try dsimp only at hSw); go_simp) <;> (with_reducible rfl)
        (try simp only [Act.put, List.setIfInBounds_toArray, List.set_cons_succ, List.set_cons_zero])
        refine wpAnyH_take (i := 10) (oi := ⟨some 111, _, _, _, _, _⟩) (v := ?_) rfl (by kernel_rfl) (by kernel_rfl) (by kernel_rfl) (fun _ _ _ h => h) (Or.inl ⟨by kernel_rfl, ?_⟩) (by assumption) ?_
        rotate_left 1
        · (intro w hSw; (try dsimp only at hSw); go_simp) <;> (with_reducible rfl)
        (try simp only [Act.put, List.setIfInBounds_toArray, List.set_cons_succ, List.set_cons_zero])
        refine wpAnyH_take (i := 11) (oi := ⟨some 112, _, _, _, _, _⟩) (v := ?_) rfl (by kernel_rfl) (by kernel_rfl) (by kernel_rfl) (fun _ _ _ h => h) (Or.inl ⟨by kernel_rfl, ?_⟩) (by assumption) ?_
        rotate_left 1
        · (intro w hSw; (try dsimp only at hSw); go_simp) <;> (with_reducible rfl)
        (try simp only [Act.put, List.setIfInBounds_toArray, List.set_cons_succ, List.set_cons_zero])
        refine wpAnyH_ready (rs := [12]) (by kernel_rfl) (by simp) ?_
        refine AllReadyH.cons (o := ⟨none, _, _, _, _, _⟩) rfl (fun K' hK => ?_) AllReadyH.nil
        obtain ⟨x0, x1, x2⟩ := SB.cells Z.out
        obtain ⟨f0, f1, f2⟩ := SB.free Z.out
        go_simp
        replace K := hide (show Below w.heap.size w (((wd.setCell ⟨cb, 0, none⟩ (.int .i64 z0)).setCell ⟨cb, 1, none⟩ (.int .i64 z1)).setCell ⟨cb, 2, none⟩ (.bool z2)) from bset3 K.out HC.out)
        replace Y := hide (show Box (((wd.setCell ⟨cb, 0, none⟩ (.int .i64 z0)).setCell ⟨cb, 1, none⟩ (.int .i64 z1)).setCell ⟨cb, 2, none⟩ (.bool z2)) g4 36 #[.int .i64 n, .int .i64 m] from Box.far (Box.far (Box.far Y.out HN.out _) HN.out _) HN.out _)
        replace Z := hide (show SB (((wd.setCell ⟨cb, 0, none⟩ (.int .i64 z0)).setCell ⟨cb, 1, none⟩ (.int .i64 z1)).setCell ⟨cb, 2, none⟩ (.bool z2)) cb ⟨z0, z1, z2⟩ from SB.put Z.out)
        clear x0 x1 x2 f0 f1 f2
        generalize (((wd.setCell ⟨cb, 0, none⟩ (.int .i64 z0)).setCell ⟨cb, 1, none⟩ (.int .i64 z1)).setCell ⟨cb, 2, none⟩ (.bool z2)) = wv at *
        refine hK.out _ _ ?_ (fun hHeld => ?_)
        · exact ⟨YD.out _ K.out, Box.cell Y.out 0, Box.cell Y.out 1⟩
        clear hK K'
        (try simp only [Act.put, List.setIfInBounds_toArray, List.set_cons_succ, List.set_cons_zero])
        refine wpAnyH_take (i := 13) (oi := ⟨some 13, _, _, _, _, _⟩) (v := ?_) rfl (by kernel_rfl) (by kernel_rfl) (by kernel_rfl) (fun _ _ _ h => h) (Or.inl ⟨by kernel_rfl, ?_⟩) (by assumption) ?_
        rotate_left 1
        · (intro w hSw; (try dsimp only at hSw); go_simp) <;> (with_reducible rfl)
        (try simp only [Act.put, List.setIfInBounds_toArray, List.set_cons_succ, List.set_cons_zero])
        refine wpAnyH_done (by kernel_rfl) ?_ _
        refine NoPanic.normal ?_
        obtain ⟨x0, x1, x2⟩ := SB.cells Z.out
        (try simp only [Exit.inBlock, Exit.then])
        apply_assumption
        go_wp2
        go_ret
        exact ⟨rfl, K.out⟩
      by_cases hm0 : m < 0
      · obtain ⟨hze, hzp⟩ := FF2.out (.inr hm0)
        subst hze
        try clear y0 y1
        have y0 := Box.cell Y.out 0
        have y1 := Box.cell Y.out 1
        go_upto_region 12 with fail
        clear y0 y1
        have hdr : Below wu.heap.size wu wu.drew := below_drewN (brefl _) 1
        replace K := hide (btrans K.out hdr)
        replace Y := hide (Y.out.below hdr)
        replace Z := hide (Z.out.below hdr)
        clear hdr
        refine wp_region_noPanic ?_
        refine wp_region_held_drew (S := (fun W => (W.cell? ⟨b, off, none⟩ = some (.int .i64 p0) ∧ W.cell? ⟨b, off + 1, none⟩ = some (.int .i64 a0) ∧ W.cell? ⟨b, off + 2, none⟩ = some (.int .i64 e0) ∧ W.cell? ⟨b, off + 3, none⟩ = some (.int .i64 u0)) ∧ W.cell? ⟨g4, 0, none⟩ = some (.int .i64 n) ∧ W.cell? ⟨g4, 1, none⟩ = some (.int .i64 m))) (by kernel_rfl) ?_ (fun hHeld => ?_)
        · exact ⟨YD.out _ K.out, Box.cell Y.out 0, Box.cell Y.out 1⟩
        generalize wu.drew = wx at *
        refine wpAnyH_take (i := 0) (oi := ⟨some 102, _, _, _, _, _⟩) (v := ?_) rfl (by kernel_rfl) (by kernel_rfl) (by kernel_rfl) (fun _ _ _ h => h) (Or.inl ⟨by kernel_rfl, ?_⟩) (by assumption) ?_
        rotate_left 1
        · (intro w hSw; (try dsimp only at hSw); go_simp) <;> (with_reducible rfl)
        (try simp only [Act.put, List.setIfInBounds_toArray, List.set_cons_succ, List.set_cons_zero])
        refine wpAnyH_take (i := 1) (oi := ⟨some 103, _, _, _, _, _⟩) (v := ?_) rfl (by kernel_rfl) (by kernel_rfl) (by kernel_rfl) (fun _ _ _ h => h) (Or.inl ⟨by kernel_rfl, ?_⟩) (by assumption) ?_
        rotate_left 1
        · (intro w hSw; (try dsimp only at hSw); go_simp) <;> (with_reducible rfl)
        (try simp only [Act.put, List.setIfInBounds_toArray, List.set_cons_succ, List.set_cons_zero])
        refine wpAnyH_take (i := 2) (oi := ⟨some 104, _, _, _, _, _⟩) (v := ?_) rfl (by kernel_rfl) (by kernel_rfl) (by kernel_rfl) (fun _ _ _ h => h) (Or.inl ⟨by kernel_rfl, ?_⟩) (by assumption) ?_
        rotate_left 1
        · (intro w hSw; (try dsimp only at hSw); go_simp) <;> (with_reducible rfl)
        (try simp only [Act.put, List.setIfInBounds_toArray, List.set_cons_succ, List.set_cons_zero])
        refine wpAnyH_take (i := 3) (oi := ⟨some 105, _, _, _, _, _⟩) (v := ?_) rfl (by kernel_rfl) (by kernel_rfl) (by kernel_rfl) (fun _ _ _ h => h) (Or.inl ⟨by kernel_rfl, ?_⟩) (by assumption) ?_
        rotate_left 1
        · (intro w hSw; (try dsimp only at hSw); go_simp) <;> (with_reducible rfl)
        (try simp only [Act.put, List.setIfInBounds_toArray, List.set_cons_succ, List.set_cons_zero])
        refine wpAnyH_take (i := 4) (oi := ⟨some 106, _, _, _, _, _⟩) (v := ?_) rfl (by kernel_rfl) (by kernel_rfl) (by kernel_rfl) (fun _ _ _ h => h) (Or.inl ⟨by kernel_rfl, ?_⟩) (by assumption) ?_
        rotate_left 1
        · (intro w hSw; (try dsimp only at hSw); go_simp) <;> (with_reducible rfl)
        (try simp only [Act.put, List.setIfInBounds_toArray, List.set_cons_succ, List.set_cons_zero])
        refine wpAnyH_take (i := 5) (oi := ⟨some 107, _, _, _, _, _⟩) (v := ?_) rfl (by kernel_rfl) (by kernel_rfl) (by kernel_rfl) (fun _ _ _ h => h) (Or.inl ⟨by kernel_rfl, ?_⟩) (by assumption) ?_
        rotate_left 1
        · (intro w hSw; (try dsimp only at hSw); go_simp) <;> (with_reducible rfl)
        (try simp only [Act.put, List.setIfInBounds_toArray, List.set_cons_succ, List.set_cons_zero])
        refine wpAnyH_take (i := 6) (oi := ⟨some 108, _, _, _, _, _⟩) (v := ?_) rfl (by kernel_rfl) (by kernel_rfl) (by kernel_rfl) (fun _ _ _ h => h) (Or.inl ⟨by kernel_rfl, ?_⟩) (by assumption) ?_
        rotate_left 1
        · (intro w hSw; (try dsimp only at hSw); go_simp) <;> (with_reducible rfl)
        (try simp only [Act.put, List.setIfInBounds_toArray, List.set_cons_succ, List.set_cons_zero])
        refine wpAnyH_take (i := 7) (oi := ⟨some 109, _, _, _, _, _⟩) (v := ?_) rfl (by kernel_rfl) (by kernel_rfl) (by kernel_rfl) (fun _ _ _ h => h) (Or.inl ⟨by kernel_rfl, ?_⟩) (by assumption) ?_
        rotate_left 1
        · (intro w hSw; (try dsimp only at hSw); go_simp) <;> (with_reducible rfl)
        (try simp only [Act.put, List.setIfInBounds_toArray, List.set_cons_succ, List.set_cons_zero])
        refine wpAnyH_ready (rs := [8]) (by kernel_rfl) (by simp) ?_
        refine AllReadyH.cons (o := ⟨some 110, _, _, _, _, _⟩) rfl (fun K' hK => ?_) AllReadyH.nil
        go_simp
        refine (S0.out _ K.out).mono ?_
        rintro e wd ⟨rfl, hb⟩
        replace K := hide (btrans K.out hb)
        replace Y := hide (Y.out.below hb)
        replace Z := hide (Z.out.below hb)
        clear hb
        refine hK.out _ _ ?_ (fun hHeld => ?_)
        · exact ⟨YD.out _ K.out, Box.cell Y.out 0, Box.cell Y.out 1⟩
        clear hK K'
        (try simp only [Act.put, List.setIfInBounds_toArray, List.set_cons_succ, List.set_cons_zero])
        refine wpAnyH_take (i := 9) (oi := ⟨some 101, _, _, _, _, _⟩) (v := ?_) rfl (by kernel_rfl) (by kernel_rfl) (by kernel_rfl) (fun _ _ _ h => h) (Or.inl ⟨by kernel_rfl, ?_⟩) (by assumption) ?_
        rotate_left 1
        · (intro w hSw; (try dsimp only at hSw); go_simp) <;> (with_reducible rfl)
        (try simp only [Act.put, List.setIfInBounds_toArray, List.set_cons_succ, List.set_cons_zero])
        refine wpAnyH_take (i := 10) (oi := ⟨some 111, _, _, _, _, _⟩) (v := ?_) rfl (by kernel_rfl) (by kernel_rfl) (by kernel_rfl) (fun _ _ _ h => h) (Or.inl ⟨by kernel_rfl, ?_⟩) (by assumption) ?_
        rotate_left 1
        · (intro w hSw; (try dsimp only at hSw); go_simp) <;> (with_reducible rfl)
        (try simp only [Act.put, List.setIfInBounds_toArray, List.set_cons_succ, List.set_cons_zero])
        refine wpAnyH_take (i := 11) (oi := ⟨some 112, _, _, _, _, _⟩) (v := ?_) rfl (by kernel_rfl) (by kernel_rfl) (by kernel_rfl) (fun _ _ _ h => h) (Or.inl ⟨by kernel_rfl, ?_⟩) (by assumption) ?_
        rotate_left 1
        · (intro w hSw; (try dsimp only at hSw); go_simp) <;> (with_reducible rfl)
        (try simp only [Act.put, List.setIfInBounds_toArray, List.set_cons_succ, List.set_cons_zero])
        refine wpAnyH_ready (rs := [12]) (by kernel_rfl) (by simp) ?_
        refine AllReadyH.cons (o := ⟨none, _, _, _, _, _⟩) rfl (fun K' hK => ?_) AllReadyH.nil
        obtain ⟨x0, x1, x2⟩ := SB.cells Z.out
        obtain ⟨f0, f1, f2⟩ := SB.free Z.out
        go_simp
        replace K := hide (show Below w.heap.size w (((wd.setCell ⟨cb, 0, none⟩ (.int .i64 z0)).setCell ⟨cb, 1, none⟩ (.int .i64 z1)).setCell ⟨cb, 2, none⟩ (.bool z2)) from bset3 K.out HC.out)
        replace Y := hide (show Box (((wd.setCell ⟨cb, 0, none⟩ (.int .i64 z0)).setCell ⟨cb, 1, none⟩ (.int .i64 z1)).setCell ⟨cb, 2, none⟩ (.bool z2)) g4 36 #[.int .i64 n, .int .i64 m] from Box.far (Box.far (Box.far Y.out HN.out _) HN.out _) HN.out _)
        replace Z := hide (show SB (((wd.setCell ⟨cb, 0, none⟩ (.int .i64 z0)).setCell ⟨cb, 1, none⟩ (.int .i64 z1)).setCell ⟨cb, 2, none⟩ (.bool z2)) cb ⟨z0, z1, z2⟩ from SB.put Z.out)
        clear x0 x1 x2 f0 f1 f2
        generalize (((wd.setCell ⟨cb, 0, none⟩ (.int .i64 z0)).setCell ⟨cb, 1, none⟩ (.int .i64 z1)).setCell ⟨cb, 2, none⟩ (.bool z2)) = wv at *
        refine hK.out _ _ ?_ (fun hHeld => ?_)
        · exact ⟨YD.out _ K.out, Box.cell Y.out 0, Box.cell Y.out 1⟩
        clear hK K'
        (try simp only [Act.put, List.setIfInBounds_toArray, List.set_cons_succ, List.set_cons_zero])
        refine wpAnyH_take (i := 13) (oi := ⟨some 13, _, _, _, _, _⟩) (v := ?_) rfl (by kernel_rfl) (by kernel_rfl) (by kernel_rfl) (fun _ _ _ h => h) (Or.inl ⟨by kernel_rfl, ?_⟩) (by assumption) ?_
        rotate_left 1
        · (intro w hSw; (try dsimp only at hSw); go_simp) <;> (with_reducible rfl)
        (try simp only [Act.put, List.setIfInBounds_toArray, List.set_cons_succ, List.set_cons_zero])
        refine wpAnyH_done (by kernel_rfl) ?_ _
        refine NoPanic.normal ?_
        obtain ⟨x0, x1, x2⟩ := SB.cells Z.out
        (try simp only [Exit.inBlock, Exit.then])
        apply_assumption
        go_wp2
        go_ret
        exact ⟨rfl, K.out⟩
      try clear y0 y1
      have y0 := Box.cell Y.out 0
      have y1 := Box.cell Y.out 1
      obtain ⟨x0, x1, x2⟩ := SB.cells Z.out
      go_wp2
      go_ret
      exact ⟨rfl, K.out⟩
    refine AllReadyH.cons (o := ⟨some 12, _, _, _, _, _⟩) rfl (fun K' hK => ?_) AllReadyH.nil
    go_simp
    have Z := hide (SB.new w8 0 0 false)
    have M1 := bal (brefl w8) (.cells #[.int .i64 0, .int .i64 0, .bool false] 38)
    have HC0 := K.out.size
    have HN0 := Y.out.lt
    obtain ⟨cb, hcb⟩ : ∃ cb, cb = w8.heap.size := ⟨_, rfl⟩
    have HC := hide (show w.heap.size ≤ cb by omega)
    have HN := hide (show g4 ≠ cb by omega)
    replace K := hide (btrans K.out M1)
    replace K1 := hide (btrans K1.out M1)
    replace Y := hide (Y.out.below M1)
    rw [← hcb] at Z ⊢
    clear hcb HC0 HN0 M1
    generalize w8.alloc (.cells #[.int .i64 0, .int .i64 0, .bool false] 38) = wa at *
    refine hK.out _ _ ?_ (fun hHeld => ?_)
    · exact ⟨YC.out _ K.out, Box.cell Y.out 0, Box.cell Y.out 1⟩
    clear hK K'
    (try simp only [Act.put, List.setIfInBounds_toArray, List.set_cons_succ, List.set_cons_zero])
    refine wpAnyH_ready (rs := [13]) (by kernel_rfl) (by simp) ?_
    refine AllReadyH.cons (o := ⟨some 90, _, _, _, _, _⟩) rfl (fun K' hK => ?_) AllReadyH.nil
    go_simp
    refine (SH.out A1 c1 _ (O1.out _ K1.out) C1.out).mono ?_
    rintro e wc ⟨rfl, hb⟩
    replace K := hide (btrans K.out hb)
    replace K1 := hide (btrans K1.out hb)
    replace Y := hide (Y.out.below hb)
    replace Z := hide (Z.out.below hb)
    clear hb
    refine hK.out _ _ ?_ (fun hHeld => ?_)
    · exact ⟨YC.out _ K.out, Box.cell Y.out 0, Box.cell Y.out 1⟩
    clear hK K'
    (try simp only [Act.put, List.setIfInBounds_toArray, List.set_cons_succ, List.set_cons_zero])
    refine wpAnyH_take (i := 14) (oi := ⟨some 76, _, _, _, _, _⟩) (v := ?_) rfl (by kernel_rfl) (by kernel_rfl) (by kernel_rfl) (fun _ _ _ h => h) (Or.inl ⟨by kernel_rfl, ?_⟩) (by assumption) ?_
    rotate_left 1
    · (intro w hSw; (try dsimp only at hSw); go_simp) <;> (with_reducible rfl)
    (try simp only [Act.put, List.setIfInBounds_toArray, List.set_cons_succ, List.set_cons_zero])
    refine wpAnyH_take (i := 15) (oi := ⟨some 91, _, _, _, _, _⟩) (v := ?_) rfl (by kernel_rfl) (by kernel_rfl) (by kernel_rfl) (fun _ _ _ h => h) (Or.inl ⟨by kernel_rfl, ?_⟩) (by assumption) ?_
    rotate_left 1
    · (intro w hSw; (try dsimp only at hSw); go_simp) <;> (with_reducible rfl)
    (try simp only [Act.put, List.setIfInBounds_toArray, List.set_cons_succ, List.set_cons_zero])
    refine wpAnyH_take (i := 16) (oi := ⟨some 92, _, _, _, _, _⟩) (v := ?_) rfl (by kernel_rfl) (by kernel_rfl) (by kernel_rfl) (fun _ _ _ h => h) (Or.inl ⟨by kernel_rfl, ?_⟩) (by assumption) ?_
    rotate_left 1
    · (intro w hSw; (try dsimp only at hSw); go_simp) <;> (with_reducible rfl)
    (try simp only [Act.put, List.setIfInBounds_toArray, List.set_cons_succ, List.set_cons_zero])
    refine wpAnyH_ready (rs := [18]) (by kernel_rfl) (by simp) ?_
    refine AllReadyH.cons (o := ⟨none, _, _, _, _, _⟩) rfl (fun K' hK => ?_) AllReadyH.nil
    obtain ⟨x0, x1, x2⟩ := SB.cells Z.out
    obtain ⟨f0, f1, f2⟩ := SB.free Z.out
    go_simp
    replace K := hide (show Below w.heap.size w (((wc.setCell ⟨cb, 0, none⟩ (.int .i64 s0)).setCell ⟨cb, 1, none⟩ (.int .i64 s1)).setCell ⟨cb, 2, none⟩ (.bool s2)) from bset3 K.out HC.out)
    replace Y := hide (show Box (((wc.setCell ⟨cb, 0, none⟩ (.int .i64 s0)).setCell ⟨cb, 1, none⟩ (.int .i64 s1)).setCell ⟨cb, 2, none⟩ (.bool s2)) g4 36 #[.int .i64 n, .int .i64 m] from Box.far (Box.far (Box.far Y.out HN.out _) HN.out _) HN.out _)
    replace Z := hide (show SB (((wc.setCell ⟨cb, 0, none⟩ (.int .i64 s0)).setCell ⟨cb, 1, none⟩ (.int .i64 s1)).setCell ⟨cb, 2, none⟩ (.bool s2)) cb ⟨s0, s1, s2⟩ from SB.put Z.out)
    clear x0 x1 x2 f0 f1 f2
    generalize (((wc.setCell ⟨cb, 0, none⟩ (.int .i64 s0)).setCell ⟨cb, 1, none⟩ (.int .i64 s1)).setCell ⟨cb, 2, none⟩ (.bool s2)) = wu at *
    refine hK.out _ _ ?_ (fun hHeld => ?_)
    · exact ⟨YC.out _ K.out, Box.cell Y.out 0, Box.cell Y.out 1⟩
    clear hK K'
    (try simp only [Act.put, List.setIfInBounds_toArray, List.set_cons_succ, List.set_cons_zero])
    refine wpAnyH_take (i := 19) (oi := ⟨some 13, _, _, _, _, _⟩) (v := ?_) rfl (by kernel_rfl) (by kernel_rfl) (by kernel_rfl) (fun _ _ _ h => h) (Or.inl ⟨by kernel_rfl, ?_⟩) (by assumption) ?_
    rotate_left 1
    · (intro w hSw; (try dsimp only at hSw); go_simp) <;> (with_reducible rfl)
    (try simp only [Act.put, List.setIfInBounds_toArray, List.set_cons_succ, List.set_cons_zero])
    refine wpAnyH_done (by kernel_rfl) ?_ _
    refine NoPanic.normal ?_
    by_cases hn0 : n < 0
    · obtain ⟨hze, hzp⟩ := FF2.out (.inl hn0)
      subst hze
      try clear y0 y1
      have y0 := Box.cell Y.out 0
      have y1 := Box.cell Y.out 1
      go_upto_region 12 with fail
      clear y0 y1
      have hdr : Below wu.heap.size wu wu.drew := below_drewN (brefl _) 1
      replace K := hide (btrans K.out hdr)
      replace Y := hide (Y.out.below hdr)
      replace Z := hide (Z.out.below hdr)
      clear hdr
      refine wp_region_noPanic ?_
      refine wp_region_held_drew (S := (fun W => (W.cell? ⟨b, off, none⟩ = some (.int .i64 p0) ∧ W.cell? ⟨b, off + 1, none⟩ = some (.int .i64 a0) ∧ W.cell? ⟨b, off + 2, none⟩ = some (.int .i64 e0) ∧ W.cell? ⟨b, off + 3, none⟩ = some (.int .i64 u0)) ∧ W.cell? ⟨g4, 0, none⟩ = some (.int .i64 n) ∧ W.cell? ⟨g4, 1, none⟩ = some (.int .i64 m))) (by kernel_rfl) ?_ (fun hHeld => ?_)
      · exact ⟨YD.out _ K.out, Box.cell Y.out 0, Box.cell Y.out 1⟩
      generalize wu.drew = wx at *
      refine wpAnyH_take (i := 0) (oi := ⟨some 102, _, _, _, _, _⟩) (v := ?_) rfl (by kernel_rfl) (by kernel_rfl) (by kernel_rfl) (fun _ _ _ h => h) (Or.inl ⟨by kernel_rfl, ?_⟩) (by assumption) ?_
      rotate_left 1
      · (intro w hSw; (try dsimp only at hSw); go_simp) <;> (with_reducible rfl)
      (try simp only [Act.put, List.setIfInBounds_toArray, List.set_cons_succ, List.set_cons_zero])
      refine wpAnyH_take (i := 1) (oi := ⟨some 103, _, _, _, _, _⟩) (v := ?_) rfl (by kernel_rfl) (by kernel_rfl) (by kernel_rfl) (fun _ _ _ h => h) (Or.inl ⟨by kernel_rfl, ?_⟩) (by assumption) ?_
      rotate_left 1
      · (intro w hSw; (try dsimp only at hSw); go_simp) <;> (with_reducible rfl)
      (try simp only [Act.put, List.setIfInBounds_toArray, List.set_cons_succ, List.set_cons_zero])
      refine wpAnyH_take (i := 2) (oi := ⟨some 104, _, _, _, _, _⟩) (v := ?_) rfl (by kernel_rfl) (by kernel_rfl) (by kernel_rfl) (fun _ _ _ h => h) (Or.inl ⟨by kernel_rfl, ?_⟩) (by assumption) ?_
      rotate_left 1
      · (intro w hSw; (try dsimp only at hSw); go_simp) <;> (with_reducible rfl)
      (try simp only [Act.put, List.setIfInBounds_toArray, List.set_cons_succ, List.set_cons_zero])
      refine wpAnyH_take (i := 3) (oi := ⟨some 105, _, _, _, _, _⟩) (v := ?_) rfl (by kernel_rfl) (by kernel_rfl) (by kernel_rfl) (fun _ _ _ h => h) (Or.inl ⟨by kernel_rfl, ?_⟩) (by assumption) ?_
      rotate_left 1
      · (intro w hSw; (try dsimp only at hSw); go_simp) <;> (with_reducible rfl)
      (try simp only [Act.put, List.setIfInBounds_toArray, List.set_cons_succ, List.set_cons_zero])
      refine wpAnyH_take (i := 4) (oi := ⟨some 106, _, _, _, _, _⟩) (v := ?_) rfl (by kernel_rfl) (by kernel_rfl) (by kernel_rfl) (fun _ _ _ h => h) (Or.inl ⟨by kernel_rfl, ?_⟩) (by assumption) ?_
      rotate_left 1
      · (intro w hSw; (try dsimp only at hSw); go_simp) <;> (with_reducible rfl)
      (try simp only [Act.put, List.setIfInBounds_toArray, List.set_cons_succ, List.set_cons_zero])
      refine wpAnyH_take (i := 5) (oi := ⟨some 107, _, _, _, _, _⟩) (v := ?_) rfl (by kernel_rfl) (by kernel_rfl) (by kernel_rfl) (fun _ _ _ h => h) (Or.inl ⟨by kernel_rfl, ?_⟩) (by assumption) ?_
      rotate_left 1
      · (intro w hSw; (try dsimp only at hSw); go_simp) <;> (with_reducible rfl)
      (try simp only [Act.put, List.setIfInBounds_toArray, List.set_cons_succ, List.set_cons_zero])
      refine wpAnyH_take (i := 6) (oi := ⟨some 108, _, _, _, _, _⟩) (v := ?_) rfl (by kernel_rfl) (by kernel_rfl) (by kernel_rfl) (fun _ _ _ h => h) (Or.inl ⟨by kernel_rfl, ?_⟩) (by assumption) ?_
      rotate_left 1
      · (intro w hSw; (try dsimp only at hSw); go_simp) <;> (with_reducible rfl)
      (try simp only [Act.put, List.setIfInBounds_toArray, List.set_cons_succ, List.set_cons_zero])
      refine wpAnyH_take (i := 7) (oi := ⟨some 109, _, _, _, _, _⟩) (v := ?_) rfl (by kernel_rfl) (by kernel_rfl) (by kernel_rfl) (fun _ _ _ h => h) (Or.inl ⟨by kernel_rfl, ?_⟩) (by assumption) ?_
      rotate_left 1
      · (intro w hSw; (try dsimp only at hSw); go_simp) <;> (with_reducible rfl)
      (try simp only [Act.put, List.setIfInBounds_toArray, List.set_cons_succ, List.set_cons_zero])
      refine wpAnyH_ready (rs := [8]) (by kernel_rfl) (by simp) ?_
      refine AllReadyH.cons (o := ⟨some 110, _, _, _, _, _⟩) rfl (fun K' hK => ?_) AllReadyH.nil
      go_simp
      refine (S0.out _ K.out).mono ?_
      rintro e wd ⟨rfl, hb⟩
      replace K := hide (btrans K.out hb)
      replace Y := hide (Y.out.below hb)
      replace Z := hide (Z.out.below hb)
      clear hb
      refine hK.out _ _ ?_ (fun hHeld => ?_)
      · exact ⟨YD.out _ K.out, Box.cell Y.out 0, Box.cell Y.out 1⟩
      clear hK K'
      (try simp only [Act.put, List.setIfInBounds_toArray, List.set_cons_succ, List.set_cons_zero])
      refine wpAnyH_take (i := 9) (oi := ⟨some 101, _, _, _, _, _⟩) (v := ?_) rfl (by kernel_rfl) (by kernel_rfl) (by kernel_rfl) (fun _ _ _ h => h) (Or.inl ⟨by kernel_rfl, ?_⟩) (by assumption) ?_
      rotate_left 1
      · (intro w hSw; (try dsimp only at hSw); go_simp) <;> (with_reducible rfl)
      (try simp only [Act.put, List.setIfInBounds_toArray, List.set_cons_succ, List.set_cons_zero])
      refine wpAnyH_take (i := 10) (oi := ⟨some 111, _, _, _, _, _⟩) (v := ?_) rfl (by kernel_rfl) (by kernel_rfl) (by kernel_rfl) (fun _ _ _ h => h) (Or.inl ⟨by kernel_rfl, ?_⟩) (by assumption) ?_
      rotate_left 1
      · (intro w hSw; (try dsimp only at hSw); go_simp) <;> (with_reducible rfl)
      (try simp only [Act.put, List.setIfInBounds_toArray, List.set_cons_succ, List.set_cons_zero])
      refine wpAnyH_take (i := 11) (oi := ⟨some 112, _, _, _, _, _⟩) (v := ?_) rfl (by kernel_rfl) (by kernel_rfl) (by kernel_rfl) (fun _ _ _ h => h) (Or.inl ⟨by kernel_rfl, ?_⟩) (by assumption) ?_
      rotate_left 1
      · (intro w hSw; (try dsimp only at hSw); go_simp) <;> (with_reducible rfl)
      (try simp only [Act.put, List.setIfInBounds_toArray, List.set_cons_succ, List.set_cons_zero])
      refine wpAnyH_ready (rs := [12]) (by kernel_rfl) (by simp) ?_
      refine AllReadyH.cons (o := ⟨none, _, _, _, _, _⟩) rfl (fun K' hK => ?_) AllReadyH.nil
      obtain ⟨x0, x1, x2⟩ := SB.cells Z.out
      obtain ⟨f0, f1, f2⟩ := SB.free Z.out
      go_simp
      replace K := hide (show Below w.heap.size w (((wd.setCell ⟨cb, 0, none⟩ (.int .i64 z0)).setCell ⟨cb, 1, none⟩ (.int .i64 z1)).setCell ⟨cb, 2, none⟩ (.bool z2)) from bset3 K.out HC.out)
      replace Y := hide (show Box (((wd.setCell ⟨cb, 0, none⟩ (.int .i64 z0)).setCell ⟨cb, 1, none⟩ (.int .i64 z1)).setCell ⟨cb, 2, none⟩ (.bool z2)) g4 36 #[.int .i64 n, .int .i64 m] from Box.far (Box.far (Box.far Y.out HN.out _) HN.out _) HN.out _)
      replace Z := hide (show SB (((wd.setCell ⟨cb, 0, none⟩ (.int .i64 z0)).setCell ⟨cb, 1, none⟩ (.int .i64 z1)).setCell ⟨cb, 2, none⟩ (.bool z2)) cb ⟨z0, z1, z2⟩ from SB.put Z.out)
      clear x0 x1 x2 f0 f1 f2
      generalize (((wd.setCell ⟨cb, 0, none⟩ (.int .i64 z0)).setCell ⟨cb, 1, none⟩ (.int .i64 z1)).setCell ⟨cb, 2, none⟩ (.bool z2)) = wv at *
      refine hK.out _ _ ?_ (fun hHeld => ?_)
      · exact ⟨YD.out _ K.out, Box.cell Y.out 0, Box.cell Y.out 1⟩
      clear hK K'
      (try simp only [Act.put, List.setIfInBounds_toArray, List.set_cons_succ, List.set_cons_zero])
      refine wpAnyH_take (i := 13) (oi := ⟨some 13, _, _, _, _, _⟩) (v := ?_) rfl (by kernel_rfl) (by kernel_rfl) (by kernel_rfl) (fun _ _ _ h => h) (Or.inl ⟨by kernel_rfl, ?_⟩) (by assumption) ?_
      rotate_left 1
      · (intro w hSw; (try dsimp only at hSw); go_simp) <;> (with_reducible rfl)
      (try simp only [Act.put, List.setIfInBounds_toArray, List.set_cons_succ, List.set_cons_zero])
      refine wpAnyH_done (by kernel_rfl) ?_ _
      refine NoPanic.normal ?_
      obtain ⟨x0, x1, x2⟩ := SB.cells Z.out
      (try simp only [Exit.inBlock, Exit.then])
      apply_assumption
      go_wp2
      go_ret
      exact ⟨rfl, K.out⟩
    by_cases hm0 : m < 0
    · obtain ⟨hze, hzp⟩ := FF2.out (.inr hm0)
      subst hze
      try clear y0 y1
      have y0 := Box.cell Y.out 0
      have y1 := Box.cell Y.out 1
      go_upto_region 12 with fail
      clear y0 y1
      have hdr : Below wu.heap.size wu wu.drew := below_drewN (brefl _) 1
      replace K := hide (btrans K.out hdr)
      replace Y := hide (Y.out.below hdr)
      replace Z := hide (Z.out.below hdr)
      clear hdr
      refine wp_region_noPanic ?_
      refine wp_region_held_drew (S := (fun W => (W.cell? ⟨b, off, none⟩ = some (.int .i64 p0) ∧ W.cell? ⟨b, off + 1, none⟩ = some (.int .i64 a0) ∧ W.cell? ⟨b, off + 2, none⟩ = some (.int .i64 e0) ∧ W.cell? ⟨b, off + 3, none⟩ = some (.int .i64 u0)) ∧ W.cell? ⟨g4, 0, none⟩ = some (.int .i64 n) ∧ W.cell? ⟨g4, 1, none⟩ = some (.int .i64 m))) (by kernel_rfl) ?_ (fun hHeld => ?_)
      · exact ⟨YD.out _ K.out, Box.cell Y.out 0, Box.cell Y.out 1⟩
      generalize wu.drew = wx at *
      refine wpAnyH_take (i := 0) (oi := ⟨some 102, _, _, _, _, _⟩) (v := ?_) rfl (by kernel_rfl) (by kernel_rfl) (by kernel_rfl) (fun _ _ _ h => h) (Or.inl ⟨by kernel_rfl, ?_⟩) (by assumption) ?_
      rotate_left 1
      · (intro w hSw; (try dsimp only at hSw); go_simp) <;> (with_reducible rfl)
      (try simp only [Act.put, List.setIfInBounds_toArray, List.set_cons_succ, List.set_cons_zero])
      refine wpAnyH_take (i := 1) (oi := ⟨some 103, _, _, _, _, _⟩) (v := ?_) rfl (by kernel_rfl) (by kernel_rfl) (by kernel_rfl) (fun _ _ _ h => h) (Or.inl ⟨by kernel_rfl, ?_⟩) (by assumption) ?_
      rotate_left 1
      · (intro w hSw; (try dsimp only at hSw); go_simp) <;> (with_reducible rfl)
      (try simp only [Act.put, List.setIfInBounds_toArray, List.set_cons_succ, List.set_cons_zero])
      refine wpAnyH_take (i := 2) (oi := ⟨some 104, _, _, _, _, _⟩) (v := ?_) rfl (by kernel_rfl) (by kernel_rfl) (by kernel_rfl) (fun _ _ _ h => h) (Or.inl ⟨by kernel_rfl, ?_⟩) (by assumption) ?_
      rotate_left 1
      · (intro w hSw; (try dsimp only at hSw); go_simp) <;> (with_reducible rfl)
      (try simp only [Act.put, List.setIfInBounds_toArray, List.set_cons_succ, List.set_cons_zero])
      refine wpAnyH_take (i := 3) (oi := ⟨some 105, _, _, _, _, _⟩) (v := ?_) rfl (by kernel_rfl) (by kernel_rfl) (by kernel_rfl) (fun _ _ _ h => h) (Or.inl ⟨by kernel_rfl, ?_⟩) (by assumption) ?_
      rotate_left 1
      · (intro w hSw; (try dsimp only at hSw); go_simp) <;> (with_reducible rfl)
      (try simp only [Act.put, List.setIfInBounds_toArray, List.set_cons_succ, List.set_cons_zero])
      refine wpAnyH_take (i := 4) (oi := ⟨some 106, _, _, _, _, _⟩) (v := ?_) rfl (by kernel_rfl) (by kernel_rfl) (by kernel_rfl) (fun _ _ _ h => h) (Or.inl ⟨by kernel_rfl, ?_⟩) (by assumption) ?_
      rotate_left 1
      · (intro w hSw; (try dsimp only at hSw); go_simp) <;> (with_reducible rfl)
      (try simp only [Act.put, List.setIfInBounds_toArray, List.set_cons_succ, List.set_cons_zero])
      refine wpAnyH_take (i := 5) (oi := ⟨some 107, _, _, _, _, _⟩) (v := ?_) rfl (by kernel_rfl) (by kernel_rfl) (by kernel_rfl) (fun _ _ _ h => h) (Or.inl ⟨by kernel_rfl, ?_⟩) (by assumption) ?_
      rotate_left 1
      · (intro w hSw; (try dsimp only at hSw); go_simp) <;> (with_reducible rfl)
      (try simp only [Act.put, List.setIfInBounds_toArray, List.set_cons_succ, List.set_cons_zero])
      refine wpAnyH_take (i := 6) (oi := ⟨some 108, _, _, _, _, _⟩) (v := ?_) rfl (by kernel_rfl) (by kernel_rfl) (by kernel_rfl) (fun _ _ _ h => h) (Or.inl ⟨by kernel_rfl, ?_⟩) (by assumption) ?_
      rotate_left 1
      · (intro w hSw; (try dsimp only at hSw); go_simp) <;> (with_reducible rfl)
      (try simp only [Act.put, List.setIfInBounds_toArray, List.set_cons_succ, List.set_cons_zero])
      refine wpAnyH_take (i := 7) (oi := ⟨some 109, _, _, _, _, _⟩) (v := ?_) rfl (by kernel_rfl) (by kernel_rfl) (by kernel_rfl) (fun _ _ _ h => h) (Or.inl ⟨by kernel_rfl, ?_⟩) (by assumption) ?_
      rotate_left 1
      · (intro w hSw; (try dsimp only at hSw); go_simp) <;> (with_reducible rfl)
      (try simp only [Act.put, List.setIfInBounds_toArray, List.set_cons_succ, List.set_cons_zero])
      refine wpAnyH_ready (rs := [8]) (by kernel_rfl) (by simp) ?_
      refine AllReadyH.cons (o := ⟨some 110, _, _, _, _, _⟩) rfl (fun K' hK => ?_) AllReadyH.nil
      go_simp
      refine (S0.out _ K.out).mono ?_
      rintro e wd ⟨rfl, hb⟩
      replace K := hide (btrans K.out hb)
      replace Y := hide (Y.out.below hb)
      replace Z := hide (Z.out.below hb)
      clear hb
      refine hK.out _ _ ?_ (fun hHeld => ?_)
      · exact ⟨YD.out _ K.out, Box.cell Y.out 0, Box.cell Y.out 1⟩
      clear hK K'
      (try simp only [Act.put, List.setIfInBounds_toArray, List.set_cons_succ, List.set_cons_zero])
      refine wpAnyH_take (i := 9) (oi := ⟨some 101, _, _, _, _, _⟩) (v := ?_) rfl (by kernel_rfl) (by kernel_rfl) (by kernel_rfl) (fun _ _ _ h => h) (Or.inl ⟨by kernel_rfl, ?_⟩) (by assumption) ?_
      rotate_left 1
      · (intro w hSw; (try dsimp only at hSw); go_simp) <;> (with_reducible rfl)
      (try simp only [Act.put, List.setIfInBounds_toArray, List.set_cons_succ, List.set_cons_zero])
      refine wpAnyH_take (i := 10) (oi := ⟨some 111, _, _, _, _, _⟩) (v := ?_) rfl (by kernel_rfl) (by kernel_rfl) (by kernel_rfl) (fun _ _ _ h => h) (Or.inl ⟨by kernel_rfl, ?_⟩) (by assumption) ?_
      rotate_left 1
      · (intro w hSw; (try dsimp only at hSw); go_simp) <;> (with_reducible rfl)
      (try simp only [Act.put, List.setIfInBounds_toArray, List.set_cons_succ, List.set_cons_zero])
      refine wpAnyH_take (i := 11) (oi := ⟨some 112, _, _, _, _, _⟩) (v := ?_) rfl (by kernel_rfl) (by kernel_rfl) (by kernel_rfl) (fun _ _ _ h => h) (Or.inl ⟨by kernel_rfl, ?_⟩) (by assumption) ?_
      rotate_left 1
      · (intro w hSw; (try dsimp only at hSw); go_simp) <;> (with_reducible rfl)
      (try simp only [Act.put, List.setIfInBounds_toArray, List.set_cons_succ, List.set_cons_zero])
      refine wpAnyH_ready (rs := [12]) (by kernel_rfl) (by simp) ?_
      refine AllReadyH.cons (o := ⟨none, _, _, _, _, _⟩) rfl (fun K' hK => ?_) AllReadyH.nil
      obtain ⟨x0, x1, x2⟩ := SB.cells Z.out
      obtain ⟨f0, f1, f2⟩ := SB.free Z.out
      go_simp
      replace K := hide (show Below w.heap.size w (((wd.setCell ⟨cb, 0, none⟩ (.int .i64 z0)).setCell ⟨cb, 1, none⟩ (.int .i64 z1)).setCell ⟨cb, 2, none⟩ (.bool z2)) from bset3 K.out HC.out)
      replace Y := hide (show Box (((wd.setCell ⟨cb, 0, none⟩ (.int .i64 z0)).setCell ⟨cb, 1, none⟩ (.int .i64 z1)).setCell ⟨cb, 2, none⟩ (.bool z2)) g4 36 #[.int .i64 n, .int .i64 m] from Box.far (Box.far (Box.far Y.out HN.out _) HN.out _) HN.out _)
      replace Z := hide (show SB (((wd.setCell ⟨cb, 0, none⟩ (.int .i64 z0)).setCell ⟨cb, 1, none⟩ (.int .i64 z1)).setCell ⟨cb, 2, none⟩ (.bool z2)) cb ⟨z0, z1, z2⟩ from SB.put Z.out)
      clear x0 x1 x2 f0 f1 f2
      generalize (((wd.setCell ⟨cb, 0, none⟩ (.int .i64 z0)).setCell ⟨cb, 1, none⟩ (.int .i64 z1)).setCell ⟨cb, 2, none⟩ (.bool z2)) = wv at *
      refine hK.out _ _ ?_ (fun hHeld => ?_)
      · exact ⟨YD.out _ K.out, Box.cell Y.out 0, Box.cell Y.out 1⟩
      clear hK K'
      (try simp only [Act.put, List.setIfInBounds_toArray, List.set_cons_succ, List.set_cons_zero])
      refine wpAnyH_take (i := 13) (oi := ⟨some 13, _, _, _, _, _⟩) (v := ?_) rfl (by kernel_rfl) (by kernel_rfl) (by kernel_rfl) (fun _ _ _ h => h) (Or.inl ⟨by kernel_rfl, ?_⟩) (by assumption) ?_
      rotate_left 1
      · (intro w hSw; (try dsimp only at hSw); go_simp) <;> (with_reducible rfl)
      (try simp only [Act.put, List.setIfInBounds_toArray, List.set_cons_succ, List.set_cons_zero])
      refine wpAnyH_done (by kernel_rfl) ?_ _
      refine NoPanic.normal ?_
      obtain ⟨x0, x1, x2⟩ := SB.cells Z.out
      (try simp only [Exit.inBlock, Exit.then])
      apply_assumption
      go_wp2
      go_ret
      exact ⟨rfl, K.out⟩
    try clear y0 y1
    have y0 := Box.cell Y.out 0
    have y1 := Box.cell Y.out 1
    obtain ⟨x0, x1, x2⟩ := SB.cells Z.out
    go_wp2
    go_ret
    exact ⟨rfl, K.out⟩
end Go.Proofs.Ytimclgmajhhheaa.Gr
