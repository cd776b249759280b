import Derived.Test.YtncjicggolmofaaQ1
namespace Go.Proofs.Ytncjicggolmofaa.Sb
open Go Go.RowKit
set_option linter.unusedVariables false
set_option linter.unusedSimpArgs false
set_option maxRecDepth 100000 in
set_option maxHeartbeats 16000000 in
theorem alloc_ok (A : Option Addr) (cp : Nat) (S : Sc) (n : Int) (Af : Option Addr) (cf : Nat) (fs : Is) (w : World) (hr : RdC w A S.sl) (hn : S.sl.length ≤ 400) (hln : ∀ k, k < S.sl.length → (us S k).length ≤ 1000) (hnr : n ≤ 9223372036854775807 ∧ -9223372036854775808 ≤ n) (hf : Bi w Af fs) (hfl : fs.length ≤ 400) (h0 : alE S n fs = 0) : Calls Try.prog 26 #[.agg #[.int .i64 S.ob, .slice A S.sl.length cp], .int .i64 n, .slice Af fs.length cf] w (AlR S n fs w) := by
  have K := hide (bal (bal (brefl w) (.cells #[.int .i64 S.ob, .slice A S.sl.length cp] 24)) (.cells #[.int .i64 0, .slice none 0 0] 24))
  have CK := hide (fun w' (h : Below w.heap.size w w') => ca_any A cp S n Af cf fs w' (hr.below h) (by omega) hln hnr (hf.below h) (by omega))
  have CL := hide (fun w' (h : Below w.heap.size w w') => clone_any A cp S w' (hr.below h) (by omega) hln)
  have HF := hide (fun w' (h : Below w.heap.size w w') => hf.below h)
  have X := hide ((Box.new w 24 #[.int .i64 S.ob, .slice A S.sl.length cp]).below (bal (brefl _) (.cells #[.int .i64 0, .slice none 0 0] 24)))
  have Y := hide (Box.new (w.alloc (.cells #[.int .i64 S.ob, .slice A S.sl.length cp] 24)) 24 #[.int .i64 0, .slice none 0 0])
  obtain ⟨g3, hg3⟩ : ∃ g, g = w.heap.size := ⟨_, rfl⟩
  obtain ⟨g6, hg6⟩ : ∃ g, g = (w.alloc (.cells #[.int .i64 S.ob, .slice A S.sl.length cp] 24)).heap.size := ⟨_, rfl⟩
  have hg5 : g6 = g3 + 1 := by rw [hg6, hg3, alloc_size']
  have HG3 := hide hg3
  have HG6 := hide hg5
  rw [← hg3] at X
  rw [← hg6] at Y
  clear hg3 hg6 hg5 hr hf
  have hch : chE S = 0 := by
    by_cases h : chE S = 0
    · exact h
    · unfold alE at h0; rw [if_neg h] at h0; exact absurd h0 h
  have h1 := h0
  unfold alE at h1
  rw [if_pos hch] at h1
  have hn1 : 1 ≤ n := by
    by_cases h : n < 1 ∨ (fs.length : Int) ≠ ndN S n
    · rw [if_pos h] at h1; omega
    · omega
  have hfe : feE (frs S.sl) fs = 0 := by
    by_cases h : n < 1 ∨ (fs.length : Int) ≠ ndN S n
    · rw [if_pos h] at h1; omega
    · rwa [if_neg h] at h1
  obtain ⟨N, rfl⟩ : ∃ N : Nat, n = N := ⟨n.toNat, by omega⟩
  have V := hide (vd_of hch)
  have FE := hide (feE_ok _ _ hfe)
  have EL := hide (show alL S N fs = (alR S N fs).1 from if_pos h0)
  have EI := hide (show alI S N fs = (alR S N fs).2 from if_pos h0)
  have EB := hide (show alB S N fs = S.ob from if_pos h0)
  have E0 := hide h0
  have HN1 := hide hn1
  have HAS := hide V.out.asc
  unfold AlR
  rw [h0] at CK
  clear h0 h1 hch hfe
  go_enter Try.func26, Try.ntmps26
  go_upto_region 1 with fail
  rw [← HG3.out, ← HG6.out]
  generalize (w.alloc (.cells #[.int .i64 S.ob, .slice A S.sl.length cp] 24)).alloc (.cells #[.int .i64 0, .slice none 0 0] 24) = w1 at *
  obtain ⟨x0, x1⟩ : w1.cell? ⟨g3, 0, none⟩ = some (.int .i64 S.ob) ∧ w1.cell? ⟨g3, 1, none⟩ = some (.slice A S.sl.length cp) := ⟨X.out.cell 0, X.out.cell 1⟩
  go_wp2_with fail
  refine (CK.out _ K.out).mono ?_
  rintro e w2 ⟨rfl, hb⟩
  replace K := hide (btrans K.out hb)
  replace X := hide (X.out.below hb)
  replace Y := hide (Y.out.below hb)
  clear hb x0 x1 CK
  obtain ⟨x0, x1⟩ : w2.cell? ⟨g3, 0, none⟩ = some (.int .i64 S.ob) ∧ w2.cell? ⟨g3, 1, none⟩ = some (.slice A S.sl.length cp) := ⟨X.out.cell 0, X.out.cell 1⟩
  go_wp2_with fail
  refine (CL.out _ K.out).mono ?_
  rintro e w3 ⟨v, rfl, hD, hb⟩
  obtain ⟨Av, cv, ev, _⟩ := hD.c.form
  subst ev
  have KB := hide K.out.size
  have XL := hide X.out.lt
  have YL := hide Y.out.lt
  replace K := hide (btrans K.out hb)
  replace X := hide (X.out.below hb)
  replace Y := hide (Y.out.below hb)
  have BB := hide hb.size
  clear hb x0 x1 CL
  have M := bal (brefl w3) (.cells #[.int .i64 S.ob, .slice Av S.sl.length cv] 24)
  have Z := hide (Box.new w3 24 #[.int .i64 S.ob, .slice Av S.sl.length cv])
  have D := hide (hD.below M)
  replace K := hide (btrans K.out M)
  replace X := hide (X.out.below M)
  replace Y := hide (Y.out.below M)
  have BZ := hide (Nat.le_trans BB.out M.size)
  have ZG := hide BB.out
  clear M hD
  go_upto_region 6 with fail
  obtain ⟨g10, hg10⟩ : ∃ g, g = w3.heap.size := ⟨_, rfl⟩
  rw [← hg10] at Z ZG ⊢
  clear hg10 BB
  generalize w3.alloc (.cells #[.int .i64 S.ob, .slice Av S.sl.length cv] 24) = w4 at *
  obtain ⟨B, hB⟩ : ∃ B, B = w2.heap.size := ⟨_, rfl⟩
  rw [← hB] at D BZ KB XL YL ZG
  clear hB
  obtain ⟨z0, z1⟩ : w4.cell? ⟨g10, 0, none⟩ = some (.int .i64 S.ob) ∧ w4.cell? ⟨g10, 1, none⟩ = some (.slice Av S.sl.length cv) := ⟨Z.out.cell 0, Z.out.cell 1⟩
  go_upto_region 7 with fail
  clear z0 z1
  have S0 := hide (show OwI B w4 (.slice none 0 0) (alK N S.sl 0).2 from ow_nil _ _)
  have L32 := hide (show ∀ j, j < S.sl.length → (cAt S.sl j).2.length ≤ 32 from fun j hj => by
    have h1 := V.out.ln j hj
    have h2 := V.out.ob
    unfold us at h1
    omega)
  go_loopw [11, 32] (fun a i wr => ∃ k : Nat, k ≤ S.sl.length ∧ i = .int .i64 k ∧ Hid (OwnD B wr (.slice Av S.sl.length cv) (alK N S.sl k).1) ∧ Hid (OwI B wr a (alK N S.sl k).2) ∧ Hid (Below w.heap.size w wr) ∧ Hid (Box wr g3 24 #[.int .i64 S.ob, .slice A S.sl.length cp]) ∧ Hid (Box wr g6 24 #[.int .i64 0, .slice none 0 0]) ∧ Hid (Box wr g10 24 #[.int .i64 S.ob, .slice Av S.sl.length cv]) ∧ Hid (B ≤ wr.heap.size)) (fun _ i _ => S.sl.length - (intOf i).toNat)
  case atStart => exact ⟨0, Nat.zero_le _, rfl, D, S0, K, X, Y, Z, BZ⟩
  case round =>
    clear D S0 K X Y Z BZ
    obtain ⟨k, hk, rfl, D, O, K, X, Y, Z, BZ⟩ := hrel
    by_cases hlt : k < S.sl.length
    · have hl2 : (k : Int) < (S.sl.length : Int) := by omega
      have hk0 : (0 : Int) ≤ (k : Int) := by omega
      obtain ⟨g, c, u, ev, hgl, y0, y1, hu, cont⟩ := D.out.use (k := k) (by rw [alK_len]; exact hlt)
      rw [alK_len] at ev
      injection ev with ev1 _ ev2
      subst ev1 ev2
      rw [alK_far N S.sl k k (Nat.le_refl _)] at y0 hu cont
      have hf := V.out.fr k hlt
      have hl := V.out.ln k hlt
      have hob := V.out.ob
      have h32 := alK_32 N L32.out k hk
      have hle := alK_le N S.sl k
      have SK := hide (show alK N S.sl (k + 1) = ((alK N S.sl k).1.set k ((cAt S.sl k).1, uF (cAt S.sl k).1 (cAt S.sl k).2 (N - (alK N S.sl k).2.length)), (alK N S.sl k).2 ++ uO (cAt S.sl k).1 (cAt S.sl k).2 (N - (alK N S.sl k).2.length)) from rfl)
      have HC := hide cont
      change 0 ≤ (cAt S.sl k).1 ∧ (cAt S.sl k).1 < 256 at hf
      change ((cAt S.sl k).2.length : Int) = S.ob at hl
      obtain ⟨A1, c1, ea, _⟩ := row_form O.out
      subst ea
      obtain ⟨l1, hl1⟩ : ∃ l, l = (alK N S.sl k).2 := ⟨_, rfl⟩
      obtain ⟨m1, hm1⟩ : ∃ m, m = l1.length := ⟨_, rfl⟩
      rw [← hl1] at O h32 hle SK ⊢
      rw [← hm1] at h32 hle SK ⊢
      have O1 : wr.ownsRow B 3 1 (.slice A1 m1 c1) m1 (l1.map ic) := by have h := O.out; unfold OwI at h; rw [← hm1] at h; exact h
      obtain ⟨f, hfe⟩ : ∃ f, f = (cAt S.sl k).1 := ⟨_, rfl⟩
      obtain ⟨lf, hlf⟩ : ∃ l, l = (cAt S.sl k).2 := ⟨_, rfl⟩
      rw [← hfe] at y0 hf SK HC
      rw [← hlf] at hl hu SK
      have M := bal (brefl wr) (.cells #[.int .i64 f, u] 52)
      have UA := hide (use_any B f u lf ((N : Int) - (m1 : Int)) (wr.alloc (.cells #[.int .i64 f, u] 52)) (row_below hu M) hf (by omega) (by omega) (by omega) (by omega))
      have X13 := hide (Box.new wr 52 #[.int .i64 f, u])
      have HU := hide (row_below hu M)
      have GU := hide (show ∀ w', (wr.alloc (.cells #[.int .i64 f, u] 52)).grownBy w' u.ownBlock → wr.grownBy w' u.ownBlock from fun w' h => grown_trans ⟨M.os, M.tape, M.output, M.size, fun k hk _ => M.block k hk⟩ h)
      have O2 := hide (row_below O1 M)
      replace K := hide (btrans K.out M)
      replace X := hide (X.out.below M)
      replace Y := hide (Y.out.below M)
      replace Z := hide (Z.out.below M)
      have BZ2 := hide (Nat.le_trans BZ.out M.size)
      obtain ⟨Au, cu, eu, _⟩ := row_form hu
      subst eu
      have hnt : ((N : Int) - (m1 : Int)).toNat = N - m1 := by omega
      rw [hnt] at UA
      have HM1 := hide hm1
      have hr1 : -9223372036854775808 ≤ (N : Int) - (m1 : Int) ∧ (N : Int) - (m1 : Int) ≤ 9223372036854775807 := by omega
      clear M hu cont hnt O O1 D hl1 hm1 hfe hlf
      go_upto_region 9 with fail
      obtain ⟨g13, hg13⟩ : ∃ g, g = wr.heap.size := ⟨_, rfl⟩
      rw [← hg13] at X13 ⊢
      clear hg13 y0 y1
      generalize wr.alloc (.cells #[.int .i64 f, .slice Au lf.length cu] 52) = wx at *
      obtain ⟨x0, x1⟩ : wx.cell? ⟨g13, 0, none⟩ = some (.int .i64 f) ∧ wx.cell? ⟨g13, 1, none⟩ = some (.slice Au lf.length cu) := ⟨X13.out.cell 0, X13.out.cell 1⟩
      go_wp2_with fail
      refine UA.out.mono ?_
      rintro e w5 ⟨A2, c2, rfl, hO2, hrow, hg⟩
      have HD := hide (HC.out w5 _ (by rw [uF_len]; exact hrow) (GU.out w5 hg))
      have KU := kp_own HU.out hg BZ2.out
      replace K := hide (K.out.trans (KU.below.mono (Nat.le_trans KB.out (Nat.le_refl B))))
      replace X := hide (X.out.kp KU (by decide))
      replace Y := hide (Y.out.kp KU (by decide))
      replace Z := hide (Z.out.kp KU (by decide))
      replace O2 := hide (row_kp O2.out KU (by decide))
      have BZ5 := hide (Nat.le_trans BZ2.out KU.below.size)
      obtain ⟨l2, hl2'⟩ : ∃ l, l = uO f lf (N - m1) := ⟨_, rfl⟩
      obtain ⟨m2, hm2⟩ : ∃ m, m = l2.length := ⟨_, rfl⟩
      have h232 : m2 ≤ 32 := by rw [hm2, hl2']; exact uO_32 f lf _ (by omega)
      rw [← hl2'] at SK hO2
      rw [← hl2', ← hm2]
      have O3 := hide (show w5.ownsRow wx.heap.size 3 1 (.slice A2 m2 c2) m2 (l2.map ic) by have h := hO2; unfold OwI at h; rw [← hm2] at h; exact h)
      have HM2 := hide hm2
      clear hO2 hrow hg KU UA HC GU HU BZ2 x0 x1 X13 hl2' hm2
      go_upto_region 10 with (at_builtin; refine app_src _ rfl (.tmp 36) (.tmp 42) rfl B wx.heap.size A1 A2 c1 c2 m1 m2 l1 l2 rfl rfl O2.out O3.out HM1.out.symm HM2.out.symm (by omega) BZ5.out ?_; intro A4 c4 w6 hown4 hg4 hat4)
      have KV := kp_own O2.out hg4 BZ5.out
      have e4 : (l1 ++ l2).length = m1 + m2 := by rw [List.length_append, HM1.out, HM2.out]
      have D6 := hide (show OwnD B w6 (.slice (some ⟨g, 0, none⟩) S.sl.length cv) (alK N S.sl (k + 1)).1 by rw [SK.out]; exact HD.out.kp KV (by decide) (by decide))
      have O6 := hide (show OwI B w6 (.slice A4 (m1 + m2) c4) (alK N S.sl (k + 1)).2 by
        rw [SK.out]
        show w6.ownsRow B 3 1 _ (l1 ++ l2).length ((l1 ++ l2).map ic)
        rw [e4]
        exact hown4)
      replace K := hide (K.out.trans (KV.below.mono KB.out))
      replace X := hide (X.out.kp KV (by decide))
      replace Y := hide (Y.out.kp KV (by decide))
      replace Z := hide (Z.out.kp KV (by decide))
      have BZ6 := hide (Nat.le_trans BZ5.out KV.below.size)
      clear hown4 hg4 hat4 KV e4 SK HD O2 O3 BZ5 HM1 HM2
      go_wp2
      go_roundw
      case rel => first | exact ⟨k + 1, by omega, by go_num, D6, O6, K, X, Y, Z, BZ6⟩ | exact ⟨k + 1, by omega, by omega, D6, O6, K, X, Y, Z, BZ6⟩ | ((repeat apply Exists.intro); exact ⟨⟨k + 1, by omega, by go_num, D6, O6, K, X, Y, Z, BZ6⟩, rfl⟩)
      case measure => simp [intOf]; omega
    · obtain rfl : k = S.sl.length := by omega
      obtain ⟨A1, c1, ea, _⟩ := row_form O.out
      subst ea
      have hob := V.out.ob
      obtain ⟨m, hm⟩ : ∃ m : Nat, S.ob = m := ⟨S.ob.toNat, by omega⟩
      have h32 := alK_32 N L32.out S.sl.length (Nat.le_refl _)
      have hle := alK_le N S.sl S.sl.length
      have AS0 := hide (HAS.out.fr (M := (alK N S.sl S.sl.length).1) (alK_len _ _ _) (fun j => alK_fr N S.sl _ j (Nat.le_refl _)))
      obtain ⟨s0, hs0⟩ : ∃ s, s = alK N S.sl S.sl.length := ⟨_, rfl⟩
      have hsl : s0.1.length = S.sl.length := by rw [hs0, alK_len]
      have HER := hide (show alR S N fs = (srt fs).foldl (alZ N m) s0 by
        unfold alR
        rw [Int.toNat_natCast, hm, Int.toNat_natCast, hs0])
      have FRS := hide (show ∀ x, x ∈ frs s0.1 → x ∈ frs S.sl from fun x hx => by
        obtain ⟨c, hc, rfl⟩ := List.mem_map.1 hx
        obtain ⟨j, hj, rfl⟩ := List.mem_iff_getElem.1 hc
        rw [← cAt_get hj, hs0, alK_fr N S.sl _ j (Nat.le_refl _)]
        rw [hsl] at hj
        exact List.mem_map.2 ⟨_, cAt_mem hj, rfl⟩)
      rw [← hs0] at D O h32 hle AS0 ⊢
      have VA := hide (vals_any Af fs.length cf wr)
      have HFR := hide (HF.out wr K.out)
      clear hs0 HAS L32 HF
      go_wp2_with fail
      refine VA.out.mono ?_
      rintro e w7 ⟨rfl, hw7⟩
      have hs7 : w7.heap.size = wr.heap.size + 1 := by rw [← hw7, alloc_size']
      have M7 : Below wr.heap.size wr w7 := by rw [← hw7]; exact bal (brefl wr) _
      have SV := hide (sorted_any wr.heap.size cf Af fs w7 (by omega) (HFR.out.below M7) (by rw [← hw7]; exact Box.new wr 35 _))
      have APN := hide (fun (As : Option Addr) (cs : Nat) (w8 : World) (h : OwI w7.heap.size w8 (.slice As (srt fs).length cs) (srt fs)) => (show Ap (.slice As (srt fs).length cs) (.slice A1 s0.2.length c1) from (ap_new O.out h (by omega)).2))
      replace D := hide (D.out.below M7)
      replace O := hide (row_below O.out M7)
      replace K := hide (btrans K.out M7)
      replace X := hide (X.out.below M7)
      replace Y := hide (Y.out.below M7)
      replace Z := hide (Z.out.below M7)
      replace BZ := hide (Nat.le_trans BZ.out M7.size)
      clear M7 hs7 hw7 VA HFR
      go_wp2_with fail
      refine SV.out.mono ?_
      rintro e w8 ⟨As, cs, rfl, hS, hb⟩
      replace APN := hide (APN.out As cs w8 hS)
      replace D := hide (D.out.below hb)
      replace O := hide (row_below O.out hb)
      replace K := hide (btrans K.out hb)
      replace X := hide (X.out.below hb)
      replace Y := hide (Y.out.below hb)
      replace Z := hide (Z.out.below hb)
      replace BZ := hide (Nat.le_trans BZ.out hb.size)
      obtain ⟨zs, hzs⟩ : ∃ z, z = srt fs := ⟨_, rfl⟩
      have hzl : zs.length = fs.length := by rw [hzs, srt_len]
      have ZR := hide (show ∀ q, q < zs.length → 0 ≤ zs.getD q 0 ∧ zs.getD q 0 < 256 from fun q hq => (FE.out.1 _ (srt_mem.1 (by rw [← hzs, getD_get hq]; exact List.getElem_mem hq))).1)
      have INV := hide (alZ_inv (N := N) (m := m) (s0 := s0) (zs := zs) (F := frs S.sl) (by omega) AS0.out FRS.out (fun z hz => (FE.out.1 z (srt_mem.1 (by rw [← hzs]; exact hz))).2) (by rw [hzs]; exact srt_nodup FE.out.2) hle)
      rw [← hzs] at HER hS APN ⊢
      obtain ⟨sl, hslv⟩ : ∃ s, s = (Value.slice As zs.length cs) := ⟨_, rfl⟩
      have HS := hide (show w8.ownsRow w7.heap.size 3 1 (.slice As zs.length cs) zs.length (zs.map ic) from hS)
      have hl0 : s0.2.length ≤ 32 * 400 := by omega
      obtain ⟨zz, hzz⟩ : ∃ z : Array Value, z = ((List.replicate m false).map bc).toArray := ⟨_, rfl⟩
      have hmk : ∀ w, (Instr.makeSlice 50 (.int .i64 S.ob) (.int .i64 S.ob)).run Try.prog w = .ok (.slice (some ⟨w.heap.size, 0, none⟩) m m) (w.alloc (.cells zz 4)) := fun w => by rw [hm, hzz]; exact makeF w m (by omega)
      have HZZ := hide hzz
      have HMK := hide hmk
      have hmb : 1 ≤ m ∧ m ≤ 32 := by omega
      clear hm hob hzz
      clear hb hS hzs SV FE FRS AS0 hslv hmk
      obtain ⟨B7, hB7⟩ : ∃ B, B = w7.heap.size := ⟨_, rfl⟩
      rw [← hB7] at HS
      clear hB7
      go_upto_region 12 with fail
      go_loopw [11, 49] (fun a i wr => ∃ (q : Nat) (v : Value), q ≤ zs.length ∧ i = .int .i64 q ∧ Hid (OwnD B wr v ((zs.take q).foldl (alZ N m) s0).1) ∧ Hid (OwI B wr a ((zs.take q).foldl (alZ N m) s0).2) ∧ Hid (Below w.heap.size w wr) ∧ Hid (Box wr g3 24 #[.int .i64 S.ob, .slice A S.sl.length cp]) ∧ Hid (Box wr g6 24 #[.int .i64 0, .slice none 0 0]) ∧ Hid (Box wr g10 24 #[.int .i64 S.ob, v]) ∧ Hid (B ≤ wr.heap.size) ∧ Hid (wr.ownsRow B7 3 1 (.slice As zs.length cs) zs.length (zs.map ic)) ∧ Hid (Ap (.slice As zs.length cs) a)) (fun _ i _ => zs.length - (intOf i).toNat)
      case atStart => exact ⟨0, _, Nat.zero_le _, rfl, D, O, K, X, Y, Z, BZ, HS, APN⟩
      case round =>
        clear D O K X Y Z BZ HS APN
        obtain ⟨q, v, hq, rfl, D, O, K, X, Y, Z, BZ, HS, AP⟩ := hrel
        by_cases hlq : q < zs.length
        · have hl2 : (q : Int) < (zs.length : Int) := by omega
          obtain ⟨i1, i2, i3, i4, _⟩ := INV.out q hq
          have ST := hide (alZ_step (N := N) (m := m) (s0 := s0) hlq)
          have hf := ZR.out q hlq
          obtain ⟨st, hst⟩ : ∃ s, s = (zs.take q).foldl (alZ N m) s0 := ⟨_, rfl⟩
          rw [← hst] at D O ST i1 i2 i3 i4
          obtain ⟨b, off, eA, hbl, y0⟩ := (show OwI B7 wr (.slice As zs.length cs) zs from HS.out).bi.cells (brefl wr) hlq
          subst eA
          obtain ⟨f, hfe⟩ : ∃ f, f = zs.getD q 0 := ⟨_, rfl⟩
          rw [← hfe] at y0 ST hf
          obtain ⟨l1, hl1⟩ : ∃ l, l = st.2 := ⟨_, rfl⟩
          obtain ⟨m1, hm1⟩ : ∃ m, m = l1.length := ⟨_, rfl⟩
          obtain ⟨L, hL⟩ : ∃ l, l = st.1 := ⟨_, rfl⟩
          have hST : alZ N m st f = (L.take (caP L f) ++ (f, uF f (List.replicate m false) (N - m1)) :: L.drop (caP L f), l1 ++ uO f (List.replicate m false) (N - m1)) := by rw [hm1, hL, hl1]; rfl
          rw [hST] at ST
          rw [← hl1] at O i3 i4
          rw [← hL] at D i1 i2
          obtain ⟨A2, c2, ea, _⟩ := row_form O.out
          subst ea
          rw [← hm1] at i3 i4 AP ⊢
          have O1 : wr.ownsRow B 3 1 (.slice A2 m1 c2) m1 (l1.map ic) := by have h := O.out; unfold OwI at h; rw [← hm1] at h; exact h
          have HM1 := hide hm1
          have AL := hide i1
          have hLl : L.length ≤ 1000 := by omega
          have hm1b : m1 ≤ 900000 := by omega
          have hmk := HMK.out
          have lfl : (List.replicate m false).length = m := List.length_replicate
          have M1 : Below wr.heap.size wr (wr.alloc (.cells zz 4)) := bal (brefl wr) _
          have HU0 := made_own wr m B (by omega) BZ.out
          rw [← HZZ.out] at HU0
          obtain ⟨wa, hwa⟩ : ∃ wa, wa = wr.alloc (.cells zz 4) := ⟨_, rfl⟩
          rw [← hwa] at M1 HU0
          obtain ⟨gx, hgx⟩ : ∃ g, g = wr.heap.size := ⟨_, rfl⟩
          rw [← hgx] at HU0
          have M2 : Below wa.heap.size wa (wa.alloc (.cells #[.int .i64 f, .slice (some ⟨gx, 0, none⟩) m m] 52)) := bal (brefl wa) _
          have M := M1.trans (M2.mono M1.size)
          have X16 := hide (Box.new wa 52 #[.int .i64 f, .slice (some ⟨gx, 0, none⟩) m m])
          have HU := hide (row_below HU0 M2)
          have BXU := hide (row_box (show (wa.alloc (.cells #[.int .i64 f, .slice (some ⟨gx, 0, none⟩) m m] 52)).ownsRow B 4 1 (.slice (some ⟨gx, 0, none⟩) m m) m ((List.replicate m false).map bc) by have h := HU.out; rw [lfl] at h; exact h))
          have UA := hide (use_any B f (.slice (some ⟨gx, 0, none⟩) m m) (List.replicate m false) ((N : Int) - (m1 : Int)) _ HU.out hf (by omega) (by omega) (by omega) (by omega))
          have hnt : ((N : Int) - (m1 : Int)).toNat = N - m1 := by omega
          rw [hnt] at UA
          have OX := hide ((D.out.x (g := gx) (by omega)).below M)
          have O2 := hide (row_below O1 M)
          have HS2 := hide (row_below HS.out M)
          have x0 : wr.cell? ⟨g3, 0, none⟩ = some (.int .i64 S.ob) := X.out.cell 0
          replace K := hide (btrans K.out M)
          replace X := hide (X.out.below M)
          replace Y := hide (Y.out.below M)
          replace Z := hide (Z.out.below M)
          have BZ2 := hide (Nat.le_trans BZ.out M.size)
          have hr1 : -9223372036854775808 ≤ (N : Int) - (m1 : Int) ∧ (N : Int) - (m1 : Int) ≤ 9223372036854775807 := by omega
          have HST := hide hst
          have HFE := hide hfe
          have HWA := hide hwa
          have HGX := hide hgx
          clear M M1 M2 HU0 hnt D O O1 hm1 hL hl1 hst hfe hwa hgx i1 i2 i3 i4 HS BZ hST
          go_upto_region 15 with fail
          rw [← HGX.out, ← HWA.out]
          obtain ⟨g16, hg16⟩ : ∃ g, g = gx + 1 := ⟨_, rfl⟩
          have e16 : wa.heap.size = gx + 1 := by rw [HWA.out, alloc_size', HGX.out]
          rw [e16, ← hg16] at X16
          rw [← hg16]
          clear e16
          clear hg16 hmk y0 x0
          generalize wa.alloc (.cells #[.int .i64 f, .slice (some ⟨gx, 0, none⟩) m m] 52) = wx at *
          obtain ⟨x0, x1⟩ : wx.cell? ⟨g16, 0, none⟩ = some (.int .i64 f) ∧ wx.cell? ⟨g16, 1, none⟩ = some (.slice (some ⟨gx, 0, none⟩) m m) := ⟨X16.out.cell 0, X16.out.cell 1⟩
          go_wp2_with fail
          refine UA.out.mono ?_
          rintro e w5 ⟨A3, c3, rfl, hO2, hrow, hg⟩
          have KU := kp_own HU.out hg BZ2.out
          have hgb : (Value.slice (some ⟨gx, 0, none⟩) m m).ownBlock = some gx := rfl
          rw [hgb] at hg
          obtain ⟨cux, hbx, _⟩ := BXU.out
          have OX5 := hide (OX.out.grown hbx hg)
          replace K := hide (K.out.trans (KU.below.mono KB.out))
          replace X := hide (X.out.kp KU (by decide))
          replace Y := hide (Y.out.kp KU (by decide))
          replace Z := hide (Z.out.kp KU (by decide))
          replace X16 := hide (X16.out.kp KU (by decide))
          replace O2 := hide (row_kp O2.out KU (by decide))
          replace HS2 := hide (row_kp HS2.out KU (by decide))
          have BZ5 := hide (Nat.le_trans BZ2.out KU.below.size)
          obtain ⟨l2, hl2'⟩ : ∃ l, l = uO f (List.replicate m false) (N - m1) := ⟨_, rfl⟩
          obtain ⟨m2, hm2⟩ : ∃ m, m = l2.length := ⟨_, rfl⟩
          obtain ⟨lx, hlx⟩ : ∃ l, l = uF f (List.replicate m false) (N - m1) := ⟨_, rfl⟩
          have hlxl : lx.length = m := by rw [hlx, uF_len, lfl]
          have h232 : m2 ≤ 32 := by rw [hm2, hl2']; exact uO_32 f _ _ (by omega)
          rw [← hl2', ← hlx] at ST
          rw [← hl2'] at hO2
          rw [← hlx, lfl] at hrow
          rw [← hl2', ← hm2]
          have O3 := hide (show w5.ownsRow wx.heap.size 3 1 (.slice A3 m2 c3) m2 (l2.map ic) by have h := hO2; unfold OwI at h; rw [← hm2] at h; exact h)
          have HM2 := hide hm2
          have FR5 := hide (show w5.ownsRow B 4 1 (.slice (some ⟨gx, 0, none⟩) m m) lx.length (lx.map bc) by rw [hlxl]; exact hrow)
          have HLX := hide hlxl
          clear hO2 hrow hg KU UA OX HU BXU BZ2 x0 x1 hl2' hm2 hlx hlxl hbx hgb
          go_upto_region 16 with (at_builtin; refine app_src _ rfl (.tmp 58) (.tmp 64) rfl B wx.heap.size A2 A3 c2 c3 m1 m2 l1 l2 rfl rfl O2.out O3.out HM1.out.symm HM2.out.symm (by omega) BZ5.out ?_; intro A4 c4 w6 hown4 hg4 hat4)
          have KV := kp_own O2.out hg4 BZ5.out
          have e4 : (l1 ++ l2).length = m1 + m2 := by rw [List.length_append, HM1.out, HM2.out]
          have OX6 := hide (OX5.out.kp KV (by decide) (by decide))
          have FR6 := hide (row_kp FR5.out KV (by decide))
          have HS6 := hide (row_kept HS2.out hg4 (fun g eg => by
            rcases AP.out with h | h
            · rw [h]; exact fun z => by cases z
            · rw [← eg]; exact h))
          have AP6 := hide (show Ap (.slice (some ⟨b, off, none⟩) zs.length cs) (.slice A4 (m1 + m2) c4) by
            rcases hat4 with e | e
            · unfold Ap; rw [e]; exact AP.out
            · right; rw [e]; exact own_lt HS2.out (Nat.le_refl _))
          replace K := hide (K.out.trans (KV.below.mono KB.out))
          replace X := hide (X.out.kp KV (by decide))
          replace Y := hide (Y.out.kp KV (by decide))
          replace Z := hide (Z.out.kp KV (by decide))
          replace X16 := hide (X16.out.kp KV (by decide))
          have BZ6 := hide (Nat.le_trans BZ5.out KV.below.size)
          have O6 := hide (show w6.ownsRow B 3 1 (.slice A4 (m1 + m2) c4) (m1 + m2) ((l1 ++ l2).map ic) from hown4)
          have E4 := hide e4
          clear hown4 hg4 hat4 KV e4 OX5 FR5 O2 O3 BZ5 HM1 HM2 HS2 AP
          obtain ⟨Aw, cw, ew, _⟩ := OX6.out.d.c.form
          subst ew
          have FN := hide (find_any S.ob Aw L cw f w6 OX6.out.d.c.rd hLl AL.out)
          obtain ⟨z0, z1⟩ : w6.cell? ⟨g10, 0, none⟩ = some (.int .i64 S.ob) ∧ w6.cell? ⟨g10, 1, none⟩ = some (.slice Aw L.length cw) := ⟨Z.out.cell 0, Z.out.cell 1⟩
          have hp := (caP_at L f).1
          generalize hitP L f = hh at *
          obtain ⟨p, hpe⟩ : ∃ p, p = caP L f := ⟨_, rfl⟩
          rw [← hpe] at FN hp ST
          clear hpe
          go_wp2_with fail
          refine FN.out.mono ?_
          rintro e w7 ⟨rfl, hb⟩
          replace K := hide (btrans K.out hb)
          replace X := hide (X.out.below hb)
          replace Y := hide (Y.out.below hb)
          replace Z := hide (Z.out.below hb)
          replace X16 := hide (X16.out.below hb)
          replace OX6 := hide (OX6.out.below hb)
          replace FR6 := hide (row_below FR6.out hb)
          replace HS6 := hide (row_below HS6.out hb)
          replace O6 := hide (row_below O6.out hb)
          replace BZ6 := hide (Nat.le_trans BZ6.out hb.size)
          clear hb z0 z1 FN
          obtain ⟨z0, z1⟩ : w7.cell? ⟨g10, 0, none⟩ = some (.int .i64 S.ob) ∧ w7.cell? ⟨g10, 1, none⟩ = some (.slice Aw L.length cw) := ⟨Z.out.cell 0, Z.out.cell 1⟩
          obtain ⟨x0, x1⟩ : w7.cell? ⟨g16, 0, none⟩ = some (.int .i64 f) ∧ w7.cell? ⟨g16, 1, none⟩ = some (.slice (some ⟨gx, 0, none⟩) m m) := ⟨X16.out.cell 0, X16.out.cell 1⟩
          have NB := Box.new w7 52 #[.int .i64 f, .slice (some ⟨gx, 0, none⟩) m m]
          have HNE := OX6.out.ne (Nat.le_refl w7.heap.size)
          have M := bal (brefl w7) (.cells #[.int .i64 f, .slice (some ⟨gx, 0, none⟩) m m] 52)
          replace K := hide (btrans K.out M)
          replace X := hide (X.out.below M)
          replace Y := hide (Y.out.below M)
          replace Z := hide (Z.out.below M)
          replace OX6 := hide (OX6.out.below M)
          replace FR6 := hide (row_below FR6.out M)
          replace HS6 := hide (row_below HS6.out M)
          replace O6 := hide (row_below O6.out M)
          replace BZ6 := hide (Nat.le_trans BZ6.out M.size)
          have IX := hide (ins_own B gx w7.heap.size p (.slice Aw L.length cw) (.slice (some ⟨gx, 0, none⟩) m m) L f lx _ OX6.out FR6.out rfl BZ6.out hLl NB hp HNE)
          clear NB HNE M
          go_wp2_with fail
          refine IX.out.mono ?_
          rintro e w8 ⟨v', rfl, D8, KI⟩
          obtain ⟨A8, c8, ev8, _⟩ := D8.c.form
          obtain ⟨n8, hn8⟩ : ∃ n, n = (L.take p ++ (f, lx) :: L.drop p).length := ⟨_, rfl⟩
          rw [← hn8] at ev8
          clear hn8
          replace K := hide (K.out.trans (KI.below.mono KB.out))
          replace X := hide (X.out.kp KI (by decide))
          replace Y := hide (Y.out.kp KI (by decide))
          replace Z := hide (Z.out.kp KI (by decide))
          replace HS6 := hide (row_kp HS6.out KI (by decide))
          replace O6 := hide (row_kp O6.out KI (by decide))
          replace BZ6 := hide (Nat.le_trans BZ6.out KI.below.size)
          have KS := Kp.boxset Z.out ZG.out 1 v'
          have D9 := hide (show OwnD B (w8.setCell ⟨g10, 1, none⟩ v') v' ((zs.take (q + 1)).foldl (alZ N m) s0).1 by rw [ST.out]; exact D8.kp KS (by decide) (by decide))
          have O9 := hide (show OwI B (w8.setCell ⟨g10, 1, none⟩ v') (.slice A4 (m1 + m2) c4) ((zs.take (q + 1)).foldl (alZ N m) s0).2 by
            rw [ST.out]
            show World.ownsRow _ B 3 1 _ (l1 ++ l2).length ((l1 ++ l2).map ic)
            rw [E4.out]
            exact row_kp O6.out KS (by decide))
          have HS9 := hide (row_kp HS6.out KS (by decide))
          have K9 := hide (K.out.trans (KS.below.mono KB.out))
          have X9 := hide (X.out.far (b := g10) (i := 1) (by have := XL.out; have := ZG.out; omega) v')
          have Y9 := hide (Y.out.far (b := g10) (i := 1) (by have := YL.out; have := ZG.out; omega) v')
          have Z9 := hide (Z.out.put 1 v')
          have BZ9 := hide (show B ≤ (w8.setCell ⟨g10, 1, none⟩ v').heap.size from Nat.le_trans BZ6.out KS.below.size)
          have z9 : w8.cell? ⟨g10, 1, none⟩ = some (.slice Aw L.length cw) := Z.out.cell 1
          have zf := Z.out.frozen 1
          clear z0 z1 x0 x1 D8 KI KS K X Y Z HS6 O6 BZ6 IX OX6 FR6 X16 E4 ST
          subst ev8
          go_wp2
          go_roundw
          case rel => first | exact ⟨q + 1, _, by omega, by go_num, D9, O9, K9, X9, Y9, Z9, BZ9, HS9, AP6⟩ | exact ⟨q + 1, _, by omega, by go_num, D9, O9, K9, X9, Y9, Z9, BZ9⟩ | exact ⟨q + 1, _, by omega, by omega, D9, O9, K9, X9, Y9, Z9, BZ9⟩ | exact ⟨q + 1, _, by omega, by omega, D9, O9, K9, X9, Y9, Z9, BZ9, HS9, AP6⟩ | ((repeat apply Exists.intro); exact ⟨⟨q + 1, _, by omega, by go_num, D9, O9, K9, X9, Y9, Z9, BZ9, HS9, AP6⟩, rfl⟩)
          case measure => simp [intOf]; omega
        · obtain rfl : q = zs.length := by omega
          rw [List.take_length] at D O
          rw [← HER.out, ← EL.out] at D
          rw [← HER.out, ← EI.out] at O
          obtain ⟨Aw, cw, ew, _⟩ := D.out.c.form
          subst ew
          obtain ⟨A9, c9, e9, _⟩ := row_form O.out
          subst e9
          obtain ⟨z0, z1⟩ : wr.cell? ⟨g10, 0, none⟩ = some (.int .i64 S.ob) ∧ wr.cell? ⟨g10, 1, none⟩ = some (.slice Aw (alL S N fs).length cw) := ⟨Z.out.cell 0, Z.out.cell 1⟩
          have y0 : wr.cell? ⟨g6, 0, none⟩ = some (.int .i64 0) := Y.out.cell 0
          have y1 : wr.cell? ⟨g6, 1, none⟩ = some (.slice none 0 0) := Y.out.cell 1
          have yf0 := Y.out.frozen 0
          have yf1 := Y.out.frozen 1
          go_wp2
          have E1 := (Y.out.put 0 (.int .i64 S.ob)).put 1 (.slice Aw (alL S N fs).length cw)
          have KP1 := Kp.boxset Y.out (show w.heap.size ≤ g6 by have h1 := HG3.out; have h2 := HG6.out; omega) 0 (.int .i64 S.ob)
          have KP2 := Kp.boxset (Y.out.put 0 (.int .i64 S.ob)) (show w.heap.size ≤ g6 by have h1 := HG3.out; have h2 := HG6.out; omega) 1 (.slice Aw (alL S N fs).length cw)
          refine ret_s4 (v := .slice Aw (alL S N fs).length cw) (g := g6) (k := 6) (o := S.ob) (A := A9) (n := (alI S N fs).length) (c := c9) (er2 := 0) (m := 7) (m2 := 8) rfl rfl rfl rfl rfl E1 ?_
          refine ⟨_, A9, c9, by rw [EB.out, E0.out], ?_, ?_, (K.out.trans KP1.below).trans KP2.below⟩
          · exact ((D.out.kp KP1 (by decide) (by decide)).kp KP2 (by decide) (by decide)).mono KB.out
          · exact row_mono (row_kp (row_kp O.out KP1 (by decide)) KP2 (by decide)) KB.out
end Go.Proofs.Ytncjicggolmofaa.Sb
