import Derived.Test.YtiopfeleaifpbabZ2
import Derived.Test.YtiopfeleaifpbabAw
namespace Go.Proofs.Ytiopfeleaifpbab.Bd
open Go Go.RowKit
set_option linter.unusedVariables false
set_option linter.unusedSimpArgs false
set_option maxRecDepth 100000 in
set_option maxHeartbeats 8000000 in
theorem rreserve_any (A : Option Addr) (cp : Nat) (Z : List Zo) (w : World) (hr : Zs w A Z) (hn : Z.length ≤ 9223372036854775807) : Calls Try.prog 25 #[.slice A Z.length cp] w fun e w' => e = .returned (.tuple #[.int .i64 (rN Z), .int .i64 (rA Z), .int .i64 (rE Z)]) ∧ Below w.heap.size w w' := by
  have HR := hide hr
  have IC := hide (fun n w => isr_any n w)
  clear hr
  by_cases h6 : Z.length ≤ 6
  · have d6 : ¬ (6 : Int) < (Z.length : Int) := by omega
    have K0 := hide (brefl w)
    go_enter Try.func25, Try.ntmps25
    go_wp2
    go_loopw [5, 6, 7] (fun a b c wr => ∃ k : Nat, k ≤ Z.length ∧ a = .int .i64 (sN Z k) ∧ b = .int .i64 (sA Z k) ∧ c = .int .i64 k ∧ Hid (Below w.heap.size w wr) ∧ Hid (∀ j, j < k → inC (zAt Z j).p.mn)) (fun _ _ c _ => Z.length - (intOf c).toNat)
    case atStart => exact ⟨0, Nat.zero_le _, rfl, rfl, rfl, K0, hide (fun j h => by omega)⟩
    case round =>
      clear K0
      obtain ⟨k, hk, rfl, rfl, rfl, K, N⟩ := hrel
      by_cases hlt : k < Z.length
      · have hl2 : (k : Int) < (Z.length : Int) := by omega
        have hk0 : (0 : Int) ≤ (k : Int) := by omega
        obtain ⟨b, off, rfl, hbl, hcs⟩ := HR.out.cells K.out hlt
        have EN := hide (show sN Z (k + 1) = sN Z k + if (zAt Z k).p.kd = 0 then (zAt Z k).p.mn else 0 from rfl)
        have EA := hide (show sA Z (k + 1) = sA Z k + (zAt Z k).p.mn from rfl)
        have bd := s_bd N.out
        have N2 := hide (show ∀ (h : inC (zAt Z k).p.mn) (j : Nat), j < k + 1 → inC (zAt Z j).p.mn from fun h j hj => by
          by_cases e : j = k
          · rw [e]; exact h
          · exact N.out j (by omega))
        have NO := hide (show ¬ inC (zAt Z k).p.mn → ¬ okZ Z from fun h o => h (o.2 k hlt))
        have y1 : wr.cell? ⟨b, off + k * 10 + 1, none⟩ = some (.int .i64 (zAt Z k).p.kd) := hcs 1 (by omega)
        have y4 : wr.cell? ⟨b, off + k * 10 + 4, none⟩ = some (.int .i64 (zAt Z k).p.mn) := hcs 4 (by omega)
        generalize (zAt Z k).p.kd = kd at *
        generalize (zAt Z k).p.mn = mn at *
        obtain ⟨a, ha⟩ : ∃ a, a = sN Z k := ⟨_, rfl⟩
        obtain ⟨s, hs⟩ : ∃ s, s = sA Z k := ⟨_, rfl⟩
        rw [← ha, ← hs] at bd ⊢
        rw [← ha] at EN
        rw [← hs] at EA
        clear hcs ha hs N
        by_cases hi : inC mn
        · have di := decide_eq_true hi
          have N3 := hide (N2.out hi)
          unfold inC at hi
          obtain ⟨hi0, hi1⟩ := hi
          obtain ⟨bd1, bd2, bd3, bd4⟩ := bd
          by_cases hkd : kd = 0
          · rw [if_pos hkd] at EN
            subst hkd
            go_wp2_with (go_at_call 28; refine (IC.out _ _).mono ?_; rintro e w' ⟨rfl, rfl⟩)
            go_roundw
            case rel => exact ⟨k + 1, by omega, by rw [EN.out], by rw [EA.out], by go_num, K, N3⟩
            case measure => simp [intOf]; omega
          · rw [if_neg hkd, Int.add_zero] at EN
            have dk : (kd == 0) = false := by simpa using hkd
            go_wp2_with (go_at_call 28; refine (IC.out _ _).mono ?_; rintro e w' ⟨rfl, rfl⟩)
            go_roundw
            case rel => exact ⟨k + 1, by omega, by rw [EN.out], by rw [EA.out], by go_num, K, N3⟩
            case measure => simp [intOf]; omega
        · have di := decide_eq_false hi
          have RN := hide (r_no (NO.out hi))
          clear hi
          go_wp2_with (go_at_call 28; refine (IC.out _ _).mono ?_; rintro e w' ⟨rfl, rfl⟩)
          exact ret_iii Try.results25 rfl rfl rfl rfl ⟨by rw [RN.out.1, RN.out.2.1, RN.out.2.2], K.out⟩
      · obtain rfl : k = Z.length := by omega
        have RN := hide (r_yes ⟨h6, N.out⟩)
        go_wp2
        exact ret_iii Try.results25 rfl rfl rfl rfl ⟨by rw [RN.out.1, RN.out.2.1, RN.out.2.2], K.out⟩
  · have d6 : (6 : Int) < (Z.length : Int) := by omega
    have RN := hide (r_no (Z := Z) (fun o => h6 o.1))
    go_enter Try.func25, Try.ntmps25
    go_wp2
    exact ret_iii Try.results25 rfl rfl rfl rfl ⟨by rw [RN.out.1, RN.out.2.1, RN.out.2.2], brefl w⟩
theorem bks_len (p : Pm) (L : Fl) : (bks p L).length ≤ 5 := by
  unfold bks
  split
  · exact Nat.le_refl 5
  · exact Nat.zero_le _
set_option maxRecDepth 100000 in
set_option maxHeartbeats 8000000 in
theorem law_zones (A : Option Addr) (cp : Nat) (Z : List Zo) (w : World) (hr : Zs w A Z) (hz : ZIs w Z) (hn : Z.length ≤ 9223372036854775807) : Calls Try.prog 9 #[.slice A Z.length cp] w fun e w' => e = .returned (.bool true) ∧ Below w.heap.size w w' := by
  have AW := hide (fun W => awake_any W)
  have HR := hide hr
  have HZ := hide hz
  have RA1 := hide (fun W (hb : Below w.heap.size w W) => reserve_any A cp Z W (fun h => by obtain ⟨b, off, e, hl, hc⟩ := hr h; exact ⟨b, off, e, Nat.lt_of_lt_of_le hl hb.size, fun k hk j hj => (hb.cell (p := ⟨b, _, none⟩) hl).trans (hc k hk j hj)⟩) (fun k hk => (hz k hk).below hb) hn)
  have RA2 := hide (fun W (hb : Below w.heap.size w W) => rreserve_any A cp Z W (fun h => by obtain ⟨b, off, e, hl, hc⟩ := hr h; exact ⟨b, off, e, Nat.lt_of_lt_of_le hl hb.size, fun k hk j hj => (hb.cell (p := ⟨b, _, none⟩) hl).trans (hc k hk j hj)⟩) hn)
  generalize rN Z = rn at *
  generalize rA Z = ra at *
  generalize rE Z = re at *
  clear hr hz
  by_cases h10 : Z.length ≤ 10
  · have d10 : decide ((10 : Int) < (Z.length : Int)) = false := decide_eq_false (by omega)
    go_enter Try.func9, Try.ntmps9
    go_upto_region 3 with (go_at_call 10; refine (AW.out _).mono ?_; rintro e w1 ⟨rfl, hb⟩)
    have K := hide hb
    clear hb
    go_wp2
    go_loopw [26] (fun a wr => ∃ k : Nat, k ≤ Z.length ∧ a = .int .i64 k ∧ Hid (Below w.heap.size w wr)) (fun a _ => Z.length - (intOf a).toNat)
    case atStart => exact ⟨0, Nat.zero_le _, rfl, K⟩
    case round =>
      clear K
      obtain ⟨k, hk, rfl, K⟩ := hrel
      by_cases hlt : k < Z.length
      · have hl2 : (k : Int) < (Z.length : Int) := by omega
        have hk0 : (0 : Int) ≤ (k : Int) := by omega
        obtain ⟨b, off, rfl, hbl, hcs⟩ := HR.out.cells K.out hlt
        obtain ⟨A0, c0, A1, c1, A2, c2, A3, c3, A4, c4, e0, e1, e2, e3, e4⟩ := (HZ.out k hlt).forms
        have HZk := hide (HZ.out k hlt)
        have y0 := hcs 0 (by omega); have y1 := hcs 1 (by omega); have y2 := hcs 2 (by omega); have y3 := hcs 3 (by omega); have y4 := hcs 4 (by omega)
        have y5 := hcs 5 (by omega); have y6 := hcs 6 (by omega); have y7 := hcs 7 (by omega); have y8 := hcs 8 (by omega); have y9 := hcs 9 (by omega)
        generalize (zAt Z k).L = L at *
        generalize (zAt Z k).p = p at *
        generalize (zAt Z k).v = v at *
        unfold znC at y0 y1 y2 y3 y4 y5 y6 y7 y8 y9
        rw [e0, e1, e2, e3, e4] at y0 y1 y2 y3 y4 y5 y6 y7 y8 y9
        simp at y0 y1 y2 y3 y4 y5 y6 y7 y8 y9
        have B1 := hide (fun W (hb : Below w.heap.size w W) => blocks_any p v L W (HZk.out.below hb))
        have B2 := hide (fun W (hb : Below w.heap.size w W) => rblocks_any p v L W (HZk.out.below hb))
        unfold BkR at B1 B2
        have BL := hide (bks_len p L)
        generalize bks p L = l at *
        generalize chk p L = ce at *
        obtain ⟨nd, hnd⟩ : ∃ x, x = p.nd := ⟨_, rfl⟩
        obtain ⟨kd, hkd⟩ : ∃ x, x = p.kd := ⟨_, rfl⟩
        obtain ⟨st, hst⟩ : ∃ x, x = p.st := ⟨_, rfl⟩
        obtain ⟨ct, hct⟩ : ∃ x, x = p.ct := ⟨_, rfl⟩
        obtain ⟨mn, hmn⟩ : ∃ x, x = p.mn := ⟨_, rfl⟩
        rw [← hnd] at y0
        rw [← hkd] at y1
        rw [← hst] at y2
        rw [← hct] at y3
        rw [← hmn] at y4
        obtain ⟨n0, hn0⟩ : ∃ n, n = (L 0).length := ⟨_, rfl⟩
        obtain ⟨n1, hn1⟩ : ∃ n, n = (L 1).length := ⟨_, rfl⟩
        obtain ⟨n2, hn2⟩ : ∃ n, n = (L 2).length := ⟨_, rfl⟩
        obtain ⟨n3, hn3⟩ : ∃ n, n = (L 3).length := ⟨_, rfl⟩
        obtain ⟨n4, hn4⟩ : ∃ n, n = (L 4).length := ⟨_, rfl⟩
        rw [← hn0] at y5 e0
        rw [← hn1] at y6 e1
        rw [← hn2] at y7 e2
        rw [← hn3] at y8 e3
        rw [← hn4] at y9 e4
        have ez := hide (show (#[.int .i64 nd, .int .i64 kd, .int .i64 st, .int .i64 ct, .int .i64 mn, .slice A0 n0 c0, .slice A1 n1 c1, .slice A2 n2 c2, .slice A3 n3 c3, .slice A4 n4 c4] : Array Value) = znC p v by unfold znC; rw [e0, e1, e2, e3, e4, hnd, hkd, hst, hct, hmn])
        clear hcs e0 e1 e2 e3 e4 hnd hkd hst hct hmn hn0 hn1 hn2 hn3 hn4
        have M := bal (brefl wr) (.cells (znC p v) 44)
        have X := hide (Box.new wr 44 (znC p v))
        have K1 := hide (K.out.trans (M.mono K.out.size))
        clear M
        go_upto_region 6 with fail
        rw [ez.out]
        obtain ⟨g, hg⟩ : ∃ g, g = wr.heap.size := ⟨_, rfl⟩
        rw [← hg] at X ⊢
        generalize wr.alloc (.cells (znC p v) 44) = wx at *
        clear hg y0 y1 y2 y3 y4 y5 y6 y7 y8 y9 ez HZk K
        go_wp2_with (first | (refine wpList_load_row rfl 44 _ rfl g rfl 44 (znC p v) (0, 0) _ X.out Try.underlying44 rfl (by kernel_rfl) ?_) | fail)
        refine (B1.out _ K1.out).mono ?_
        rintro e w2 ⟨u1, rfl, ⟨P1, d1, rfl, hd1, r1⟩, hb⟩
        have R1 := hide r1
        replace X := hide (X.out.below hb)
        replace K1 := hide (K1.out.trans (hb.mono K1.out.size))
        clear hb r1
        go_wp2_with (first | (refine wpList_load_row rfl 44 _ rfl g rfl 44 (znC p v) (0, 0) _ X.out Try.underlying44 rfl (by kernel_rfl) ?_) | fail)
        refine (B2.out _ K1.out).mono ?_
        rintro e w3 ⟨u2, rfl, ⟨P2, d2, rfl, hd2, r2⟩, hb⟩
        have R2 := hide r2
        replace R1 := hide (R1.out.below hb)
        replace K1 := hide (K1.out.trans (hb.mono K1.out.size))
        clear hb r2 X B1 B2
        go_wp2
        go_loopw [52] (fun a wi => ∃ j : Nat, j ≤ l.length ∧ a = .int .i64 j ∧ Hid (Below w3.heap.size w3 wi)) (fun a _ => l.length - (intOf a).toNat)
        case atStart => exact ⟨0, Nat.zero_le _, rfl, hide (brefl w3)⟩
        case round =>
          obtain ⟨j, hj, rfl, KK⟩ := hrel
          have hl5 := BL.out
          by_cases hjl : j < l.length
          · have hj2 : (j : Int) < (l.length : Int) := by omega
            have hj0 : (0 : Int) ≤ (j : Int) := by omega
            obtain ⟨b1, o1, rfl, hb1, x1⟩ := R1.out.at_ KK.out hjl
            obtain ⟨b2, o2, rfl, hb2, x2⟩ := R2.out.at_ KK.out hjl
            have CE := hide (fun (W : World) (h : Below w3.heap.size w3 W) => (⟨by obtain ⟨b', o', e, _, c⟩ := R1.out.at_ h hjl; injection e with e; injection e with ea eb; subst ea eb; exact c, by obtain ⟨b', o', e, _, c⟩ := R2.out.at_ h hjl; injection e with e; injection e with ea eb; subst ea eb; exact c⟩ : W.cell? ⟨b1, o1 + j, none⟩ = some (.int .i64 (l.getD j 0)) ∧ W.cell? ⟨b2, o2 + j, none⟩ = some (.int .i64 (l.getD j 0))))
            generalize l.getD j 0 = z at *
            have KD := hide (show Below w3.heap.size w3 _ from below_drewN KK.out 1)
            clear x1 x2
            go_wp2
            refine wp_region_noPanic ?_
            refine wp_region_held_drew (S := (fun W => W.cell? ⟨b1, o1 + j, none⟩ = some (.int .i64 z) ∧ W.cell? ⟨b2, o2 + j, none⟩ = some (.int .i64 z))) (by kernel_rfl) ?_ (fun hHeld => ?_)
            · exact CE.out _ KD.out
            refine wpAnyH_take (i := 0) (oi := ⟨some 55, _, _, _, _, _⟩) (v := ?_) rfl (by kernel_rfl) (by kernel_rfl) (by kernel_rfl) (fun _ _ _ h => h) (Or.inl ⟨by kernel_rfl, ?_⟩) (by assumption) ?_
            rotate_left 1
            · (intro w hSw; (try dsimp only at hSw); go_simp) <;> (with_reducible rfl)
            (try simp only [Act.put, List.setIfInBounds_toArray, List.set_cons_succ, List.set_cons_zero])
            refine wpAnyH_take (i := 1) (oi := ⟨some 56, _, _, _, _, _⟩) (v := ?_) rfl (by kernel_rfl) (by kernel_rfl) (by kernel_rfl) (fun _ _ _ h => h) (Or.inl ⟨by kernel_rfl, ?_⟩) (by assumption) ?_
            rotate_left 1
            · (intro w hSw; (try dsimp only at hSw); go_simp) <;> (with_reducible rfl)
            (try simp only [Act.put, List.setIfInBounds_toArray, List.set_cons_succ, List.set_cons_zero])
            refine wpAnyH_take (i := 2) (oi := ⟨some 57, _, _, _, _, _⟩) (v := ?_) rfl (by kernel_rfl) (by kernel_rfl) (by kernel_rfl) (fun _ _ _ h => h) (Or.inl ⟨by kernel_rfl, ?_⟩) (by assumption) ?_
            rotate_left 1
            · (intro w hSw; (try dsimp only at hSw); go_simp) <;> (with_reducible rfl)
            (try simp only [Act.put, List.setIfInBounds_toArray, List.set_cons_succ, List.set_cons_zero])
            refine wpAnyH_take (i := 3) (oi := ⟨some 58, _, _, _, _, _⟩) (v := ?_) rfl (by kernel_rfl) (by kernel_rfl) (by kernel_rfl) (fun _ _ _ h => h) (Or.inl ⟨by kernel_rfl, ?_⟩) (by assumption) ?_
            rotate_left 1
            · (intro w hSw; (try dsimp only at hSw); go_simp) <;> (with_reducible rfl)
            (try simp only [Act.put, List.setIfInBounds_toArray, List.set_cons_succ, List.set_cons_zero])
            refine wpAnyH_take (i := 4) (oi := ⟨some 59, _, _, _, _, _⟩) (v := ?_) rfl (by kernel_rfl) (by kernel_rfl) (by kernel_rfl) (fun _ _ _ h => h) (Or.inl ⟨by kernel_rfl, ?_⟩) (by assumption) ?_
            rotate_left 1
            · (intro w hSw; (try dsimp only at hSw); go_simp) <;> (with_reducible rfl)
            (try simp only [Act.put, List.setIfInBounds_toArray, List.set_cons_succ, List.set_cons_zero])
            refine wpAnyH_take (i := 5) (oi := ⟨some 60, _, _, _, _, _⟩) (v := ?_) rfl (by kernel_rfl) (by kernel_rfl) (by kernel_rfl) (fun _ _ _ h => h) (Or.inl ⟨by kernel_rfl, ?_⟩) (by assumption) ?_
            rotate_left 1
            · (intro w hSw; (try dsimp only at hSw); go_simp) <;> (with_reducible rfl)
            (try simp only [Act.put, List.setIfInBounds_toArray, List.set_cons_succ, List.set_cons_zero])
            refine wpAnyH_take (i := 6) (oi := ⟨some 61, _, _, _, _, _⟩) (v := ?_) rfl (by kernel_rfl) (by kernel_rfl) (by kernel_rfl) (fun _ _ _ h => h) (Or.inl ⟨by kernel_rfl, ?_⟩) (by assumption) ?_
            rotate_left 1
            · (intro w hSw; (try dsimp only at hSw); go_simp) <;> (with_reducible rfl)
            (try simp only [Act.put, List.setIfInBounds_toArray, List.set_cons_succ, List.set_cons_zero])
            refine wpAnyH_take (i := 7) (oi := ⟨some 62, _, _, _, _, _⟩) (v := ?_) rfl (by kernel_rfl) (by kernel_rfl) (by kernel_rfl) (fun _ _ _ h => h) (Or.inl ⟨by kernel_rfl, ?_⟩) (by assumption) ?_
            rotate_left 1
            · (intro w hSw; (try dsimp only at hSw); go_simp) <;> (with_reducible rfl)
            (try simp only [Act.put, List.setIfInBounds_toArray, List.set_cons_succ, List.set_cons_zero])
            refine wpAnyH_take (i := 8) (oi := ⟨some 63, _, _, _, _, _⟩) (v := ?_) rfl (by kernel_rfl) (by kernel_rfl) (by kernel_rfl) (fun _ _ _ h => h) (Or.inl ⟨by kernel_rfl, ?_⟩) (by assumption) ?_
            rotate_left 1
            · (intro w hSw; (try dsimp only at hSw); go_simp) <;> (with_reducible rfl)
            (try simp only [Act.put, List.setIfInBounds_toArray, List.set_cons_succ, List.set_cons_zero])
            refine wpAnyH_done (by kernel_rfl) ?_ _
            refine NoPanic.normal ?_
            go_wp2
            go_roundw
            case rel => exact ⟨j + 1, by omega, by go_num, KD⟩
            case measure => simp [intOf]; omega
          · obtain rfl : j = l.length := by omega
            go_wp2
            go_roundw
            case rel => exact ⟨k + 1, by omega, by go_num, hide (K1.out.trans (KK.out.mono K1.out.size))⟩
            case measure => simp [intOf]; omega
      · obtain rfl : k = Z.length := by omega
        go_wp2_with fail
        refine (RA1.out _ K.out).mono ?_
        rintro e w2 ⟨rfl, hb⟩
        replace K := hide (K.out.trans (hb.mono K.out.size))
        clear hb
        go_wp2_with fail
        refine (RA2.out _ K.out).mono ?_
        rintro e w3 ⟨rfl, hb⟩
        go_wp2
        go_ret
        exact ⟨by simp, K.out.trans (hb.mono K.out.size)⟩
  · have d10 : decide ((10 : Int) < (Z.length : Int)) = true := decide_eq_true (by omega)
    clear h10 RA1 RA2
    go_enter Try.func9, Try.ntmps9
    go_upto_region 2 with (go_at_call 10; refine (AW.out _).mono ?_; rintro e w1 ⟨rfl, hb⟩)
    have K := hide hb
    clear hb
    go_wp2_with (go_at_call 10; refine (AW.out _).mono ?_; rintro e w3 ⟨rfl, hb⟩)
    go_ret
    exact ⟨rfl, btrans K.out hb⟩
end Go.Proofs.Ytiopfeleaifpbab.Bd
