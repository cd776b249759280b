import Derived.Test.YtncdilkcblakhaaL4m
namespace Go.Proofs.Ytncdilkcblakhaa.In
open Go Go.RowKit
set_option linter.unusedVariables false
set_option linter.unusedSimpArgs false
set_option maxRecDepth 100000 in
set_option maxHeartbeats 16000000 in
theorem law_apart (A : Option Addr) (c : Nat) (l : By) (s0 : Int) (w : World) (h : BsB w A l) (hy : Byt l) (hn : l.length ≤ 9223372036854775807) (hs0 : 0 ≤ s0 ∧ s0 < 256) : Calls Try.prog 10 #[.slice A l.length c, .int .u8 s0] w (LawR w) := by
  obtain ⟨i0, hi0, hz0, hz1, hz2⟩ := info_parts info3
  have AW := hide (fun w => awake_any w)
  unfold LawR
  by_cases h4 : 4 < l.length
  · have hgt : (4 : Int) < l.length := by omega
    clear h
    go_enter Try.func10, Try.ntmps10
    go_wp2_with fail
    refine (AW.out _).mono ?_
    rintro e w1 ⟨rfl, hb⟩
    have K := hide hb
    clear hb
    go_wp2_with fail
    refine (AW.out _).mono ?_
    rintro e w2 ⟨rfl, hb⟩
    replace K := hide (btrans K.out hb)
    clear hb
    go_wp2
    go_ret
    exact ⟨rfl, K.out⟩
  · have hgt : ¬ (4 : Int) < l.length := by omega
    have hl4 : l.length ≤ 4 := by omega
    have HR := hide h
    have HY := hide hy
    clear h hy h4
    go_enter Try.func10, Try.ntmps10
    go_wp2_with fail
    refine (AW.out _).mono ?_
    rintro e w1 ⟨rfl, hb⟩
    have K1 := hide hb
    replace HR := hide (HR.out.below hb)
    obtain ⟨B, hB⟩ : ∃ B, B = w1.heap.size := ⟨_, rfl⟩
    have HB := hide hB
    have K := hide (show Below B w1 w1 by rw [hB]; exact brefl _)
    clear hb AW hB
    go_wp2
    go_loopw [5, 27] (fun a i wr => ∃ k : Nat, k ≤ l.length ∧ i = .int .i64 k ∧ Hid (OwI B wr a (cps l k)) ∧ Hid (Below B w1 wr)) (fun _ i _ => l.length - (intOf i).toNat)
    case atStart => exact ⟨0, Nat.zero_le _, rfl, hide (by rw [show cps l 0 = [] from rfl]; exact OwI.nil _ _), K⟩
    case round =>
      clear K
      obtain ⟨k, hk, rfl, O, K⟩ := hrel
      obtain ⟨A1, cap1, ev, hcp⟩ := row_form O.out
      subst ev
      have hcl := cps_len l hk
      rw [hcl] at hcp ⊢
      have SA0 : B ≤ wr.heap.size := by have := K.out.size; rw [HB.out]; exact (HB.out ▸ this)
      by_cases hlt : k < l.length
      · have hl2 : (k : Int) < (l.length : Int) := by omega
        have hk0 : (0 : Int) ≤ (k : Int) := by omega
        obtain ⟨b, o, rfl, hb, xx⟩ := (HR.out.below (show Below w1.heap.size w1 wr by rw [← HB.out]; exact K.out)).cells (brefl _) hlt
        have hy := HY.out.at hlt
        have EF := hide (cps_succ hlt)
        have hcl2 := hide (cps_len l (show k + 1 ≤ l.length by omega))
        generalize l.getD k 0 = z at *
        have tz : z.tmod 16 = z % 16 := Int.tmod_eq_emod_of_nonneg hy.1
        have uz : IntKind.u8.wrap (z % 16) = z % 16 := by rw [IntKind.wrap_u8']; omega
        have wz : IntKind.i64.wrap (z % 16) = z % 16 := by rw [IntKind.wrap_i64]; omega
        have wz1 : IntKind.i64.wrap (1 + z % 16) = 1 + z % 16 := by rw [IntKind.wrap_i64]; omega
        have M := bal (brefl wr) (.cells #[.int .i64 (1 + z % 16)] 3)
        have OA := hide (show (wr.alloc (.cells #[.int .i64 (1 + z % 16)] 3)).ownsRow B 3 1 (.slice A1 k cap1) k ((cps l k).map ic) by
          have := row_below O.out M
          rwa [hcl] at this)
        have NB := hide (cell_one_new wr (.int .i64 (1 + z % 16)) 3)
        have SA := hide (show B ≤ (wr.alloc (.cells #[.int .i64 (1 + z % 16)] 3)).heap.size by rw [alloc_size']; omega)
        have KA := hide (K.out.trans (M.mono SA0))
        clear M O K SA0 hcl hcp
        go_upto_region 8 with (at_builtin; refine wpList_append_own_at _ rfl (.tmp 31) (.tmp 36) 38 rfl B 3 i0 _ 1 8 Try.underlying38 hi0 hz0 hz1 hz2 rfl (by omega) (.slice A1 k cap1) k ((cps l k).map ic) rfl OA.out ⟨wr.heap.size, 0, none⟩ 1 1 [.int .i64 (1 + z % 16)] rfl rfl NB.out (by intro u hu; rw [List.mem_singleton.1 hu]; rfl) (by simp only [maxLen]; omega) (by omega) SA.out ?_; intro v4 w4 hown4 hg4 _ hat4; obtain ⟨A4, cp4, ev4, _⟩ := row_form hown4; subst ev4)
        have O := hide (show OwI B w4 (.slice A4 (k + 1) cp4) (cps l (k + 1)) by
          unfold OwI
          rw [hcl2.out, EF.out, List.map_append]
          exact hown4)
        have B4 := below_grown OA.out hg4 SA.out
        have K := hide (KA.out.trans B4)
        clear B4 hown4 hg4 hat4 OA NB SA KA EF
        go_wp2
        go_roundw
        case rel => first | exact ⟨k + 1, by omega, by go_num, O, K⟩ | ((repeat apply Exists.intro); exact ⟨⟨k + 1, by omega, by go_num, O, K⟩, rfl⟩)
        case measure => simp [intOf]; omega
      · obtain rfl : k = l.length := by omega
        have ts : s0.tmod 65 = s0 % 65 := Int.tmod_eq_emod_of_nonneg hs0.1
        have ws : IntKind.i64.wrap s0 = s0 := by rw [IntKind.wrap_i64]; omega
        have hs : 0 ≤ s0 % 65 ∧ s0 % 65 ≤ 64 := by omega
        generalize s0 % 65 = s at *
        have ws2 : IntKind.i64.wrap s = s := by rw [IntKind.wrap_i64]; omega
        have RL := hide (show BsI wr A1 (cps l l.length) from OwI.bs O.out)
        have HG := hide (cps_good l l.length)
        have UF := hide (uu_facts HG.out (show (cps l l.length).length ≤ 4 by omega) hs)
        have E0 : lE (cps l l.length) s = 0 := by unfold lE; rw [if_neg (by omega), if_pos ⟨HG.out, hs⟩]
        have ER : lR (cps l l.length) s = lL (cps l l.length) s := if_pos E0
        obtain ⟨L, hL⟩ : ∃ L, L = cps l l.length := ⟨_, rfl⟩
        rw [← hL] at RL HG UF E0 ER hcl
        obtain ⟨n, hn2⟩ : ∃ n, n = l.length := ⟨_, rfl⟩
        rw [← hn2] at hcl hl4 ⊢
        have C1 := hide (fun w' (hb : Below wr.heap.size wr w') => layout_any A1 cap1 L s w' (RL.out.below hb) (by omega))
        unfold LyR at C1
        rw [E0, ER, lL_len] at C1
        rw [hcl] at C1 UF
        replace K := hide (show Below w.heap.size w wr from btrans K1.out (by rw [← HB.out]; exact K.out))
        have HGL := hide (fun k (hk : k < n) => goodF_at HG.out (show k < L.length by rw [hcl]; exact hk))
        have HLL := hide (lL_len L s)
        rw [hcl] at HLL
        have WD := hide (fun k => show wd L s k = if k < n then 1 + L.getD k 0 else s by unfold wd; rw [hcl])
        have LC := hide hcl
        clear hL O E0 ER K1 HG HB hcl hcp SA0 hn2
        obtain ⟨N, hN⟩ : ∃ N, N = uu L s (n + 1) := ⟨_, rfl⟩
        obtain ⟨q, hq⟩ : ∃ q, q = n + 1 := ⟨_, rfl⟩
        obtain ⟨m, hm⟩ : ∃ m, m = n + 2 := ⟨_, rfl⟩
        rw [← hm] at C1 HLL
        have HM0 := hide hm
        clear hm
        go_wp2_with fail
        refine (C1.out _ (brefl _)).mono ?_
        rintro e w2 ⟨A2, c2, rfl, hO, hb⟩
        replace K := hide (btrans K.out hb)
        replace RL := hide (RL.out.below hb)
        have RO := hide (show BsI w2 A2 (lL L s) from OwI.bs hO)
        have hm := HM0.out
        obtain ⟨_, _, ev, hcp2⟩ := row_form hO
        rw [HLL.out] at ev hcp2
        injection ev with e1 _ e2
        subst e1 e2
        clear hO hb C1
        obtain ⟨b2, o2, rfl, hb2, hc2⟩ := RO.out (by intro e; have := HLL.out; rw [e] at this; simp at this; omega)
        have X2 := hide (show ∀ k, k ≤ n + 1 → w2.cell? ⟨b2, o2 + k, none⟩ = some (.int .i64 (uu L s k : Int)) from fun k hk => by
          rw [hc2 k (by rw [HLL.out]; omega), UF.out.1 k hk])
        have xl := X2.out (n + 1) (Nat.le_refl _)
        rw [← hN, ← hq] at xl
        have n132 : N ≤ 132 := by rw [hN]; exact UF.out.2.2.2.1
        have N0 : ¬ (N : Int) < 0 := by omega
        have N2 : ¬ (200 : Int) < (N : Int) := by omega
        have mq : (m : Int) - 1 = (q : Int) := by omega
        have wmq : IntKind.i64.wrap (q : Int) = (q : Int) := by rw [IntKind.wrap_i64]; omega
        have nm : (n : Int) + 2 = (m : Int) := by omega
        have wnm : IntKind.i64.wrap (m : Int) = (m : Int) := by rw [IntKind.wrap_i64]; omega
        have qlt : (q : Int) < (m : Int) := by omega
        have q0 : (0 : Int) ≤ (q : Int) := by omega
        have qc : (q : Int) ≤ (c2 : Int) := by omega
        have tq : ((q : Int)).toNat = q := by simp
        have MK := fun w => makeI w N (by omega)
        have HQ := hide hq
        have HM := hide hm
        have HN := hide hN
        clear hc2 RO hq hm hN
        go_upto_region 14 with fail
        have O := hide (show Ik (w2.alloc (.cells (zi N) 3)) w2.heap.size (ones N (uu L s 0)) by rw [UF.out.2.1, ones_zero]; exact Box.new w2 3 _)
        have BL := hide (bal (brefl w2) (.cells (zi N) 3))
        have KS := hide K.out.size
        obtain ⟨g, hg⟩ : ∃ g, g = w2.heap.size := ⟨_, rfl⟩
        rw [← hg] at O BL KS ⊢
        generalize w2.alloc (.cells (zi N) 3) = w3 at *
        clear xl MK
        have HG2 := hide (show g = w2.heap.size from hg)
        clear hg
        go_wp2
        go_loopw [89] (fun i wr => ∃ k : Nat, k ≤ q ∧ i = .int .i64 k ∧ Hid (Ik wr g (ones N (uu L s k))) ∧ Hid (Below g w2 wr)) (fun i _ => q - (intOf i).toNat)
        case atStart => exact ⟨0, Nat.zero_le _, rfl, O, BL⟩
        case round =>
          clear O BL
          obtain ⟨k, hk, rfl, O, BL⟩ := hrel
          by_cases hlt : k < q
          · have hl2 : (k : Int) < (q : Int) := by omega
            have hk0 : (0 : Int) ≤ (k : Int) := by omega
            have hkm : (k : Int) < (m : Int) := by omega
            have UK1 := (UF.out.2.2.1 k (by have := HQ.out; omega)).1
            have UWD := (UF.out.2.2.1 k (by have := HQ.out; omega)).2
            have UKN : uu L s (k + 1) ≤ N := by rw [HN.out]; exact UF.out.2.2.2.2 (k + 1) (by have := HQ.out; omega)
            have XK := X2.out k (by have := HQ.out; omega)
            have WK := WD.out k
            have NWK := hide (show uu L s (k + 1) = uu L s (k + 1) from rfl)
            obtain ⟨uk, huk⟩ : ∃ u, u = uu L s k := ⟨_, rfl⟩
            obtain ⟨vk, hvk⟩ : ∃ u, u = uu L s (k + 1) := ⟨_, rfl⟩
            obtain ⟨wk, hwk⟩ : ∃ u, u = wd L s k := ⟨_, rfl⟩
            rw [← huk] at O XK UK1
            rw [← hvk] at UKN UK1
            rw [← hwk] at UK1 UWD WK
            have HVK := hide hvk
            have x3 : wr.cell? ⟨b2, o2 + k, none⟩ = some (.int .i64 (uk : Int)) := (BL.out.cell (p := ⟨b2, o2 + k, none⟩) (by rw [HG2.out]; exact hb2)).trans XK
            have wuv : IntKind.i64.wrap (vk : Int) = (vk : Int) := by rw [IntKind.wrap_i64]; omega
            have hsum : (uk : Int) + wk = (vk : Int) := by omega
            have UKK : uk ≤ vk := by omega
            have HXK := hide XK
            clear huk hvk hwk NWK XK UK1 UWD
            by_cases hkn : k < n
            · have hkn2 : (k : Int) < (n : Int) := by omega
              rw [if_pos hkn] at WK
              obtain ⟨b3, o3, rfl, hb3, xx⟩ := RL.out.cells (brefl _) (show k < L.length by rw [LC.out]; exact hkn)
              have gk := HGL.out k hkn
              have xc : wr.cell? ⟨b3, o3 + k, none⟩ = some (.int .i64 (L.getD k 0)) := (BL.out.cell (p := ⟨b3, o3 + k, none⟩) (by rw [HG2.out]; exact hb3)).trans xx
              clear xx
              generalize L.getD k 0 = z at *
              have wz : IntKind.i64.wrap (1 + z) = wk := by rw [IntKind.wrap_i64]; omega
              have HWK := hide WK
              clear WK
              go_upto_region 21 with fail
              clear x3 xc
              go_wp2
              go_loopw [14] (fun b wx => ∃ t : Nat, uk ≤ t ∧ t ≤ vk ∧ b = .int .i64 t ∧ Hid (Ik wx g (ones N t)) ∧ Hid (Below g w2 wx)) (fun b _ => vk - (intOf b).toNat)
              case atStart => exact ⟨uk, Nat.le_refl _, UKK, rfl, O, BL⟩
              case round =>
                clear O BL
                obtain ⟨t, ht1, ht2, rfl, O, BL⟩ := hrel
                have x3 : wr.cell? ⟨b2, o2 + k, none⟩ = some (.int .i64 (uk : Int)) := (BL.out.cell (p := ⟨b2, o2 + k, none⟩) (by rw [HG2.out]; exact hb2)).trans HXK.out
                by_cases htv : t < vk
                · have ht3 : (t : Int) < (vk : Int) := by omega
                  have ht0 : ¬ (t : Int) < 0 := by omega
                  have ht00 : (0 : Int) ≤ (t : Int) := by omega
                  have htN : ¬ (N : Int) ≤ (t : Int) := by omega
                  have htN2 : (t : Int) < (N : Int) := by omega
                  have xt := O.out.cell (i := t) (by rw [ones_len (by omega)]; omega)
                  rw [ones_at (by omega)] at xt
                  have ft := O.out.frozen t
                  have hgl := Box.lt O.out
                  have O2 := hide (O.out.put t 1)
                  rw [ones_next (by omega)] at O2
                  have BL2 := hide (BL.out.setCell (p := ⟨g, t, none⟩) (Nat.le_refl _) (.int .i64 1))
                  clear O BL
                  go_wp2
                  go_roundw
                  case rel => exact ⟨t + 1, by omega, by omega, by go_num, O2, BL2⟩
                  case measure => simp [intOf]; omega
                · obtain rfl : t = vk := by omega
                  rw [HVK.out] at O
                  go_wp2
                  go_roundw
                  case rel => exact ⟨k + 1, by omega, by go_num, O, BL⟩
                  case measure => simp [intOf]; omega
            · have hkn2 : ¬ (k : Int) < (n : Int) := by omega
              rw [if_neg hkn] at WK
              subst WK
              go_upto_region 21 with fail
              clear x3
              go_wp2
              go_loopw [14] (fun b wx => ∃ t : Nat, uk ≤ t ∧ t ≤ vk ∧ b = .int .i64 t ∧ Hid (Ik wx g (ones N t)) ∧ Hid (Below g w2 wx)) (fun b _ => vk - (intOf b).toNat)
              case atStart => exact ⟨uk, Nat.le_refl _, UKK, rfl, O, BL⟩
              case round =>
                clear O BL
                obtain ⟨t, ht1, ht2, rfl, O, BL⟩ := hrel
                have x3 : wr.cell? ⟨b2, o2 + k, none⟩ = some (.int .i64 (uk : Int)) := (BL.out.cell (p := ⟨b2, o2 + k, none⟩) (by rw [HG2.out]; exact hb2)).trans HXK.out
                by_cases htv : t < vk
                · have ht3 : (t : Int) < (vk : Int) := by omega
                  have ht0 : ¬ (t : Int) < 0 := by omega
                  have ht00 : (0 : Int) ≤ (t : Int) := by omega
                  have htN : ¬ (N : Int) ≤ (t : Int) := by omega
                  have htN2 : (t : Int) < (N : Int) := by omega
                  have xt := O.out.cell (i := t) (by rw [ones_len (by omega)]; omega)
                  rw [ones_at (by omega)] at xt
                  have ft := O.out.frozen t
                  have hgl := Box.lt O.out
                  have O2 := hide (O.out.put t 1)
                  rw [ones_next (by omega)] at O2
                  have BL2 := hide (BL.out.setCell (p := ⟨g, t, none⟩) (Nat.le_refl _) (.int .i64 1))
                  clear O BL
                  go_wp2
                  go_roundw
                  case rel => exact ⟨t + 1, by omega, by omega, by go_num, O2, BL2⟩
                  case measure => simp [intOf]; omega
                · obtain rfl : t = vk := by omega
                  rw [HVK.out] at O
                  go_wp2
                  go_roundw
                  case rel => exact ⟨k + 1, by omega, by go_num, O, BL⟩
                  case measure => simp [intOf]; omega
          · obtain rfl : k = q := by omega
            rw [HQ.out, ← HN.out] at O
            have KF := hide (K.out.trans (BL.out.mono KS.out))
            go_wp2
            go_loopw [133] (fun i wx => ∃ t : Nat, t ≤ N ∧ i = .int .i64 t ∧ wx = wr) (fun i _ => N - (intOf i).toNat)
            case atStart => exact ⟨0, Nat.zero_le _, rfl, rfl⟩
            case round =>
              obtain ⟨t, ht, rfl, rfl⟩ := hrel
              by_cases htN : t < N
              · have ht3 : (t : Int) < (N : Int) := by omega
                have ht0 : (0 : Int) ≤ (t : Int) := by omega
                have xt := O.out.cell (i := t) (by rw [ones_len (Nat.le_refl _)]; exact htN)
                rw [ones_full htN] at xt
                go_wp2
                go_roundw
                case rel => exact ⟨t + 1, by omega, by go_num, trivial⟩
                case measure => simp [intOf]; omega
              · obtain rfl : t = N := by omega
                go_wp2
                go_ret
                exact ⟨rfl, KF.out⟩
end Go.Proofs.Ytncdilkcblakhaa.In
