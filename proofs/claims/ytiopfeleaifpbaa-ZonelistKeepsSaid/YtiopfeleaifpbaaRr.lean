import Derived.Test.YtiopfeleaifpbaaOr2
namespace Go.Proofs.Ytiopfeleaifpbaa.Bd
open Go Go.RowKit Go.Sort Go.Lib
set_option linter.unusedVariables false
set_option linter.unusedSimpArgs false
theorem mvl_len (Z : List Zo) (kb : Bool) (a : Int) : (mvl Z kb a).length ≤ Z.length := by
  unfold mvl
  cases kb
  · exact un_len _ _
  · simp
theorem ro_len {Z : List Zo} {l : Is} {kb : Bool} (h6 : Z.length ≤ 6) : ∀ q, (ro Z l kb q).length ≤ q * 12
  | 0 => Nat.le_refl _
  | q + 1 => by
    have ih := ro_len (l := l) (kb := kb) h6 q
    have a := mvl_len Z kb (l.getD q 0)
    have b := un_len (nmh Z (l.getD q 0)) Z.length
    show ((ro Z l kb q ++ mvl Z kb (l.getD q 0)) ++ un (nmh Z (l.getD q 0)) Z.length).length ≤ _
    rw [List.length_append, List.length_append]
    omega
theorem ro_b1 {Z : List Zo} {l : Is} {kb : Bool} {q k : Nat} {h : Int → Bool} (hl : l.length ≤ 8) (h6 : Z.length ≤ 6) (hq : q ≤ l.length) (hk : k ≤ Z.length) : (ro Z l kb q ++ un h k).length ≤ 1000 := by
  have a := ro_len (l := l) (kb := kb) h6 q
  have b := un_len h k
  rw [List.length_append]
  omega
theorem ro_b2 {Z : List Zo} {l : Is} {kb : Bool} {q k : Nat} {h : Int → Bool} {a : Int} (hl : l.length ≤ 8) (h6 : Z.length ≤ 6) (hq : q ≤ l.length) (hk : k ≤ Z.length := by omega) : ((ro Z l kb q ++ mvl Z kb a) ++ un h k).length ≤ 1000 := by
  have a1 := ro_len (l := l) (kb := kb) h6 q
  have b := un_len h k
  have c := mvl_len Z kb a
  rw [List.length_append, List.length_append]
  omega
set_option maxRecDepth 100000 in
set_option maxHeartbeats 8000000 in
theorem rorder_any (AZ : Option Addr) (cp : Nat) (Z : List Zo) (n : Int) (kb : Bool) (w : World) (hr : Zs w AZ Z) (hn : Z.length ≤ 9223372036854775807) : Calls Try.prog 18 #[.slice AZ Z.length cp, .int .i64 n, .bool kb] w fun e w' => (∃ A c, e = .returned (.tuple #[.slice A (oR Z n kb).length c, .int .i64 (nE Z n)]) ∧ OwI w.heap.size w' (.slice A (oR Z n kb).length c) (oR Z n kb)) ∧ Below w.heap.size w w' := by
  have ND := hide (rnodes_any AZ cp Z n w hr hn)
  have HR := hide hr
  clear hr
  go_enter Try.func18, Try.ntmps18
  go_wp2_with fail
  refine ND.out.mono ?_
  rintro e w1 ⟨⟨A, c, rfl, hO⟩, hb⟩
  have OL := hide hO
  have K1 := hide hb
  clear hO hb ND
  by_cases hne : nE Z n = 0
  · have hCN : chE Z = 0 ∧ (0 ≤ n ∧ n < 4) := by
      by_cases hc : chE Z = 0
      · by_cases h4 : 0 ≤ n ∧ n < 4
        · exact ⟨hc, h4⟩
        · rw [(nE_two hc h4).1] at hne; omega
      · rw [(nE_bad hc).1] at hne; exact absurd hne hc
    have h6 := (chE_ok hCN.1).1
    have hl8 := nR_len hCN.1 hCN.2
    have E1 := hide hne
    rw [hne]
    clear hCN hne
    obtain ⟨i0, hi0, hz0, hz1, hz2⟩ := info_parts info3
    have HL := hide (OwI.bi OL.out)
    have HR2 := hide (show Zs w1 AZ Z from HR.out.below K1.out)
    obtain ⟨l, hl⟩ : ∃ l, l = nR Z n := ⟨_, rfl⟩
    have HL0 := hide hl
    rw [← hl] at HL hl8
    rw [← hl]
    clear hl OL
    obtain ⟨B, hB⟩ : ∃ B, B = w1.heap.size := ⟨_, rfl⟩
    have HB := hide hB
    clear hB
    go_upto_region 4 with fail
    cases kb
    · go_wp2
      go_loopw [10, 11] (fun a b wr => ∃ q : Nat, q ≤ l.length ∧ b = .int .i64 q ∧ Hid (OwI B wr a (ro Z l false q)) ∧ Hid (Below B w1 wr)) (fun _ b _ => l.length - (intOf b).toNat)
      case atStart => exact ⟨0, by omega, rfl, hide (ow_nil _ _), hide (Below.refl _ _)⟩
      case round =>
        obtain ⟨q, hq, rfl, O, K⟩ := hrel
        obtain ⟨A1, cap1, ev, hcp⟩ := row_form O.out
        subst ev
        by_cases hqlt : q < l.length
        · have hq2 : (q : Int) < (l.length : Int) := by omega
          have hq0 : (0 : Int) ≤ (q : Int) := by omega
          go_upto_region 9 with fail
          clear hcp
          obtain ⟨zq, ha⟩ : ∃ zq, zq = l.getD q 0 := ⟨_, rfl⟩
          have HA := hide ha
          clear ha
          go_loopw [10, 12] (fun a b wr => ∃ k : Nat, k ≤ Z.length ∧ b = .int .i64 k ∧ Hid (OwI B wr a (ro Z l false q ++ un (mvh Z zq) k)) ∧ Hid (Below B w1 wr)) (fun _ b _ => Z.length - (intOf b).toNat)
          case atStart => exact ⟨0, by omega, rfl, hide (by rw [show un (mvh Z zq) 0 = [] from rfl, List.append_nil]; exact O.out), K⟩
          case round =>
            clear O K
            obtain ⟨k, hk, rfl, O, K⟩ := hrel
            obtain ⟨A1, cap1, ev, hcp⟩ := row_form O.out
            subst ev
            by_cases hlt : k < Z.length
            · have hlt2 : (k : Int) < (Z.length : Int) := by omega
              have hk0' : (0 : Int) ≤ (k : Int) := by omega
              obtain ⟨b, off, rfl, hbl, hcs⟩ := HR2.out.cells (K.out.mono (by rw [HB.out]; exact Nat.le_refl _)) hlt
              obtain ⟨bl, ol, rfl, hbl2, xq⟩ := HL.out.cells (K.out.mono (by rw [HB.out]; exact Nat.le_refl _)) hqlt
              have y0 : wr.cell? ⟨b, off + k * 10, none⟩ = some (.int .i64 (nd Z k)) := hcs 0 (by omega)
              have y1 : wr.cell? ⟨b, off + k * 10 + 1, none⟩ = some (.int .i64 (kd Z k)) := hcs 1 (by omega)
              rw [← HA.out] at xq
              clear hcs hbl hbl2
              by_cases h1 : nd Z k = zq
              · by_cases h2 : kd Z k = 1
                · have EH := hide (show ro Z l false q ++ un (mvh Z zq) (k + 1) = (ro Z l false q ++ un (mvh Z zq) k) ++ [(k : Int)] by rw [un_1 (h := mvh Z zq) (k := k) (by unfold mvh; rw [Int.toNat_natCast, h1, h2]; simp)]; simp only [List.append_assoc])
                  rw [h1] at y0
                  rw [h2] at y1
                  clear h1 h2
                  go_wp2
                  go_quiet (fail)
                  generalize hwy : World.drewN wr _ = wy
                  have hbq : Below wr.heap.size wr wy := by rw [← hwy]; exact below_drewN (brefl _) _
                  replace O := hide (row_below O.out hbq)
                  replace K := hide (K.out.trans (hbq.mono (by rw [HB.out]; exact K.out.size)))
                  clear hwy hbq
                  clear y0 y1 xq
                  generalize wy = wr at *
                  have M := bal (brefl wr) (.cells #[.int .i64 (k : Int)] 3)
                  have OA := hide (row_below O.out M)
                  have NB := hide (cell_one_new wr (.int .i64 (k : Int)) 3)
                  have SA := hide (show B ≤ (wr.alloc (.cells #[.int .i64 (k : Int)] 3)).heap.size by rw [alloc_size']; have := K.out.size; rw [HB.out]; omega)
                  have KA := hide (K.out.trans (M.mono (by rw [HB.out]; exact K.out.size)))
                  clear M O K
                  obtain ⟨l1, hl1⟩ : ∃ l1, l1 = ro Z l false q ++ un (mvh Z zq) k := ⟨_, rfl⟩
                  obtain ⟨m, hm⟩ : ∃ m, m = l1.length := ⟨_, rfl⟩
                  have hfl : m ≤ 1000 := by rw [hm, hl1]; exact ro_b1 hl8 h6 (by omega) (by omega)
                  rw [← hl1, ← hm] at OA
                  rw [← hl1] at EH
                  rw [← hl1, ← hm]
                  have HLM := hide hm
                  clear hl1 hm hcp
                  go_upto_region 10 with (at_builtin; refine wpList_append_own_at _ rfl (.tmp 57) (.tmp 59) 27 rfl B 3 i0 _ 1 8 Try.underlying27 hi0 hz0 hz1 hz2 rfl (by omega) (.slice A1 m cap1) m (l1.map ic) rfl OA.out ⟨wr.heap.size, 0, none⟩ 1 1 [.int .i64 (k : Int)] rfl rfl NB.out (by intro u hu; rw [List.mem_singleton.1 hu]; rfl) (by simp only [maxLen]; omega) (by omega) SA.out ?_; intro v4 w4 hown4 hg4 _ hat4; obtain ⟨A4, cp4, ev4, _⟩ := row_form hown4; subst ev4)
                  have e3 : (ro Z l false q ++ un (mvh Z zq) (k + 1)).length = m + 1 := by rw [EH.out, List.length_append, ← HLM.out]; rfl
                  have O := hide (show OwI B w4 (.slice A4 (m + 1) cp4) (ro Z l false q ++ un (mvh Z zq) (k + 1)) by
                    unfold OwI
                    rw [e3, EH.out, List.map_append]
                    exact hown4)
                  have B4 := below_grown OA.out hg4 SA.out
                  have K := hide (KA.out.trans B4)
                  rw [← e3] at O ⊢
                  clear B4 hown4 hg4 hat4 OA NB SA KA e3
                  go_wp2
                  go_roundw
                  case rel => exact ⟨k + 1, by omega, by go_num, O, K⟩
                  case measure => simp [intOf]; omega
                · have EH := (show ro Z l false q ++ un (mvh Z zq) (k + 1) = ro Z l false q ++ un (mvh Z zq) k by rw [un_0 (h := mvh Z zq) (k := k) (by unfold mvh; rw [Int.toNat_natCast]; simp [h2])])
                  have d2 : (kd Z k == 1) = false := by simpa using h2
                  rw [h1] at y0
                  clear h1 h2
                  generalize kd Z k = kz at *
                  rw [← EH] at O ⊢
                  clear EH
                  go_wp2
                  go_quiet (fail)
                  generalize hwy : World.drewN wr _ = wy
                  have hbq : Below wr.heap.size wr wy := by rw [← hwy]; exact below_drewN (brefl _) _
                  replace O := hide (row_below O.out hbq)
                  replace K := hide (K.out.trans (hbq.mono (by rw [HB.out]; exact K.out.size)))
                  clear hwy hbq
                  go_wp2
                  go_roundw
                  case rel => exact ⟨k + 1, by omega, by go_num, O, K⟩
                  case measure => simp [intOf]; omega
              · have EH := (show ro Z l false q ++ un (mvh Z zq) (k + 1) = ro Z l false q ++ un (mvh Z zq) k by rw [un_0 (h := mvh Z zq) (k := k) (by unfold mvh; rw [Int.toNat_natCast]; simp [h1])])
                have d1 : (nd Z k == zq) = false := by simpa using h1
                clear h1
                generalize nd Z k = nz at *
                rw [← EH] at O ⊢
                clear EH
                go_wp2
                go_quiet (fail)
                generalize hwy : World.drewN wr _ = wy
                have hbq : Below wr.heap.size wr wy := by rw [← hwy]; exact below_drewN (brefl _) _
                replace O := hide (row_below O.out hbq)
                replace K := hide (K.out.trans (hbq.mono (by rw [HB.out]; exact K.out.size)))
                clear hwy hbq
                go_wp2
                go_roundw
                case rel => exact ⟨k + 1, by omega, by go_num, O, K⟩
                case measure => simp [intOf]; omega
            · obtain rfl : k = Z.length := by omega
              clear hlt
              have O := hide (show OwI B wr (.slice A1 (ro Z l false q ++ mvl Z false zq).length cap1) (ro Z l false q ++ mvl Z false zq) from O.out)
              go_upto_region 14 with fail
              go_loopw [10, 13] (fun a b wr => ∃ k : Nat, k ≤ Z.length ∧ b = .int .i64 k ∧ Hid (OwI B wr a ((ro Z l false q ++ mvl Z false zq) ++ un (nmh Z zq) k)) ∧ Hid (Below B w1 wr)) (fun _ b _ => Z.length - (intOf b).toNat)
              case atStart => exact ⟨0, by omega, rfl, hide (by rw [show un (nmh Z zq) 0 = [] from rfl, List.append_nil]; exact O.out), K⟩
              case round =>
                clear O K
                obtain ⟨k, hk, rfl, O, K⟩ := hrel
                obtain ⟨A1, cap1, ev, hcp⟩ := row_form O.out
                subst ev
                by_cases hlt : k < Z.length
                · have hlt2 : (k : Int) < (Z.length : Int) := by omega
                  have hk0' : (0 : Int) ≤ (k : Int) := by omega
                  obtain ⟨b, off, rfl, hbl, hcs⟩ := HR2.out.cells (K.out.mono (by rw [HB.out]; exact Nat.le_refl _)) hlt
                  obtain ⟨bl, ol, rfl, hbl2, xq⟩ := HL.out.cells (K.out.mono (by rw [HB.out]; exact Nat.le_refl _)) hqlt
                  have y0 : wr.cell? ⟨b, off + k * 10, none⟩ = some (.int .i64 (nd Z k)) := hcs 0 (by omega)
                  have y1 : wr.cell? ⟨b, off + k * 10 + 1, none⟩ = some (.int .i64 (kd Z k)) := hcs 1 (by omega)
                  rw [← HA.out] at xq
                  clear hcs hbl hbl2
                  by_cases h1 : nd Z k = zq
                  · by_cases h2 : kd Z k = 0
                    · have EH := hide (show (ro Z l false q ++ mvl Z false zq) ++ un (nmh Z zq) (k + 1) = ((ro Z l false q ++ mvl Z false zq) ++ un (nmh Z zq) k) ++ [(k : Int)] by rw [un_1 (h := nmh Z zq) (k := k) (by unfold nmh; rw [Int.toNat_natCast, h1, h2]; simp)]; simp only [List.append_assoc])
                      rw [h1] at y0
                      rw [h2] at y1
                      clear h1 h2
                      go_wp2
                      go_quiet (fail)
                      generalize hwy : World.drewN wr _ = wy
                      have hbq : Below wr.heap.size wr wy := by rw [← hwy]; exact below_drewN (brefl _) _
                      replace O := hide (row_below O.out hbq)
                      replace K := hide (K.out.trans (hbq.mono (by rw [HB.out]; exact K.out.size)))
                      clear hwy hbq
                      clear y0 y1 xq
                      generalize wy = wr at *
                      have M := bal (brefl wr) (.cells #[.int .i64 (k : Int)] 3)
                      have OA := hide (row_below O.out M)
                      have NB := hide (cell_one_new wr (.int .i64 (k : Int)) 3)
                      have SA := hide (show B ≤ (wr.alloc (.cells #[.int .i64 (k : Int)] 3)).heap.size by rw [alloc_size']; have := K.out.size; rw [HB.out]; omega)
                      have KA := hide (K.out.trans (M.mono (by rw [HB.out]; exact K.out.size)))
                      clear M O K
                      obtain ⟨l1, hl1⟩ : ∃ l1, l1 = (ro Z l false q ++ mvl Z false zq) ++ un (nmh Z zq) k := ⟨_, rfl⟩
                      obtain ⟨m, hm⟩ : ∃ m, m = l1.length := ⟨_, rfl⟩
                      have hfl : m ≤ 1000 := by rw [hm, hl1]; exact ro_b2 hl8 h6 (by omega)
                      rw [← hl1, ← hm] at OA
                      rw [← hl1] at EH
                      rw [← hl1, ← hm]
                      have HLM := hide hm
                      clear hl1 hm hcp
                      go_upto_region 15 with (at_builtin; refine wpList_append_own_at _ rfl (.tmp 85) (.tmp 87) 27 rfl B 3 i0 _ 1 8 Try.underlying27 hi0 hz0 hz1 hz2 rfl (by omega) (.slice A1 m cap1) m (l1.map ic) rfl OA.out ⟨wr.heap.size, 0, none⟩ 1 1 [.int .i64 (k : Int)] rfl rfl NB.out (by intro u hu; rw [List.mem_singleton.1 hu]; rfl) (by simp only [maxLen]; omega) (by omega) SA.out ?_; intro v4 w4 hown4 hg4 _ hat4; obtain ⟨A4, cp4, ev4, _⟩ := row_form hown4; subst ev4)
                      have e3 : ((ro Z l false q ++ mvl Z false zq) ++ un (nmh Z zq) (k + 1)).length = m + 1 := by rw [EH.out, List.length_append, ← HLM.out]; rfl
                      have O := hide (show OwI B w4 (.slice A4 (m + 1) cp4) ((ro Z l false q ++ mvl Z false zq) ++ un (nmh Z zq) (k + 1)) by
                        unfold OwI
                        rw [e3, EH.out, List.map_append]
                        exact hown4)
                      have B4 := below_grown OA.out hg4 SA.out
                      have K := hide (KA.out.trans B4)
                      rw [← e3] at O ⊢
                      clear B4 hown4 hg4 hat4 OA NB SA KA e3
                      go_wp2
                      go_roundw
                      case rel => exact ⟨k + 1, by omega, by go_num, O, K⟩
                      case measure => simp [intOf]; omega
                    · have EH := (show (ro Z l false q ++ mvl Z false zq) ++ un (nmh Z zq) (k + 1) = (ro Z l false q ++ mvl Z false zq) ++ un (nmh Z zq) k by rw [un_0 (h := nmh Z zq) (k := k) (by unfold nmh; rw [Int.toNat_natCast]; simp [h2])])
                      have d2 : (kd Z k == 0) = false := by simpa using h2
                      rw [h1] at y0
                      clear h1 h2
                      generalize kd Z k = kz at *
                      rw [← EH] at O ⊢
                      clear EH
                      go_wp2
                      go_quiet (fail)
                      generalize hwy : World.drewN wr _ = wy
                      have hbq : Below wr.heap.size wr wy := by rw [← hwy]; exact below_drewN (brefl _) _
                      replace O := hide (row_below O.out hbq)
                      replace K := hide (K.out.trans (hbq.mono (by rw [HB.out]; exact K.out.size)))
                      clear hwy hbq
                      go_wp2
                      go_roundw
                      case rel => exact ⟨k + 1, by omega, by go_num, O, K⟩
                      case measure => simp [intOf]; omega
                  · have EH := (show (ro Z l false q ++ mvl Z false zq) ++ un (nmh Z zq) (k + 1) = (ro Z l false q ++ mvl Z false zq) ++ un (nmh Z zq) k by rw [un_0 (h := nmh Z zq) (k := k) (by unfold nmh; rw [Int.toNat_natCast]; simp [h1])])
                    have d1 : (nd Z k == zq) = false := by simpa using h1
                    clear h1
                    generalize nd Z k = nz at *
                    rw [← EH] at O ⊢
                    clear EH
                    go_wp2
                    go_quiet (fail)
                    generalize hwy : World.drewN wr _ = wy
                    have hbq : Below wr.heap.size wr wy := by rw [← hwy]; exact below_drewN (brefl _) _
                    replace O := hide (row_below O.out hbq)
                    replace K := hide (K.out.trans (hbq.mono (by rw [HB.out]; exact K.out.size)))
                    clear hwy hbq
                    go_wp2
                    go_roundw
                    case rel => exact ⟨k + 1, by omega, by go_num, O, K⟩
                    case measure => simp [intOf]; omega
                · obtain rfl : k = Z.length := by omega
                  clear hlt
                  have hro : (ro Z l false q ++ mvl Z false zq) ++ un (nmh Z zq) Z.length = ro Z l false (q + 1) := by rw [HA.out]; rfl
                  rw [hro] at O ⊢
                  clear hro
                  go_wp2
                  go_roundw
                  case rel => exact ⟨q + 1, by omega, by go_num, O, K⟩
                  case measure => simp [intOf]; omega
        · obtain rfl : q = l.length := by omega
          have EO := (show ro Z l false l.length = oR Z n false by unfold oR; rw [← HL0.out])
          rw [EO] at O ⊢
          go_wp2
          refine ret_si Try.results18 rfl rfl rfl ⟨⟨_, _, ?_, row_mono O.out (by rw [HB.out]; exact K1.out.size)⟩, K1.out.trans (K.out.mono (by rw [HB.out]; exact K1.out.size))⟩
          rw [E1.out]
    · go_wp2
      go_loopw [10, 11] (fun a b wr => ∃ q : Nat, q ≤ l.length ∧ b = .int .i64 q ∧ Hid (OwI B wr a (ro Z l true q)) ∧ Hid (Below B w1 wr)) (fun _ b _ => l.length - (intOf b).toNat)
      case atStart => exact ⟨0, by omega, rfl, hide (ow_nil _ _), hide (Below.refl _ _)⟩
      case round =>
        obtain ⟨q, hq, rfl, O, K⟩ := hrel
        obtain ⟨A1, cap1, ev, hcp⟩ := row_form O.out
        subst ev
        by_cases hqlt : q < l.length
        · have hq2 : (q : Int) < (l.length : Int) := by omega
          have hq0 : (0 : Int) ≤ (q : Int) := by omega
          go_upto_region 9 with fail
          clear hcp
          obtain ⟨zq, ha⟩ : ∃ zq, zq = l.getD q 0 := ⟨_, rfl⟩
          have HA := hide ha
          clear ha
          go_loopw [10, 12] (fun a b wr => b = .int .i64 0 ∧ Hid (OwI B wr a (ro Z l true q)) ∧ Hid (Below B w1 wr)) (fun _ b _ => 0)
          case atStart => exact ⟨rfl, O, K⟩
          case round =>
            clear O K
            obtain ⟨rfl, O, K⟩ := hrel
            obtain ⟨A1, cap1, ev, hcp⟩ := row_form O.out
            subst ev
            clear hcp
            rcases Nat.eq_zero_or_pos Z.length with hZ0 | hZ0
            · have hzN : ¬ (0 : Int) < (Z.length : Int) := by omega
              have HZ0 := hide hZ0
              clear hZ0
              go_upto_region 14 with fail
              go_loopw [10, 13] (fun a b wr => ∃ k : Nat, k ≤ Z.length ∧ b = .int .i64 k ∧ Hid (OwI B wr a ((ro Z l true q ++ mvl Z true zq) ++ un (nmh Z zq) k)) ∧ Hid (Below B w1 wr)) (fun _ b _ => Z.length - (intOf b).toNat)
              case atStart => exact ⟨0, by omega, rfl, hide (by rw [show un (nmh Z zq) 0 = [] from rfl, List.append_nil, show ro Z l true q ++ mvl Z true zq = ro Z l true q from List.append_nil _]; exact O.out), K⟩
              case round =>
                clear O K
                obtain ⟨k, hk, rfl, O, K⟩ := hrel
                obtain ⟨A1, cap1, ev, hcp⟩ := row_form O.out
                subst ev
                by_cases hlt : k < Z.length
                · exact absurd hlt (by have := HZ0.out; omega)
                · obtain rfl : k = Z.length := by omega
                  clear hlt
                  have hro : (ro Z l true q ++ mvl Z true zq) ++ un (nmh Z zq) Z.length = ro Z l true (q + 1) := by rw [HA.out]; rfl
                  rw [hro] at O ⊢
                  clear hro
                  go_wp2
                  go_roundw
                  case rel => exact ⟨q + 1, by omega, by go_num, O, K⟩
                  case measure => simp [intOf]; omega
            · have hzN : (0 : Int) < (Z.length : Int) := by omega
              clear hZ0
              go_upto_region 14 with fail
              go_loopw [10, 13] (fun a b wr => ∃ k : Nat, k ≤ Z.length ∧ b = .int .i64 k ∧ Hid (OwI B wr a ((ro Z l true q ++ mvl Z true zq) ++ un (nmh Z zq) k)) ∧ Hid (Below B w1 wr)) (fun _ b _ => Z.length - (intOf b).toNat)
              case atStart => exact ⟨0, by omega, rfl, hide (by rw [show un (nmh Z zq) 0 = [] from rfl, List.append_nil, show ro Z l true q ++ mvl Z true zq = ro Z l true q from List.append_nil _]; exact O.out), K⟩
              case round =>
                clear O K
                obtain ⟨k, hk, rfl, O, K⟩ := hrel
                obtain ⟨A1, cap1, ev, hcp⟩ := row_form O.out
                subst ev
                by_cases hlt : k < Z.length
                · have hlt2 : (k : Int) < (Z.length : Int) := by omega
                  have hk0' : (0 : Int) ≤ (k : Int) := by omega
                  obtain ⟨b, off, rfl, hbl, hcs⟩ := HR2.out.cells (K.out.mono (by rw [HB.out]; exact Nat.le_refl _)) hlt
                  obtain ⟨bl, ol, rfl, hbl2, xq⟩ := HL.out.cells (K.out.mono (by rw [HB.out]; exact Nat.le_refl _)) hqlt
                  have y0 : wr.cell? ⟨b, off + k * 10, none⟩ = some (.int .i64 (nd Z k)) := hcs 0 (by omega)
                  have y1 : wr.cell? ⟨b, off + k * 10 + 1, none⟩ = some (.int .i64 (kd Z k)) := hcs 1 (by omega)
                  rw [← HA.out] at xq
                  clear hcs hbl hbl2
                  by_cases h1 : nd Z k = zq
                  · by_cases h2 : kd Z k = 0
                    · have EH := hide (show (ro Z l true q ++ mvl Z true zq) ++ un (nmh Z zq) (k + 1) = ((ro Z l true q ++ mvl Z true zq) ++ un (nmh Z zq) k) ++ [(k : Int)] by rw [un_1 (h := nmh Z zq) (k := k) (by unfold nmh; rw [Int.toNat_natCast, h1, h2]; simp)]; simp only [List.append_assoc])
                      rw [h1] at y0
                      rw [h2] at y1
                      clear h1 h2
                      go_wp2
                      go_quiet (fail)
                      generalize hwy : World.drewN wr _ = wy
                      have hbq : Below wr.heap.size wr wy := by rw [← hwy]; exact below_drewN (brefl _) _
                      replace O := hide (row_below O.out hbq)
                      replace K := hide (K.out.trans (hbq.mono (by rw [HB.out]; exact K.out.size)))
                      clear hwy hbq
                      clear y0 y1 xq
                      generalize wy = wr at *
                      have M := bal (brefl wr) (.cells #[.int .i64 (k : Int)] 3)
                      have OA := hide (row_below O.out M)
                      have NB := hide (cell_one_new wr (.int .i64 (k : Int)) 3)
                      have SA := hide (show B ≤ (wr.alloc (.cells #[.int .i64 (k : Int)] 3)).heap.size by rw [alloc_size']; have := K.out.size; rw [HB.out]; omega)
                      have KA := hide (K.out.trans (M.mono (by rw [HB.out]; exact K.out.size)))
                      clear M O K
                      obtain ⟨l1, hl1⟩ : ∃ l1, l1 = (ro Z l true q ++ mvl Z true zq) ++ un (nmh Z zq) k := ⟨_, rfl⟩
                      obtain ⟨m, hm⟩ : ∃ m, m = l1.length := ⟨_, rfl⟩
                      have hfl : m ≤ 1000 := by rw [hm, hl1]; exact ro_b2 hl8 h6 (by omega)
                      rw [← hl1, ← hm] at OA
                      rw [← hl1] at EH
                      rw [← hl1, ← hm]
                      have HLM := hide hm
                      clear hl1 hm hcp
                      go_upto_region 15 with (at_builtin; refine wpList_append_own_at _ rfl (.tmp 85) (.tmp 87) 27 rfl B 3 i0 _ 1 8 Try.underlying27 hi0 hz0 hz1 hz2 rfl (by omega) (.slice A1 m cap1) m (l1.map ic) rfl OA.out ⟨wr.heap.size, 0, none⟩ 1 1 [.int .i64 (k : Int)] rfl rfl NB.out (by intro u hu; rw [List.mem_singleton.1 hu]; rfl) (by simp only [maxLen]; omega) (by omega) SA.out ?_; intro v4 w4 hown4 hg4 _ hat4; obtain ⟨A4, cp4, ev4, _⟩ := row_form hown4; subst ev4)
                      have e3 : ((ro Z l true q ++ mvl Z true zq) ++ un (nmh Z zq) (k + 1)).length = m + 1 := by rw [EH.out, List.length_append, ← HLM.out]; rfl
                      have O := hide (show OwI B w4 (.slice A4 (m + 1) cp4) ((ro Z l true q ++ mvl Z true zq) ++ un (nmh Z zq) (k + 1)) by
                        unfold OwI
                        rw [e3, EH.out, List.map_append]
                        exact hown4)
                      have B4 := below_grown OA.out hg4 SA.out
                      have K := hide (KA.out.trans B4)
                      rw [← e3] at O ⊢
                      clear B4 hown4 hg4 hat4 OA NB SA KA e3
                      go_wp2
                      go_roundw
                      case rel => exact ⟨k + 1, by omega, by go_num, O, K⟩
                      case measure => simp [intOf]; omega
                    · have EH := (show (ro Z l true q ++ mvl Z true zq) ++ un (nmh Z zq) (k + 1) = (ro Z l true q ++ mvl Z true zq) ++ un (nmh Z zq) k by rw [un_0 (h := nmh Z zq) (k := k) (by unfold nmh; rw [Int.toNat_natCast]; simp [h2])])
                      have d2 : (kd Z k == 0) = false := by simpa using h2
                      rw [h1] at y0
                      clear h1 h2
                      generalize kd Z k = kz at *
                      rw [← EH] at O ⊢
                      clear EH
                      go_wp2
                      go_quiet (fail)
                      generalize hwy : World.drewN wr _ = wy
                      have hbq : Below wr.heap.size wr wy := by rw [← hwy]; exact below_drewN (brefl _) _
                      replace O := hide (row_below O.out hbq)
                      replace K := hide (K.out.trans (hbq.mono (by rw [HB.out]; exact K.out.size)))
                      clear hwy hbq
                      go_wp2
                      go_roundw
                      case rel => exact ⟨k + 1, by omega, by go_num, O, K⟩
                      case measure => simp [intOf]; omega
                  · have EH := (show (ro Z l true q ++ mvl Z true zq) ++ un (nmh Z zq) (k + 1) = (ro Z l true q ++ mvl Z true zq) ++ un (nmh Z zq) k by rw [un_0 (h := nmh Z zq) (k := k) (by unfold nmh; rw [Int.toNat_natCast]; simp [h1])])
                    have d1 : (nd Z k == zq) = false := by simpa using h1
                    clear h1
                    generalize nd Z k = nz at *
                    rw [← EH] at O ⊢
                    clear EH
                    go_wp2
                    go_quiet (fail)
                    generalize hwy : World.drewN wr _ = wy
                    have hbq : Below wr.heap.size wr wy := by rw [← hwy]; exact below_drewN (brefl _) _
                    replace O := hide (row_below O.out hbq)
                    replace K := hide (K.out.trans (hbq.mono (by rw [HB.out]; exact K.out.size)))
                    clear hwy hbq
                    go_wp2
                    go_roundw
                    case rel => exact ⟨k + 1, by omega, by go_num, O, K⟩
                    case measure => simp [intOf]; omega
                · obtain rfl : k = Z.length := by omega
                  clear hlt
                  have hro : (ro Z l true q ++ mvl Z true zq) ++ un (nmh Z zq) Z.length = ro Z l true (q + 1) := by rw [HA.out]; rfl
                  rw [hro] at O ⊢
                  clear hro
                  go_wp2
                  go_roundw
                  case rel => exact ⟨q + 1, by omega, by go_num, O, K⟩
                  case measure => simp [intOf]; omega
        · obtain rfl : q = l.length := by omega
          have EO := (show ro Z l true l.length = oR Z n true by unfold oR; rw [← HL0.out])
          rw [EO] at O ⊢
          go_wp2
          refine ret_si Try.results18 rfl rfl rfl ⟨⟨_, _, ?_, row_mono O.out (by rw [HB.out]; exact K1.out.size)⟩, K1.out.trans (K.out.mono (by rw [HB.out]; exact K1.out.size))⟩
          rw [E1.out]
  · have hnR : nR Z n = [] := if_neg hne
    have EO := hide (oR_bad (kb := kb) hnR)
    have dn : (nE Z n != 0) = true := by simpa using hne
    rw [hnR]
    clear hne
    go_wp2
    refine ret_si Try.results18 rfl rfl rfl ⟨⟨none, 0, ?_, by rw [EO.out]; exact ow_nil _ _⟩, K1.out⟩
    rw [EO.out]; rfl
end Go.Proofs.Ytiopfeleaifpbaa.Bd
