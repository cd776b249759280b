import Derived.Test.YtiopfeleaifpbaaVa
namespace Go.Proofs.Ytiopfeleaifpbaa.Bd
open Go Go.RowKit Go.Sort Go.Lib
set_option linter.unusedVariables false
set_option linter.unusedSimpArgs false
theorem tk_at {q : Int → Bool} {l : Is} {i : Nat} {j : Int} (h : i < l.length) (hj : l.getD i 0 = j) (hq : q j = true) : (tk q l i).length < (l.filter q).length ∧ (l.filter q).getD (tk q l i).length 0 = j := by
  have e : l.filter q = tk q l i ++ (j :: (l.drop (i + 1)).filter q) := by
    conv => lhs; rw [← List.take_append_drop (i + 1) l, List.filter_append]
    rw [show (l.take (i + 1)).filter q = tk q l i ++ [j] from tk_1 h hj hq]
    simp
  rw [e]
  constructor
  · simp
  · rw [List.getD_eq_getElem?_getD, List.getElem?_append_right (Nat.le_refl _)]; simp
theorem pR_2 {Z : List Zo} {m n : Int} {kb : Bool} (h : chE Z = 0) (hn : 0 ≤ n ∧ n < 4) (hm : 1 ≤ m ∧ m < 16) : pkE Z ⟨2, m, 0⟩ n = 0 ∧ pR Z ⟨2, m, 0⟩ n kb = (oR Z n kb).filter (fun i => bt m (nd Z i.toNat)) := by
  have e : poE ⟨2, m, 0⟩ = 0 := if_pos ⟨by show (0 : Int) ≤ 2; decide, by show (2 : Int) ≤ 3; decide, fun _ => hm, fun h => absurd (show (2 : Int) = 3 from h) (by decide)⟩
  have e2 : pkE Z ⟨2, m, 0⟩ n = 0 := by unfold pkE; rw [if_pos h, if_pos e, if_pos hn]
  refine ⟨e2, ?_⟩
  unfold pR
  rw [if_pos e2, if_pos rfl]
  rfl
set_option maxRecDepth 100000 in
set_option maxHeartbeats 16000000 in
theorem law_binds (AZ : Option Addr) (cp : Nat) (Z : List Zo) (m n : Int) (kb : Bool) (W : World) (hr : Zs W AZ Z) (hz : ZIs W Z) (hn : Z.length ≤ 9223372036854775807) : Calls Try.prog 8 #[.slice AZ Z.length cp, .int .i64 m, .agg #[.int .i64 n, .bool kb]] W fun e w' => e = .returned (.bool true) ∧ Below W.heap.size W w' := by
  have AWK := hide (fun w => awake_any w)
  have HR := hide (fun w (h : Below W.heap.size W w) => hr.below h)
  have HZ := hide (fun w (h : Below W.heap.size W w) => hz.below h)
  have X5 := hide (Box.new W 36 #[.int .i64 n, .bool kb])
  have K := hide (bal (brefl W) (.cells #[.int .i64 n, .bool kb] 36))
  obtain ⟨W0, hW0⟩ : ∃ W0, W0 = (W.alloc (.cells #[.int .i64 n, .bool kb] 36)) := ⟨_, rfl⟩
  rw [← hW0] at X5 K
  obtain ⟨g5, hg5⟩ : ∃ g5, g5 = W.heap.size := ⟨_, rfl⟩
  rw [← hg5] at X5
  have x5 := X5.out.cell 0
  have x6 := X5.out.cell 1
  simp at x5 x6
  have VA := hide (valid_any AZ cp Z n W0 (HR.out _ K.out) hn)
  clear hr hz
  by_cases hv : chE Z = 0 ∧ 0 ≤ n ∧ n < 4
  · rw [show vl Z n = true from decide_eq_true hv] at VA
    by_cases m1 : m < 1
    · clear hv
      go_enter Try.func8, Try.ntmps8
      go_upto_region 1 with fail
      rw [← hg5, ← hW0]
      clear hg5 hW0
      go_wp2_with (go_at_call 22; refine VA.out.mono ?_; rintro e w' ⟨rfl, rfl⟩)
      refine (AWK.out _).mono ?_
      rintro e w1 ⟨rfl, hb⟩
      have K1 := hide (K.out.trans (hb.mono K.out.size))
      go_wp2
      go_ret
      exact ⟨rfl, K1.out⟩
    · by_cases m2 : 16 ≤ m
      · clear hv
        go_enter Try.func8, Try.ntmps8
        go_upto_region 1 with fail
        rw [← hg5, ← hW0]
        clear hg5 hW0
        go_wp2_with (go_at_call 22; refine VA.out.mono ?_; rintro e w' ⟨rfl, rfl⟩)
        refine (AWK.out _).mono ?_
        rintro e w1 ⟨rfl, hb⟩
        have K1 := hide (K.out.trans (hb.mono K.out.size))
        go_wp2
        go_ret
        exact ⟨rfl, K1.out⟩
      · have hm : 1 ≤ m ∧ m < 16 := by omega
        have PP := hide (pR_2 (kb := kb) hv.1 hv.2 hm)
        have NE := hide (nE_ok hv.1 hv.2).1
        have HM := hide (oR_mem (kb := kb) hv.1 hv.2)
        have HL96 := hide (oR_len (kb := kb) hv.1 hv.2)
        have HN4 := hide (fun j hj => ((chE_ok hv.1).2 j hj).1)
        clear hv
        go_enter Try.func8, Try.ntmps8
        go_upto_region 1 with fail
        rw [← hg5, ← hW0]
        clear hg5 hW0
        go_wp2_with (go_at_call 22; refine VA.out.mono ?_; rintro e w' ⟨rfl, rfl⟩)
        refine (pick_any AZ cp Z ⟨2, m, 0⟩ n kb _ (HR.out _ K.out) (HZ.out _ K.out) hn).mono ?_
        rintro e w1 ⟨⟨A1, c1, rfl, hO⟩, hb⟩
        have HP := hide (OwI.bi hO)
        replace K := hide (K.out.trans (hb.mono K.out.size))
        replace X5 := hide (X5.out.below hb)
        clear hO hb x5 x6 VA
        have x5 := X5.out.cell 0
        have x6 := X5.out.cell 1
        simp at x5 x6
        rw [PP.out.1]
        go_wp2_with fail
        refine (order_any AZ cp Z n kb _ (HR.out _ K.out) (HZ.out _ K.out) hn).mono ?_
        rintro e w2 ⟨⟨A2, c2, rfl, hO⟩, hb⟩
        have HL := hide (OwI.bi hO)
        replace HP := hide (HP.out.below hb)
        have K2 := hide (K.out.trans (hb.mono K.out.size))
        clear hO hb x5 x6 X5 K
        have HR2 := hide (HR.out _ K2.out)
        rw [NE.out]
        have EP := hide PP.out.2
        obtain ⟨l, hl⟩ : ∃ l, l = oR Z n kb := ⟨_, rfl⟩
        obtain ⟨pr, hpr⟩ : ∃ pr, pr = pR Z ⟨2, m, 0⟩ n kb := ⟨_, rfl⟩
        rw [← hl] at HL HM HL96 EP ⊢
        rw [← hpr] at HP EP ⊢
        have hl96 := HL96.out
        clear hl HL96 hpr PP HR HZ
        obtain ⟨B, hB⟩ : ∃ B, B = w2.heap.size := ⟨_, rfl⟩
        have HB := hide hB
        clear hB
        go_wp2
        go_loopw [11, 12] (fun a b wr => ∃ k : Nat, k ≤ l.length ∧ b = .int .i64 k ∧ a = .int .i64 (((tk (fun i => bt m (nd Z i.toNat)) l k).length : Nat) : Int) ∧ Hid (Below B w2 wr)) (fun _ b _ => l.length - (intOf b).toNat)
        case atStart => exact ⟨0, by omega, rfl, rfl, hide (Below.refl _ _)⟩
        case round =>
          obtain ⟨k, hk, rfl, rfl, K⟩ := hrel
          have hbb : Below w2.heap.size w2 wr := by rw [← HB.out]; exact K.out
          by_cases hkl : k < l.length
          · have hk2 : (k : Int) < (l.length : Int) := by omega
            have hk0 : (0 : Int) ≤ (k : Int) := by omega
            obtain ⟨j, hj, hjl⟩ := HM.out k hkl
            obtain ⟨bl, ol, rfl, hbl2, xq⟩ := HL.out.cells hbb hkl
            rw [hj] at xq
            obtain ⟨b, off, rfl, hbl, hcs⟩ := HR2.out.cells hbb hjl
            have y0 : wr.cell? ⟨b, off + j * 10, none⟩ = some (.int .i64 (nd Z j)) := hcs 0 (by omega)
            have hjl2 : (j : Int) < (Z.length : Int) := by omega
            have hj0 : (0 : Int) ≤ (j : Int) := by omega
            clear hcs hbl hbl2
            rcases cases4i (HN4.out j hjl) with hna | hna | hna | hna
            · rw [hna] at y0
              by_cases h1 : bt m 0 = true
              · have hv1 : m.tmod 2 = 1 := by rw [Int.tmod_eq_emod_of_nonneg (by omega)]; unfold bt at h1; simp at h1; omega
                have EC := hide (show (tk (fun i => bt m (nd Z i.toNat)) l (k + 1)).length = (tk (fun i => bt m (nd Z i.toNat)) l k).length + 1 by rw [tk_1 (q := (fun i => bt m (nd Z i.toNat))) hkl hj (by simp only [Int.toNat_natCast]; rw [hna]; exact h1)]; simp)
                obtain ⟨lt1, at1⟩ := tk_at (q := (fun i => bt m (nd Z i.toNat))) hkl hj (by simp only [Int.toNat_natCast]; rw [hna]; exact h1)
                rw [← EP.out] at lt1 at1
                obtain ⟨b2, o2, rfl, _, xl⟩ := HP.out.cells hbb lt1
                rw [at1] at xl
                have hcl := tk_len (fun i => bt m (nd Z i.toNat)) l k
                obtain ⟨q, hq⟩ : ∃ q, q = (tk (fun i => bt m (nd Z i.toNat)) l k).length := ⟨_, rfl⟩
                rw [← hq] at EC lt1 xl hcl ⊢
                have lt2 : (q : Int) < (pr.length : Int) := by omega
                have q0 : (0 : Int) ≤ (q : Int) := by omega
                clear hq h1 at1 hna hj
                go_wp2
                go_quiet (fail)
                generalize hwy : World.drewN wr _ = wy
                have hbq : Below wr.heap.size wr wy := by rw [← hwy]; exact below_drewN (brefl _) _
                replace K := hide (K.out.trans (hbq.mono (by rw [HB.out]; exact K.out.size)))
                clear hwy hbq
                go_wp2
                go_roundw
                case rel => exact ⟨k + 1, by omega, by go_num, by rw [EC.out]; go_num, K⟩
                case measure => simp [intOf]; omega
              · have h1' : bt m 0 = false := by simpa using h1
                have hv1 : m.tmod 2 = 0 := by rw [Int.tmod_eq_emod_of_nonneg (by omega)]; unfold bt at h1; simp at h1; omega
                have EC := hide (tk_0 (q := (fun i => bt m (nd Z i.toNat))) hkl hj (by simp only [Int.toNat_natCast]; rw [hna]; exact h1'))
                obtain ⟨q, hq⟩ : ∃ q, q = (tk (fun i => bt m (nd Z i.toNat)) l k).length := ⟨_, rfl⟩
                have hcl := tk_len (fun i => bt m (nd Z i.toNat)) l k
                rw [← hq] at hcl ⊢
                have HQ := hide hq
                clear hq h1 h1' hna hj
                go_wp2
                go_roundw
                case rel => exact ⟨k + 1, by omega, by go_num, by rw [EC.out, ← HQ.out], K⟩
                case measure => simp [intOf]; omega
            · rw [hna] at y0
              by_cases h1 : bt m 1 = true
              · have hv1 : (m / 2).tmod 2 = 1 := by rw [Int.tmod_eq_emod_of_nonneg (by omega)]; unfold bt at h1; simp at h1; omega
                have EC := hide (show (tk (fun i => bt m (nd Z i.toNat)) l (k + 1)).length = (tk (fun i => bt m (nd Z i.toNat)) l k).length + 1 by rw [tk_1 (q := (fun i => bt m (nd Z i.toNat))) hkl hj (by simp only [Int.toNat_natCast]; rw [hna]; exact h1)]; simp)
                obtain ⟨lt1, at1⟩ := tk_at (q := (fun i => bt m (nd Z i.toNat))) hkl hj (by simp only [Int.toNat_natCast]; rw [hna]; exact h1)
                rw [← EP.out] at lt1 at1
                obtain ⟨b2, o2, rfl, _, xl⟩ := HP.out.cells hbb lt1
                rw [at1] at xl
                have hcl := tk_len (fun i => bt m (nd Z i.toNat)) l k
                obtain ⟨q, hq⟩ : ∃ q, q = (tk (fun i => bt m (nd Z i.toNat)) l k).length := ⟨_, rfl⟩
                rw [← hq] at EC lt1 xl hcl ⊢
                have lt2 : (q : Int) < (pr.length : Int) := by omega
                have q0 : (0 : Int) ≤ (q : Int) := by omega
                clear hq h1 at1 hna hj
                go_wp2
                go_quiet (fail)
                generalize hwy : World.drewN wr _ = wy
                have hbq : Below wr.heap.size wr wy := by rw [← hwy]; exact below_drewN (brefl _) _
                replace K := hide (K.out.trans (hbq.mono (by rw [HB.out]; exact K.out.size)))
                clear hwy hbq
                go_wp2
                go_roundw
                case rel => exact ⟨k + 1, by omega, by go_num, by rw [EC.out]; go_num, K⟩
                case measure => simp [intOf]; omega
              · have h1' : bt m 1 = false := by simpa using h1
                have hv1 : (m / 2).tmod 2 = 0 := by rw [Int.tmod_eq_emod_of_nonneg (by omega)]; unfold bt at h1; simp at h1; omega
                have EC := hide (tk_0 (q := (fun i => bt m (nd Z i.toNat))) hkl hj (by simp only [Int.toNat_natCast]; rw [hna]; exact h1'))
                obtain ⟨q, hq⟩ : ∃ q, q = (tk (fun i => bt m (nd Z i.toNat)) l k).length := ⟨_, rfl⟩
                have hcl := tk_len (fun i => bt m (nd Z i.toNat)) l k
                rw [← hq] at hcl ⊢
                have HQ := hide hq
                clear hq h1 h1' hna hj
                go_wp2
                go_roundw
                case rel => exact ⟨k + 1, by omega, by go_num, by rw [EC.out, ← HQ.out], K⟩
                case measure => simp [intOf]; omega
            · rw [hna] at y0
              by_cases h1 : bt m 2 = true
              · have hv1 : (m / 4).tmod 2 = 1 := by rw [Int.tmod_eq_emod_of_nonneg (by omega)]; unfold bt at h1; simp at h1; omega
                have EC := hide (show (tk (fun i => bt m (nd Z i.toNat)) l (k + 1)).length = (tk (fun i => bt m (nd Z i.toNat)) l k).length + 1 by rw [tk_1 (q := (fun i => bt m (nd Z i.toNat))) hkl hj (by simp only [Int.toNat_natCast]; rw [hna]; exact h1)]; simp)
                obtain ⟨lt1, at1⟩ := tk_at (q := (fun i => bt m (nd Z i.toNat))) hkl hj (by simp only [Int.toNat_natCast]; rw [hna]; exact h1)
                rw [← EP.out] at lt1 at1
                obtain ⟨b2, o2, rfl, _, xl⟩ := HP.out.cells hbb lt1
                rw [at1] at xl
                have hcl := tk_len (fun i => bt m (nd Z i.toNat)) l k
                obtain ⟨q, hq⟩ : ∃ q, q = (tk (fun i => bt m (nd Z i.toNat)) l k).length := ⟨_, rfl⟩
                rw [← hq] at EC lt1 xl hcl ⊢
                have lt2 : (q : Int) < (pr.length : Int) := by omega
                have q0 : (0 : Int) ≤ (q : Int) := by omega
                clear hq h1 at1 hna hj
                go_wp2
                go_quiet (fail)
                generalize hwy : World.drewN wr _ = wy
                have hbq : Below wr.heap.size wr wy := by rw [← hwy]; exact below_drewN (brefl _) _
                replace K := hide (K.out.trans (hbq.mono (by rw [HB.out]; exact K.out.size)))
                clear hwy hbq
                go_wp2
                go_roundw
                case rel => exact ⟨k + 1, by omega, by go_num, by rw [EC.out]; go_num, K⟩
                case measure => simp [intOf]; omega
              · have h1' : bt m 2 = false := by simpa using h1
                have hv1 : (m / 4).tmod 2 = 0 := by rw [Int.tmod_eq_emod_of_nonneg (by omega)]; unfold bt at h1; simp at h1; omega
                have EC := hide (tk_0 (q := (fun i => bt m (nd Z i.toNat))) hkl hj (by simp only [Int.toNat_natCast]; rw [hna]; exact h1'))
                obtain ⟨q, hq⟩ : ∃ q, q = (tk (fun i => bt m (nd Z i.toNat)) l k).length := ⟨_, rfl⟩
                have hcl := tk_len (fun i => bt m (nd Z i.toNat)) l k
                rw [← hq] at hcl ⊢
                have HQ := hide hq
                clear hq h1 h1' hna hj
                go_wp2
                go_roundw
                case rel => exact ⟨k + 1, by omega, by go_num, by rw [EC.out, ← HQ.out], K⟩
                case measure => simp [intOf]; omega
            · rw [hna] at y0
              by_cases h1 : bt m 3 = true
              · have hv1 : (m / 8).tmod 2 = 1 := by rw [Int.tmod_eq_emod_of_nonneg (by omega)]; unfold bt at h1; simp at h1; omega
                have EC := hide (show (tk (fun i => bt m (nd Z i.toNat)) l (k + 1)).length = (tk (fun i => bt m (nd Z i.toNat)) l k).length + 1 by rw [tk_1 (q := (fun i => bt m (nd Z i.toNat))) hkl hj (by simp only [Int.toNat_natCast]; rw [hna]; exact h1)]; simp)
                obtain ⟨lt1, at1⟩ := tk_at (q := (fun i => bt m (nd Z i.toNat))) hkl hj (by simp only [Int.toNat_natCast]; rw [hna]; exact h1)
                rw [← EP.out] at lt1 at1
                obtain ⟨b2, o2, rfl, _, xl⟩ := HP.out.cells hbb lt1
                rw [at1] at xl
                have hcl := tk_len (fun i => bt m (nd Z i.toNat)) l k
                obtain ⟨q, hq⟩ : ∃ q, q = (tk (fun i => bt m (nd Z i.toNat)) l k).length := ⟨_, rfl⟩
                rw [← hq] at EC lt1 xl hcl ⊢
                have lt2 : (q : Int) < (pr.length : Int) := by omega
                have q0 : (0 : Int) ≤ (q : Int) := by omega
                clear hq h1 at1 hna hj
                go_wp2
                go_quiet (fail)
                generalize hwy : World.drewN wr _ = wy
                have hbq : Below wr.heap.size wr wy := by rw [← hwy]; exact below_drewN (brefl _) _
                replace K := hide (K.out.trans (hbq.mono (by rw [HB.out]; exact K.out.size)))
                clear hwy hbq
                go_wp2
                go_roundw
                case rel => exact ⟨k + 1, by omega, by go_num, by rw [EC.out]; go_num, K⟩
                case measure => simp [intOf]; omega
              · have h1' : bt m 3 = false := by simpa using h1
                have hv1 : (m / 8).tmod 2 = 0 := by rw [Int.tmod_eq_emod_of_nonneg (by omega)]; unfold bt at h1; simp at h1; omega
                have EC := hide (tk_0 (q := (fun i => bt m (nd Z i.toNat))) hkl hj (by simp only [Int.toNat_natCast]; rw [hna]; exact h1'))
                obtain ⟨q, hq⟩ : ∃ q, q = (tk (fun i => bt m (nd Z i.toNat)) l k).length := ⟨_, rfl⟩
                have hcl := tk_len (fun i => bt m (nd Z i.toNat)) l k
                rw [← hq] at hcl ⊢
                have HQ := hide hq
                clear hq h1 h1' hna hj
                go_wp2
                go_roundw
                case rel => exact ⟨k + 1, by omega, by go_num, by rw [EC.out, ← HQ.out], K⟩
                case measure => simp [intOf]; omega
          · obtain rfl : k = l.length := by omega
            rw [show tk (fun i => bt m (nd Z i.toNat)) l l.length = pr from (tk_all _ l).trans EP.out.symm]
            go_wp2_with fail
            refine (AWK.out _).mono ?_
            rintro e w9 ⟨rfl, hb⟩
            have K9 := hide (K2.out.trans ((hbb.trans (hb.mono hbb.size)).mono K2.out.size))
            clear hb
            go_wp2
            go_ret
            exact ⟨rfl, K9.out⟩
  · rw [vl_no hv] at VA
    clear hv
    go_enter Try.func8, Try.ntmps8
    go_upto_region 1 with fail
    rw [← hg5, ← hW0]
    clear hg5 hW0
    go_wp2_with (go_at_call 22; refine VA.out.mono ?_; rintro e w' ⟨rfl, rfl⟩)
    refine (AWK.out _).mono ?_
    rintro e w1 ⟨rfl, hb⟩
    have K1 := hide (K.out.trans (hb.mono K.out.size))
    go_wp2
    go_ret
    exact ⟨rfl, K1.out⟩
end Go.Proofs.Ytiopfeleaifpbaa.Bd
