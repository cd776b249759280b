import Derived.Test.YtncjicggolmofaaCk
namespace Go.Proofs.Ytncjicggolmofaa.Sb
open Go Go.RowKit
set_option linter.unusedVariables false
set_option linter.unusedSimpArgs false
set_option maxRecDepth 100000 in
set_option maxHeartbeats 8000000 in
theorem rcheck_any (A : Option Addr) (cp : Nat) (S : Sc) (w : World) (hr : RdC w A S.sl) (hn : S.sl.length ≤ 9223372036854775807) (hln : ∀ k, k < S.sl.length → (us S k).length ≤ 9223372036854775807) : Calls Try.prog 17 #[.agg #[.int .i64 S.ob, .slice A S.sl.length cp]] w fun e w' => e = .returned (.int .i64 (chE S)) ∧ Below w.heap.size w w' := by
  have X10 := hide (Box.new w 24 #[.int .i64 S.ob, .slice A S.sl.length cp])
  have KF := hide (bal (brefl w) (.cells #[.int .i64 S.ob, .slice A S.sl.length cp] 24))
  obtain ⟨g, hg⟩ : ∃ g, g = w.heap.size := ⟨_, rfl⟩
  obtain ⟨W0, hW0⟩ : ∃ W0, W0 = (w.alloc (.cells #[.int .i64 S.ob, .slice A S.sl.length cp] 24)) := ⟨_, rfl⟩
  rw [← hg, ← hW0] at X10
  rw [← hW0] at KF
  have HR := hide (hr.below KF.out)
  have HLN := hide hln
  have x0 := X10.out.cell 0
  have x1 := X10.out.cell 1
  simp at x0 x1
  clear hr hln
  by_cases hs : 1 ≤ S.ob ∧ S.ob ≤ 32
  · have HS := hide hs
    have hsa : ¬ S.ob < 1 := by omega
    have hsb : ¬ 32 < S.ob := by omega
    clear hs
    go_enter Try.func17, Try.ntmps17
    go_upto_region 1 with fail
    rw [← hg, ← hW0]
    clear hg hW0
    go_wp2
    clear x0 x1
    go_loopw [3] (fun c wr => ∃ k : Nat, k ≤ S.sl.length ∧ c = .int .i64 k ∧ Hid (Below W0.heap.size W0 wr) ∧ Hid (slF S k = 0)) (fun c _ => S.sl.length - (intOf c).toNat)
    case atStart => exact ⟨0, Nat.zero_le _, rfl, hide (Below.refl _ _), hide rfl⟩
    case round =>
      obtain ⟨k, hk, rfl, K, N⟩ := hrel
      by_cases hlt : k < S.sl.length
      · have hl2 : (k : Int) < (S.sl.length : Int) := by omega
        have hk0 : (0 : Int) ≤ (k : Int) := by omega
        obtain ⟨b, off, vu, rfl, hbl, y0, y1, hu⟩ := HR.out.cells K.out hlt
        obtain ⟨Au, cu, rfl, hcu, hbu⟩ := hu
        have X1 := hide (X10.out.below K.out)
        have EX := hide (fun (e : Int) (g : slE S k = e) (h0 : e ≠ 0) => chE_at HS.out hlt N.out g h0)
        have NX := hide (slF_next N.out)
        change wr.cell? _ = some (.int .i64 (fr S k)) at y0
        change wr.cell? _ = some (.slice Au (us S k).length cu) at y1
        change Bs wr Au (us S k) at hbu
        have x0 := X1.out.cell 0
        have x1 := X1.out.cell 1
        simp at x0 x1
        have M := bal (brefl wr) (.cells #[.int .i64 (fr S k), .slice Au (us S k).length cu] 52)
        have X4 := hide (Box.new wr 52 #[.int .i64 (fr S k), .slice Au (us S k).length cu])
        have BU := hide (hbu.below M)
        replace X1 := hide (X1.out.below M)
        replace K := hide (K.out.trans (M.mono K.out.size))
        clear M hbu hcu N
        go_upto_region 7 with fail
        obtain ⟨g4, hg4⟩ : ∃ g, g = wr.heap.size := ⟨_, rfl⟩
        rw [← hg4] at X4 ⊢
        clear hg4 x0 x1
        generalize wr.alloc (.cells #[.int .i64 (fr S k), .slice Au (us S k).length cu] 52) = wx at *
        have z0 := X4.out.cell 0
        have z1 := X4.out.cell 1
        have x0 := X1.out.cell 0
        have x1 := X1.out.cell 1
        simp at z0 z1 x0 x1
        clear y0 y1
        by_cases h1 : 0 ≤ fr S k ∧ fr S k < 256
        · cases k with
          | zero =>
            have h2 : ¬ (0 < 0 ∧ fr S 0 ≤ fr S (0 - 1)) := fun h => absurd h.1 (by decide)
            have h1a : ¬ fr S 0 < 0 := by omega
            have h1b : ¬ 256 ≤ fr S 0 := by omega
            go_wp2
            go_quiet (fail)
            generalize hwy : World.drewN wx _ = wy
            have hbq : Below wx.heap.size wx wy := by rw [← hwy]; exact below_drewN (brefl _) _
            replace K := hide (K.out.trans (hbq.mono K.out.size))
            replace X4 := hide (X4.out.below hbq)
            replace X1 := hide (X1.out.below hbq)
            replace BU := hide (BU.out.below hbq)
            clear hwy hbq z0 z1 x0 x1
            have z0 := X4.out.cell 0
            have z1 := X4.out.cell 1
            have x0 := X1.out.cell 0
            have x1 := X1.out.cell 1
            simp at z0 z1 x0 x1
            by_cases h3 : ((us S 0).length : Int) = S.ob
            · have dn3 : (((us S 0).length : Int) != S.ob) = false := by simpa using h3
              have ISE := hide (fun W (hb : Below wy.heap.size wy W) => used_any (fr S 0) Au cu (us S 0) W (BU.out.below hb) (HLN.out 0 hlt))
              by_cases h4 : cnt (us S 0) = 0
              · have E := hide (EX.out 6 (slE_6 h1 h2 h3 h4) (by decide))
                rw [h4] at ISE
                clear EX NX h1 h2 h3 h4
                generalize (us S 0).length = un at *
                go_wp2_with (go_at_call 36; refine (ISE.out _ (brefl _)).mono ?_; rintro e w9 ⟨rfl, hb9⟩; replace K := hide (K.out.trans (hb9.mono K.out.size)); clear hb9)
                go_ret
                exact ⟨ret_int E.out.symm, KF.out.trans (K.out.mono KF.out.size)⟩
              · have NX2 := hide (NX.out.trans (slE_0 h1 h2 h3 h4))
                have d9 : (((cnt (us S 0) : Nat) : Int) == 0) = false := beq_eq_false_iff_ne.2 (by omega)
                generalize cnt (us S 0) = cq at *
                clear EX NX h1 h2 h3 h4
                generalize (us S 0).length = un at *
                go_wp2_with (go_at_call 36; refine (ISE.out _ (brefl _)).mono ?_; rintro e w9 ⟨rfl, hb9⟩; replace K := hide (K.out.trans (hb9.mono K.out.size)); clear hb9)
                go_roundw
                case rel => first | exact ⟨0 + 1, by omega, by go_num, K, NX2⟩ | ((repeat apply Exists.intro); exact ⟨⟨0 + 1, by omega, by go_num, K, NX2⟩, rfl⟩)
                case measure => simp [intOf]; omega
            · have dn3 : (((us S 0).length : Int) != S.ob) = true := by simpa using h3
              have E := hide (EX.out 3 (slE_3 h1 h2 h3) (by decide))
              clear EX NX h1 h2 h3
              generalize (us S 0).length = un at *
              go_wp2
              go_ret
              exact ⟨ret_int E.out.symm, KF.out.trans (K.out.mono KF.out.size)⟩
          | succ j =>
            have hpr : j < S.sl.length := by omega
            obtain ⟨b', off', vp, ev', hbl', p0, _, _⟩ := HR.out.cells K.out hpr
            injection ev' with ev'
            injection ev' with ev1 ev2 ev3
            subst ev1 ev2
            change wx.cell? _ = some (.int .i64 (fr S j)) at p0
            clear ev3 hbl'
            have hj0 : (0 : Int) < (j : Int) + 1 := by omega
            push_cast
            have h1a : ¬ fr S (j + 1) < 0 := by omega
            have h1b : ¬ 256 ≤ fr S (j + 1) := by omega
            go_wp2
            by_cases hle : fr S (j + 1) ≤ fr S j
            · have h2 : 0 < j + 1 ∧ fr S (j + 1) ≤ fr S (j + 1 - 1) := ⟨by omega, by rw [Nat.add_sub_cancel]; exact hle⟩
              have E := hide (EX.out 10 (slE_10 h1 h2) (by decide))
              have dle := decide_eq_true hle
              clear h1 h2 EX NX hle
              go_quiet (fail)
              generalize hwy : World.drewN wx _ = wy
              have hbq : Below wx.heap.size wx wy := by rw [← hwy]; exact below_drewN (brefl _) _
              replace K := hide (K.out.trans (hbq.mono K.out.size))
              replace X4 := hide (X4.out.below hbq)
              replace X1 := hide (X1.out.below hbq)
              replace BU := hide (BU.out.below hbq)
              clear hwy hbq p0 z0 z1 x0 x1
              have z0 := X4.out.cell 0
              have z1 := X4.out.cell 1
              have x0 := X1.out.cell 0
              have x1 := X1.out.cell 1
              simp at z0 z1 x0 x1
              go_wp2
              go_ret
              exact ⟨ret_int E.out.symm, KF.out.trans (K.out.mono KF.out.size)⟩
            · have h2 : ¬ (0 < j + 1 ∧ fr S (j + 1) ≤ fr S (j + 1 - 1)) := by rw [Nat.add_sub_cancel]; exact fun h => hle h.2
              have dle := decide_eq_false hle
              clear hle
              go_quiet (fail)
              generalize hwy : World.drewN wx _ = wy
              have hbq : Below wx.heap.size wx wy := by rw [← hwy]; exact below_drewN (brefl _) _
              replace K := hide (K.out.trans (hbq.mono K.out.size))
              replace X4 := hide (X4.out.below hbq)
              replace X1 := hide (X1.out.below hbq)
              replace BU := hide (BU.out.below hbq)
              clear hwy hbq p0 dle z0 z1 x0 x1
              have z0 := X4.out.cell 0
              have z1 := X4.out.cell 1
              have x0 := X1.out.cell 0
              have x1 := X1.out.cell 1
              simp at z0 z1 x0 x1
              by_cases h3 : ((us S (j + 1)).length : Int) = S.ob
              · have dn3 : (((us S (j + 1)).length : Int) != S.ob) = false := by simpa using h3
                have ISE := hide (fun W (hb : Below wy.heap.size wy W) => used_any (fr S (j + 1)) Au cu (us S (j + 1)) W (BU.out.below hb) (HLN.out (j + 1) hlt))
                by_cases h4 : cnt (us S (j + 1)) = 0
                · have E := hide (EX.out 6 (slE_6 h1 h2 h3 h4) (by decide))
                  rw [h4] at ISE
                  clear EX NX h1 h2 h3 h4
                  generalize (us S (j + 1)).length = un at *
                  go_wp2_with (go_at_call 36; refine (ISE.out _ (brefl _)).mono ?_; rintro e w9 ⟨rfl, hb9⟩; replace K := hide (K.out.trans (hb9.mono K.out.size)); clear hb9)
                  go_ret
                  exact ⟨ret_int E.out.symm, KF.out.trans (K.out.mono KF.out.size)⟩
                · have NX2 := hide (NX.out.trans (slE_0 h1 h2 h3 h4))
                  have d9 : (((cnt (us S (j + 1)) : Nat) : Int) == 0) = false := beq_eq_false_iff_ne.2 (by omega)
                  generalize cnt (us S (j + 1)) = cq at *
                  clear EX NX h1 h2 h3 h4
                  generalize (us S (j + 1)).length = un at *
                  go_wp2_with (go_at_call 36; refine (ISE.out _ (brefl _)).mono ?_; rintro e w9 ⟨rfl, hb9⟩; replace K := hide (K.out.trans (hb9.mono K.out.size)); clear hb9)
                  go_roundw
                  case rel => first | exact ⟨j + 1 + 1, by omega, by go_num, K, NX2⟩ | ((repeat apply Exists.intro); exact ⟨⟨j + 1 + 1, by omega, by go_num, K, NX2⟩, rfl⟩)
                  case measure => simp [intOf]; omega
              · have dn3 : (((us S (j + 1)).length : Int) != S.ob) = true := by simpa using h3
                have E := hide (EX.out 3 (slE_3 h1 h2 h3) (by decide))
                clear EX NX h1 h2 h3
                generalize (us S (j + 1)).length = un at *
                go_wp2
                go_ret
                exact ⟨ret_int E.out.symm, KF.out.trans (K.out.mono KF.out.size)⟩
        · have E := hide (EX.out 2 (slE_2 h1) (by decide))
          by_cases h1a : fr S k < 0
          · clear h1 EX NX
            go_wp2
            go_ret
            exact ⟨ret_int E.out.symm, KF.out.trans (K.out.mono KF.out.size)⟩
          · have h1b : 256 ≤ fr S k := by omega
            clear h1 EX NX
            go_wp2
            go_ret
            exact ⟨ret_int E.out.symm, KF.out.trans (K.out.mono KF.out.size)⟩
      · obtain rfl : k = S.sl.length := by omega
        have E := hide (chE_0 HS.out N.out)
        have x0 := (X10.out.below K.out).cell 0
        have x1 := (X10.out.below K.out).cell 1
        simp at x0 x1
        go_wp2
        go_ret
        exact ⟨ret_int E.out.symm, KF.out.trans (K.out.mono KF.out.size)⟩
  · have E := hide (chE_1 hs)
    by_cases hsa : S.ob < 1
    · clear hs
      go_enter Try.func17, Try.ntmps17
      go_upto_region 1 with fail
      rw [← hg, ← hW0]
      clear hg hW0
      go_wp2
      go_ret
      exact ⟨ret_int E.out.symm, KF.out⟩
    · have hsb : 32 < S.ob := by omega
      clear hs
      go_enter Try.func17, Try.ntmps17
      go_upto_region 1 with fail
      rw [← hg, ← hW0]
      clear hg hW0
      go_wp2
      go_ret
      exact ⟨ret_int E.out.symm, KF.out⟩
end Go.Proofs.Ytncjicggolmofaa.Sb
