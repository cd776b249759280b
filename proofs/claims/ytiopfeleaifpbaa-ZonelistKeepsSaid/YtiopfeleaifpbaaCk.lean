import Derived.Test.YtiopfeleaifpbaaZx
namespace Go.Proofs.Ytiopfeleaifpbaa.Bd
open Go Go.RowKit
set_option linter.unusedVariables false
set_option linter.unusedSimpArgs false
set_option maxRecDepth 100000 in
set_option maxHeartbeats 8000000 in
theorem check_any (A : Option Addr) (cp : Nat) (Z : List Zo) (w : World) (hr : Zs w A Z) (hz : ZIs w Z) (hn : Z.length ≤ 9223372036854775807) : Calls Try.prog 13 #[.slice A Z.length cp] w fun e w' => e = .returned (.int .i64 (chE Z)) ∧ Below w.heap.size w w' := by
  have HR := hide hr
  have HZ := hide hz
  have IC := hide (fun n w => isn_any n w)
  clear hr hz
  by_cases h6 : 6 < Z.length
  · have d6 : (6 : Int) < (Z.length : Int) := by omega
    have E := hide (chE_9 h6)
    go_enter Try.func13, Try.ntmps13
    go_wp2
    go_ret
    exact ⟨ret_int E.out.symm, brefl w⟩
  · have d6 : ¬ (6 : Int) < (Z.length : Int) := by omega
    have K0 := hide (brefl w)
    go_enter Try.func13, Try.ntmps13
    go_wp2
    go_loopw [10] (fun c wr => ∃ k : Nat, k ≤ Z.length ∧ c = .int .i64 k ∧ Hid (Below w.heap.size w wr) ∧ Hid (chF Z k = 0)) (fun c _ => Z.length - (intOf c).toNat)
    case atStart => exact ⟨0, Nat.zero_le _, rfl, K0, hide rfl⟩
    case round =>
      clear K0
      obtain ⟨k, hk, rfl, K, N⟩ := hrel
      by_cases hlt : k < Z.length
      · have hl2 : (k : Int) < (Z.length : Int) := by omega
        have hk0 : (0 : Int) ≤ (k : Int) := by omega
        obtain ⟨b, off, rfl, hbl, hcs⟩ := HR.out.cells K.out hlt
        obtain ⟨A0, c0, A1, c1, A2, c2, A3, c3, A4, c4, e0, e1, e2, e3, e4⟩ := (HZ.out k hlt).forms
        have EX := hide (fun (e : Int) (g : zE (nd Z k) (kd Z k) = e) (h0 : e ≠ 0) => chE_at h6 hlt N.out g h0)
        have NX := hide (chF_next N.out)
        have en : nd Z k = (zAt Z k).p.nd := rfl
        have ek : kd Z k = (zAt Z k).p.kd := rfl
        rw [en, ek] at EX NX
        clear en ek
        have y0 := hcs 0 (by omega); have y1 := hcs 1 (by omega); have y2 := hcs 2 (by omega); have y3 := hcs 3 (by omega); have y4 := hcs 4 (by omega)
        have y5 := hcs 5 (by omega); have y6 := hcs 6 (by omega); have y7 := hcs 7 (by omega); have y8 := hcs 8 (by omega); have y9 := hcs 9 (by omega)
        generalize (zAt Z k).L = L at *
        generalize (zAt Z k).p = p at *
        generalize (zAt Z k).v = v at *
        unfold znC at y0 y1 y2 y3 y4 y5 y6 y7 y8 y9
        rw [e0, e1, e2, e3, e4] at y0 y1 y2 y3 y4 y5 y6 y7 y8 y9
        simp at y0 y1 y2 y3 y4 y5 y6 y7 y8 y9
        generalize (L 0).length = n0 at *
        generalize (L 1).length = n1 at *
        generalize (L 2).length = n2 at *
        generalize (L 3).length = n3 at *
        generalize (L 4).length = n4 at *
        clear hcs e0 e1 e2 e3 e4 N
        obtain ⟨nd, kd, st, ct, mn⟩ := p
        simp only at y0 y1 y2 y3 y4 EX NX
        have M := bal (brefl wr) (.cells #[.int .i64 nd, .int .i64 kd, .int .i64 st, .int .i64 ct, .int .i64 mn, .slice A0 n0 c0, .slice A1 n1 c1, .slice A2 n2 c2, .slice A3 n3 c3, .slice A4 n4 c4] 41)
        have X := hide (Box.new wr 41 #[.int .i64 nd, .int .i64 kd, .int .i64 st, .int .i64 ct, .int .i64 mn, .slice A0 n0 c0, .slice A1 n1 c1, .slice A2 n2 c2, .slice A3 n3 c3, .slice A4 n4 c4])
        replace K := hide (K.out.trans (M.mono K.out.size))
        clear M
        go_upto_region 6 with fail
        obtain ⟨g, hg⟩ : ∃ g, g = wr.heap.size := ⟨_, rfl⟩
        rw [← hg] at X ⊢
        generalize wr.alloc (.cells #[.int .i64 nd, .int .i64 kd, .int .i64 st, .int .i64 ct, .int .i64 mn, .slice A0 n0 c0, .slice A1 n1 c1, .slice A2 n2 c2, .slice A3 n3 c3, .slice A4 n4 c4] 41) = wx at *
        clear hg y0 y1 y2 y3 y4 y5 y6 y7 y8 y9
        have x0 : wx.cell? ⟨g, 0, none⟩ = some (.int .i64 nd) := X.out.cell 0
        have x1 : wx.cell? ⟨g, 1, none⟩ = some (.int .i64 kd) := X.out.cell 1
        by_cases hi : 0 ≤ nd ∧ nd < 4
        · have di := decide_eq_true hi
          by_cases hk0' : kd = 0
          · have NX2 := hide (NX.out.trans (zE_0 hi (Or.inl hk0')))
            subst hk0'
            clear hi
            go_wp2_with (go_at_call 24; refine (IC.out _ _).mono ?_; rintro e w' ⟨rfl, rfl⟩)
            go_roundw
            case rel => exact ⟨k + 1, by omega, by go_num, K, NX2⟩
            case measure => simp [intOf]; omega
          · by_cases hk1 : kd = 1
            · have NX2 := hide (NX.out.trans (zE_0 hi (Or.inr hk1)))
              subst hk1
              clear hi hk0'
              go_wp2_with (go_at_call 24; refine (IC.out _ _).mono ?_; rintro e w' ⟨rfl, rfl⟩)
              go_roundw
              case rel => exact ⟨k + 1, by omega, by go_num, K, NX2⟩
              case measure => simp [intOf]; omega
            · have dk : (kd != 0) = true := by simpa using hk0'
              have dk1 : (kd != 1) = true := by simpa using hk1
              have E := hide (EX.out 1 (zE_1 hi (by omega)) (by decide))
              clear hi
              go_wp2_with (go_at_call 24; refine (IC.out _ _).mono ?_; rintro e w' ⟨rfl, rfl⟩)
              go_ret
              exact ⟨ret_int E.out.symm, K.out⟩
        · have di := decide_eq_false hi
          have E := hide (EX.out 2 (zE_2 hi) (by decide))
          clear hi
          go_wp2_with (go_at_call 24; refine (IC.out _ _).mono ?_; rintro e w' ⟨rfl, rfl⟩)
          go_ret
          exact ⟨ret_int E.out.symm, K.out⟩
      · obtain rfl : k = Z.length := by omega
        have E := hide (chE_0 h6 N.out)
        go_wp2
        go_ret
        exact ⟨ret_int E.out.symm, K.out⟩
end Go.Proofs.Ytiopfeleaifpbaa.Bd
