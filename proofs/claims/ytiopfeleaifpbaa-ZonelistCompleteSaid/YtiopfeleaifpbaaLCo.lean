import Derived.Test.YtiopfeleaifpbaaVa
namespace Go.Proofs.Ytiopfeleaifpbaa.Bd
open Go Go.RowKit Go.Sort Go.Lib
set_option linter.unusedVariables false
set_option linter.unusedSimpArgs false
set_option maxRecDepth 100000 in
set_option maxHeartbeats 8000000 in
theorem law_complete (AZ : Option Addr) (cp : Nat) (Z : List Zo) (n : Int) (kb : Bool) (W : World) (hr : Zs W AZ Z) (hz : ZIs W Z) (hn : Z.length ≤ 9223372036854775807) : Calls Try.prog 6 #[.slice AZ Z.length cp, .int .i64 n, .bool kb] W fun e w' => e = .returned (.bool true) ∧ Below W.heap.size W w' := by
  have AWK := hide (fun w => awake_any w)
  have VA := hide (valid_any AZ cp Z n W hr hn)
  have OD := hide (order_any AZ cp Z n kb W hr hz hn)
  have HR := hide hr
  clear hr hz
  by_cases hv : chE Z = 0 ∧ 0 ≤ n ∧ n < 4
  · rw [show vl Z n = true from decide_eq_true hv] at VA
    have NE := hide (nE_ok hv.1 hv.2).1
    have CN := hide (fun i (hi : i < Z.length) => oR_count (kb := kb) hv.1 hv.2 hi)
    have HM := hide (oR_mem (kb := kb) hv.1 hv.2)
    have HL96 := hide (oR_len (kb := kb) hv.1 hv.2)
    clear hv
    go_enter Try.func6, Try.ntmps6
    go_wp2_with (go_at_call 22; refine VA.out.mono ?_; rintro e w' ⟨rfl, rfl⟩)
    refine OD.out.mono ?_
    rintro e w1 ⟨⟨A1, c1, rfl, hO⟩, hb⟩
    have HL := hide (OwI.bi hO)
    have HRW := hide (HR.out.below hb)
    have K1 := hide hb
    rw [NE.out]
    clear hO hb OD VA HR
    obtain ⟨l, hl⟩ : ∃ l, l = oR Z n kb := ⟨_, rfl⟩
    rw [← hl] at HL CN HM HL96 ⊢
    have hl96 := HL96.out
    clear hl HL96
    cases kb
    · go_wp2
      go_loopw [9] (fun b wr => ∃ i : Nat, i ≤ Z.length ∧ b = .int .i64 i ∧ w1 = wr) (fun b _ => Z.length - (intOf b).toNat)
      case atStart => exact ⟨0, by omega, rfl, rfl⟩
      case round =>
        obtain ⟨i, hi, rfl, rfl⟩ := hrel
        by_cases hlt : i < Z.length
        · have hlt2 : (i : Int) < (Z.length : Int) := by omega
          have hi0 : (0 : Int) ≤ (i : Int) := by omega
          go_wp2
          go_loopw [10, 11] (fun a b wr => ∃ k : Nat, k ≤ l.length ∧ b = .int .i64 k ∧ a = .int .i64 (((l.take k).count (i : Int) : Nat) : Int) ∧ w1 = wr) (fun _ b _ => l.length - (intOf b).toNat)
          case atStart => exact ⟨0, by omega, rfl, rfl, rfl⟩
          case round =>
            obtain ⟨k, hk, rfl, rfl, rfl⟩ := hrel
            by_cases hkl : k < l.length
            · have hk2 : (k : Int) < (l.length : Int) := by omega
              have hk0 : (0 : Int) ≤ (k : Int) := by omega
              obtain ⟨bl, ol, rfl, hbl2, xq⟩ := HL.out.cells (brefl _) hkl
              by_cases he : l.getD k 0 = (i : Int)
              · have EC := hide (cnt_1 hkl he)
                have hcl : (l.take k).count (i : Int) ≤ k := Nat.le_trans List.count_le_length (by rw [List.length_take]; omega)
                rw [he] at xq
                clear he
                obtain ⟨q, hq⟩ : ∃ q, q = (l.take k).count (i : Int) := ⟨_, rfl⟩
                rw [← hq] at EC hcl ⊢
                clear hq
                go_wp2
                go_roundw
                case rel => exact ⟨k + 1, by omega, by go_num, by rw [EC.out]; go_num, trivial⟩
                case measure => simp [intOf]; omega
              · have EC := hide (cnt_0 hkl he)
                have dn : (l.getD k 0 == (i : Int)) = false := by simpa using he
                obtain ⟨q, hq⟩ : ∃ q, q = (l.take k).count (i : Int) := ⟨_, rfl⟩
                rw [← hq] at EC ⊢
                clear hq he
                generalize l.getD k 0 = y at *
                go_wp2
                go_roundw
                case rel => exact ⟨k + 1, by omega, by go_num, by rw [EC.out], trivial⟩
                case measure => simp [intOf]; omega
            · obtain rfl : k = l.length := by omega
              rw [List.take_length]
              rw [show l.count (i : Int) = 1 from (CN.out i hlt).trans (if_pos rfl)]
              go_wp2
              go_roundw
              case rel => exact ⟨i + 1, by omega, by go_num, trivial⟩
              case measure => simp [intOf]; omega
        · obtain rfl : i = Z.length := by omega
          go_wp2
          go_loopw [13] (fun b wr => ∃ k : Nat, k ≤ l.length ∧ b = .int .i64 k ∧ w1 = wr) (fun b _ => l.length - (intOf b).toNat)
          case atStart => exact ⟨0, by omega, rfl, rfl⟩
          case round =>
            obtain ⟨k, hk, rfl, rfl⟩ := hrel
            by_cases hkl : k < l.length
            · have hk2 : (k : Int) < (l.length : Int) := by omega
              have hk0 : (0 : Int) ≤ (k : Int) := by omega
              obtain ⟨bl, ol, rfl, hbl2, xq⟩ := HL.out.cells (brefl _) hkl
              obtain ⟨j, hj, hjl⟩ := HM.out k hkl
              rw [hj] at xq
              have hjl2 : (j : Int) < (Z.length : Int) := by omega
              have hj0 : (0 : Int) ≤ (j : Int) := by omega
              clear hj
              go_wp2
              go_roundw
              case rel => exact ⟨k + 1, by omega, by go_num, trivial⟩
              case measure => simp [intOf]; omega
            · obtain rfl : k = l.length := by omega
              go_wp2_with fail
              refine (AWK.out _).mono ?_
              rintro e w9 ⟨rfl, hb⟩
              have K9 := hide (btrans K1.out hb)
              clear hb
              go_wp2
              go_ret
              exact ⟨rfl, K9.out⟩
    · go_wp2
      go_loopw [9] (fun b wr => ∃ i : Nat, i ≤ Z.length ∧ b = .int .i64 i ∧ w1 = wr) (fun b _ => Z.length - (intOf b).toNat)
      case atStart => exact ⟨0, by omega, rfl, rfl⟩
      case round =>
        obtain ⟨i, hi, rfl, rfl⟩ := hrel
        by_cases hlt : i < Z.length
        · have hlt2 : (i : Int) < (Z.length : Int) := by omega
          have hi0 : (0 : Int) ≤ (i : Int) := by omega
          go_wp2
          go_loopw [10, 11] (fun a b wr => ∃ k : Nat, k ≤ l.length ∧ b = .int .i64 k ∧ a = .int .i64 (((l.take k).count (i : Int) : Nat) : Int) ∧ w1 = wr) (fun _ b _ => l.length - (intOf b).toNat)
          case atStart => exact ⟨0, by omega, rfl, rfl, rfl⟩
          case round =>
            obtain ⟨k, hk, rfl, rfl, rfl⟩ := hrel
            by_cases hkl : k < l.length
            · have hk2 : (k : Int) < (l.length : Int) := by omega
              have hk0 : (0 : Int) ≤ (k : Int) := by omega
              obtain ⟨bl, ol, rfl, hbl2, xq⟩ := HL.out.cells (brefl _) hkl
              by_cases he : l.getD k 0 = (i : Int)
              · have EC := hide (cnt_1 hkl he)
                have hcl : (l.take k).count (i : Int) ≤ k := Nat.le_trans List.count_le_length (by rw [List.length_take]; omega)
                rw [he] at xq
                clear he
                obtain ⟨q, hq⟩ : ∃ q, q = (l.take k).count (i : Int) := ⟨_, rfl⟩
                rw [← hq] at EC hcl ⊢
                clear hq
                go_wp2
                go_roundw
                case rel => exact ⟨k + 1, by omega, by go_num, by rw [EC.out]; go_num, trivial⟩
                case measure => simp [intOf]; omega
              · have EC := hide (cnt_0 hkl he)
                have dn : (l.getD k 0 == (i : Int)) = false := by simpa using he
                obtain ⟨q, hq⟩ : ∃ q, q = (l.take k).count (i : Int) := ⟨_, rfl⟩
                rw [← hq] at EC ⊢
                clear hq he
                generalize l.getD k 0 = y at *
                go_wp2
                go_roundw
                case rel => exact ⟨k + 1, by omega, by go_num, by rw [EC.out], trivial⟩
                case measure => simp [intOf]; omega
            · obtain rfl : k = l.length := by omega
              rw [List.take_length]
              obtain ⟨b, off, rfl, hbl, hcs⟩ := HRW.out.cells (brefl _) hlt
              have y1 : w1.cell? ⟨b, off + i * 10 + 1, none⟩ = some (.int .i64 (kd Z i)) := hcs 1 (by omega)
              clear hcs
              by_cases hkd : kd Z i = 0
              · rw [show l.count (i : Int) = 1 from (CN.out i hlt).trans (if_pos (by unfold sth; rw [Int.toNat_natCast, hkd]; rfl))]
                rw [hkd] at y1
                clear hkd
                go_wp2
                go_roundw
                case rel => exact ⟨i + 1, by omega, by go_num, trivial⟩
                case measure => simp [intOf]; omega
              · rw [show l.count (i : Int) = 0 from (CN.out i hlt).trans (if_neg (by unfold sth; rw [Int.toNat_natCast]; simpa using hkd))]
                have dk : (kd Z i != 0) = true := by simpa using hkd
                clear hkd
                generalize kd Z i = kz at *
                go_wp2
                go_roundw
                case rel => exact ⟨i + 1, by omega, by go_num, trivial⟩
                case measure => simp [intOf]; omega
        · obtain rfl : i = Z.length := by omega
          go_wp2
          go_loopw [13] (fun b wr => ∃ k : Nat, k ≤ l.length ∧ b = .int .i64 k ∧ w1 = wr) (fun b _ => l.length - (intOf b).toNat)
          case atStart => exact ⟨0, by omega, rfl, rfl⟩
          case round =>
            obtain ⟨k, hk, rfl, rfl⟩ := hrel
            by_cases hkl : k < l.length
            · have hk2 : (k : Int) < (l.length : Int) := by omega
              have hk0 : (0 : Int) ≤ (k : Int) := by omega
              obtain ⟨bl, ol, rfl, hbl2, xq⟩ := HL.out.cells (brefl _) hkl
              obtain ⟨j, hj, hjl⟩ := HM.out k hkl
              rw [hj] at xq
              have hjl2 : (j : Int) < (Z.length : Int) := by omega
              have hj0 : (0 : Int) ≤ (j : Int) := by omega
              clear hj
              go_wp2
              go_roundw
              case rel => exact ⟨k + 1, by omega, by go_num, trivial⟩
              case measure => simp [intOf]; omega
            · obtain rfl : k = l.length := by omega
              go_wp2_with fail
              refine (AWK.out _).mono ?_
              rintro e w9 ⟨rfl, hb⟩
              have K9 := hide (btrans K1.out hb)
              clear hb
              go_wp2
              go_ret
              exact ⟨rfl, K9.out⟩
  · rw [vl_no hv] at VA
    clear hv
    go_enter Try.func6, Try.ntmps6
    go_wp2_with (go_at_call 22; refine VA.out.mono ?_; rintro e w' ⟨rfl, rfl⟩)
    refine (AWK.out _).mono ?_
    rintro e w1 ⟨rfl, hb⟩
    have K1 := hide hb
    go_wp2
    go_ret
    exact ⟨rfl, K1.out⟩
end Go.Proofs.Ytiopfeleaifpbaa.Bd
