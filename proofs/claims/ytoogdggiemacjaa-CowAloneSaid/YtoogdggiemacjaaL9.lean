import Derived.Test.YtoogdggiemacjaaL8
import Derived.Test.YtoogdggiemacjaaV4
namespace Go.Proofs.Ytoogdggiemacjaa.Cw
open Go Go.RowKit
set_option linter.unusedVariables false
set_option linter.unusedSimpArgs false
def RdI (w : World) (A : Option Addr) (l : List Int) : Prop := l ≠ [] → ∃ b off, A = some ⟨b, off, none⟩ ∧ b < w.heap.size ∧ ∀ k, k < l.length → w.cell? ⟨b, off + k, none⟩ = some (.int .i64 (l.getD k 0))
theorem al_new {L : Nat} (h0 : 1 ≤ L) (h1 : L ≤ 8) : nwG (2 * (L : Int)) (L : Int) = (nwM (2 * L) L, 0) ∧ Al (nwM (2 * L) L) L 0 0 := by
  obtain ⟨a, b, c, d⟩ := new_val (f := 2 * (L : Int)) (s := (L : Int)) (by omega) (by omega)
  rw [show (2 * (L : Int)).toNat = 2 * L by omega, Int.toNat_natCast] at a b c d
  refine ⟨a, b, c, by omega, rfl, rfl, rfl, by show (List.replicate L ((-1 : Int), false)).length = L; simp, fun i hi => ?_, fun s h2 h3 => by omega⟩
  show (pAt (List.replicate L ((-1 : Int), false)) i).1 = _
  rw [if_neg (by omega)]
  unfold pAt
  rw [List.getD_eq_getElem?_getD, List.getElem?_replicate, if_pos hi]; rfl
set_option maxRecDepth 100000 in
set_option maxHeartbeats 16000000 in
theorem law_alone (A : Option Addr) (c : Nat) (l : List Int) (fk : Int) (w : World) (h : RdI w A l) (hn : l.length ≤ 9223372036854775807) (s0 : 0 ≤ fk) (s1 : fk < 256) : Calls Try.prog 9 #[.slice A l.length c, .int .u8 fk] w fun e w' => e = .returned (.bool true) ∧ Below w.heap.size w w' := by
  have K := hide (brefl w)
  by_cases h3 : (8 : Int) < (l.length : Int)
  · clear h
    go_enter Try.func9, Try.ntmps9
    go_wp2_with fail
    refine (awake_any _).mono ?_
    rintro e w1 ⟨rfl, hb⟩
    replace K := hide (btrans K.out hb)
    clear hb
    go_wp2_with fail
    refine (awake_any _).mono ?_
    rintro e w2 ⟨rfl, hb⟩
    replace K := hide (btrans K.out hb)
    clear hb
    go_wp2
    go_ret
    exact ⟨rfl, K.out⟩
  by_cases h4 : l.length = 0
  · have e4 : (l.length : Int) = 0 := by omega
    rw [h4]
    clear h h3 e4
    go_enter Try.func9, Try.ntmps9
    go_wp2_with fail
    refine (awake_any _).mono ?_
    rintro e w1 ⟨rfl, hb⟩
    replace K := hide (btrans K.out hb)
    clear hb
    go_wp2_with fail
    refine (awake_any _).mono ?_
    rintro e w2 ⟨rfl, hb⟩
    replace K := hide (btrans K.out hb)
    clear hb
    go_wp2
    go_ret
    exact ⟨rfl, K.out⟩
  · have HR := hide (fun w' (hb : Below w.heap.size w w') k (hk : k < l.length) => show ∃ b off, A = some ⟨b, off, none⟩ ∧ b < w.heap.size ∧ w'.cell? ⟨b, off + k, none⟩ = some (.int .i64 (l.getD k 0)) by
      obtain ⟨b, off, e, hl, hc⟩ := h (by rintro rfl; simp at hk)
      exact ⟨b, off, e, hl, (hb.cell (p := ⟨b, off + k, none⟩) hl).trans (hc k hk)⟩)
    clear h
    obtain ⟨L, hL⟩ : ∃ L, l.length = L := ⟨_, rfl⟩
    rw [hL] at h3 h4 ⊢
    have hL1 : 1 ≤ L := by omega
    have hL8 : L ≤ 8 := by omega
    have d0 : ((L : Int) == 0) = false := by simp; omega
    have d0' : (L == 0) = false := by simp; omega
    have hwf : IntKind.i64.wrap fk = fk := by rw [IntKind.wrap_i64]; omega
    obtain ⟨kk, hkk⟩ : ∃ j : Nat, fk.tmod 8 = j := ⟨(fk.tmod 8).toNat, by rw [Int.tmod_eq_emod_of_nonneg s0]; omega⟩
    have hk8 : kk ≤ 7 := by rw [Int.tmod_eq_emod_of_nonneg s0] at hkk; omega
    have hwk : IntKind.i64.wrap (kk : Int) = kk := by rw [IntKind.wrap_i64]; omega
    obtain ⟨n0, n1⟩ := al_new hL1 hL8
    have CN := hide (fun w => new_any (2 * (L : Int)) (L : Int) w)
    rw [n0] at CN
    generalize nwM (2 * L) L = M0 at *
    have AL := hide n1
    clear n0 n1
    unfold Res at CN
    go_enter Try.func9, Try.ntmps9
    go_wp2_with fail
    refine (awake_any _).mono ?_
    rintro e w1 ⟨rfl, hb⟩
    replace K := hide (btrans K.out hb)
    clear hb
    go_wp2_with fail
    refine (CN.out _).mono ?_
    rintro e w2 ⟨As, cs, Af, cf, rfl, hin, hb⟩
    replace K := hide (btrans K.out hb)
    have I5 := hide hin
    clear hb hin CN
    have M5 := bal (brefl w2) (.cells (cwA M0 As cs Af cf) 28)
    have X5 := hide (Box.new w2 28 (cwA M0 As cs Af cf))
    replace I5 := hide (I5.out.below M5)
    have HG := hide (show w.heap.size ≤ w2.heap.size from K.out.size)
    replace K := hide (btrans K.out M5)
    clear M5
    unfold cwA at X5 I5 K ⊢
    go_upto_region 4 with fail
    obtain ⟨g5, hg5⟩ : ∃ g, g = w2.heap.size := ⟨_, rfl⟩
    rw [← hg5] at X5 HG ⊢
    clear hg5
    generalize w2.alloc (.cells #[.int .i64 M0.sz, .slice As M0.sp.length cs, .slice Af M0.fr.length cf, .int .i64 M0.cp] 28) = w3 at *
    go_wp2
    go_loopw [42] (fun i wr => ∃ (j : Nat) (M : Cow) (As : Option Addr) (cs : Nat) (Af : Option Addr) (cf : Nat), j ≤ L ∧ i = .int .i64 j ∧ Hid (Box wr g5 28 #[.int .i64 M.sz, .slice As M.sp.length cs, .slice Af M.fr.length cf, .int .i64 M.cp]) ∧ Hid (CwIn wr M As cs Af cf) ∧ Hid (Al M L 0 j) ∧ Hid (Below w.heap.size w wr)) (fun i _ => L - (intOf i).toNat)
    case atStart => exact ⟨0, M0, As, cs, Af, cf, Nat.zero_le _, rfl, X5, I5, AL, K⟩
    case round =>
      clear X5 I5 AL K
      obtain ⟨j, M, As, cs, Af, cf, hk, rfl, X5, I5, AL, K⟩ := hrel
      by_cases hlt : j < L
      · have hl2 : (j : Int) < (L : Int) := by omega
        have hk0 : (0 : Int) ≤ (j : Int) := by omega
        obtain ⟨b, off, rfl, hbl, y0⟩ := HR.out _ K.out j (by rw [hL]; exact hlt)
        generalize l.getD j 0 = x at *
        obtain ⟨e0, A2⟩ := AL.out.write1 hlt x
        have C := hide (write_any M As Af cs cf 0 j x wr I5.out (big_of AL.out.v))
        rw [e0] at C
        obtain ⟨M2, hM2⟩ : ∃ M2, M2 = (wrG1 M 0 j x).1 := ⟨_, rfl⟩
        rw [← hM2] at C A2
        have AN := hide A2
        clear hM2 A2 e0
        unfold Res at C
        unfold cwA at C
        obtain ⟨x0, x1, x2, x3⟩ := box4 X5.out
        go_wp2_with fail
        refine C.out.mono ?_
        rintro e w5 ⟨As2, cs2, Af2, cf2, rfl, hin, hb⟩
        replace X5 := hide (X5.out.below hb)
        replace K := hide (btrans K.out hb)
        have I2 := hide hin
        clear hb hin C x0 x1 x2 x3 y0 I5 AL
        obtain ⟨q0, q1, q2, q3⟩ := box4 X5.out
        have f0 := X5.out.frozen 0
        have f1 := X5.out.frozen 1
        have f2 := X5.out.frozen 2
        have f3 := X5.out.frozen 3
        have XN := hide (box4s X5.out (a' := .int .i64 M2.sz) (b' := .slice As2 M2.sp.length cs2) (c' := .slice Af2 M2.fr.length cf2) (d' := .int .i64 M2.cp))
        have IN := hide (I2.out.far4 X5.out (.int .i64 M2.sz) (.slice As2 M2.sp.length cs2) (.slice Af2 M2.fr.length cf2) (.int .i64 M2.cp))
        have KN := hide (below4 K.out HG.out (.int .i64 M2.sz) (.slice As2 M2.sp.length cs2) (.slice Af2 M2.fr.length cf2) (.int .i64 M2.cp))
        go_upto_region 10 with fail
        clear q0 q1 q2 q3 f0 f1 f2 f3 X5 K I2
        generalize (((w5.setCell ⟨g5, 0, none⟩ (.int .i64 M2.sz)).setCell ⟨g5, 1, none⟩ (.slice As2 M2.sp.length cs2)).setCell ⟨g5, 2, none⟩ (.slice Af2 M2.fr.length cf2)).setCell ⟨g5, 3, none⟩ (.int .i64 M2.cp) = w6 at *
        go_wp2
        go_roundw
        case rel => first | exact ⟨j + 1, M2, As2, cs2, Af2, cf2, by omega, by go_num, XN, IN, AN, KN⟩ | ((repeat apply Exists.intro); exact ⟨⟨j + 1, M2, As2, cs2, Af2, cf2, by omega, by go_num, XN, IN, AN, KN⟩, rfl⟩)
        case measure => simp [intOf]; omega
      · obtain rfl : L = j := by omega
        clear hk hlt
        go_wp2
        go_loopw [61] (fun i wr => ∃ (r : Nat) (M : Cow) (As : Option Addr) (cs : Nat) (Af : Option Addr) (cf : Nat), r ≤ kk ∧ i = .int .i64 r ∧ Hid (Box wr g5 28 #[.int .i64 M.sz, .slice As M.sp.length cs, .slice Af M.fr.length cf, .int .i64 M.cp]) ∧ Hid (CwIn wr M As cs Af cf) ∧ Hid (Al M L r L) ∧ Hid (Below w.heap.size w wr)) (fun i _ => kk - (intOf i).toNat)
        case atStart => exact ⟨0, M, As, cs, Af, cf, Nat.zero_le _, rfl, X5, I5, AL, K⟩
        case round =>
          clear X5 I5 AL K
          obtain ⟨r, M, As, cs, Af, cf, hk, rfl, X5, I5, AL, K⟩ := hrel
          by_cases hlt : r < kk
          · have hl2 : (r : Int) < (kk : Int) := by omega
            have hk0 : (0 : Int) ≤ (r : Int) := by omega
            obtain ⟨e1, e2, AN⟩ := AL.out.round (by omega)
            have VF : chE (fkG M 0).1 = 0 := (csE_zero e2).1
            have C := hide (fork_any M As Af cs cf 0 wr I5.out (big_of AL.out.v))
            rw [e1] at C
            obtain ⟨F, hF⟩ : ∃ F, F = (fkG M 0).1 := ⟨_, rfl⟩
            rw [← hF] at C e2 AN VF
            clear e1 hF
            have CE := hide (fun As cs Af cf w (h : CwIn w F As cs Af cf) => exit_any F As Af cs cf (1 + (r : Int)) w h (big_of VF))
            rw [e2] at CE
            obtain ⟨M2, hM2⟩ : ∃ M2, M2 = exG F (1 + (r : Int)) := ⟨_, rfl⟩
            rw [← hM2] at CE AN
            replace AN := hide AN
            clear hM2 e2 VF
            dsimp only at C
            unfold Res3 at C
            unfold Res at CE
            unfold cwA at C CE
            obtain ⟨x0, x1, x2, x3⟩ := box4 X5.out
            go_wp2_with fail
            refine C.out.mono ?_
            rintro e w5 ⟨As1, cs1, Af1, cf1, rfl, hin, hb⟩
            replace X5 := hide (X5.out.below hb)
            replace K := hide (btrans K.out hb)
            have I1 := hide hin
            clear hb hin C x0 x1 x2 x3 I5 AL
            have XA := hide (Box.new w5 28 #[.int .i64 F.sz, .slice As1 F.sp.length cs1, .slice Af1 F.fr.length cf1, .int .i64 F.cp])
            have MA := bal (brefl w5) (.cells #[.int .i64 F.sz, .slice As1 F.sp.length cs1, .slice Af1 F.fr.length cf1, .int .i64 F.cp] 28)
            replace X5 := hide (X5.out.below MA)
            replace I1 := hide (I1.out.below MA)
            replace K := hide (btrans K.out MA)
            clear MA
            go_upto_region 17 with fail
            generalize hgA : w5.heap.size = gA at *
            clear hgA
            generalize w5.alloc (.cells #[.int .i64 F.sz, .slice As1 F.sp.length cs1, .slice Af1 F.fr.length cf1, .int .i64 F.cp] 28) = w7 at *
            obtain ⟨z0, z1, z2, z3⟩ := box4 XA.out
            go_wp2_with fail
            refine (CE.out _ _ _ _ _ I1.out).mono ?_
            rintro e w8 ⟨As2, cs2, Af2, cf2, rfl, hin, hb⟩
            replace X5 := hide (X5.out.below hb)
            replace K := hide (btrans K.out hb)
            have I2 := hide hin
            clear hb hin CE z0 z1 z2 z3 XA I1
            obtain ⟨q0, q1, q2, q3⟩ := box4 X5.out
            have f0 := X5.out.frozen 0
            have f1 := X5.out.frozen 1
            have f2 := X5.out.frozen 2
            have f3 := X5.out.frozen 3
            have XN := hide (box4s X5.out (a' := .int .i64 M2.sz) (b' := .slice As2 M2.sp.length cs2) (c' := .slice Af2 M2.fr.length cf2) (d' := .int .i64 M2.cp))
            have IN := hide (I2.out.far4 X5.out (.int .i64 M2.sz) (.slice As2 M2.sp.length cs2) (.slice Af2 M2.fr.length cf2) (.int .i64 M2.cp))
            have KN := hide (below4 K.out HG.out (.int .i64 M2.sz) (.slice As2 M2.sp.length cs2) (.slice Af2 M2.fr.length cf2) (.int .i64 M2.cp))
            go_upto_region 20 with fail
            clear q0 q1 q2 q3 f0 f1 f2 f3 X5 K I2
            generalize (((w8.setCell ⟨g5, 0, none⟩ (.int .i64 M2.sz)).setCell ⟨g5, 1, none⟩ (.slice As2 M2.sp.length cs2)).setCell ⟨g5, 2, none⟩ (.slice Af2 M2.fr.length cf2)).setCell ⟨g5, 3, none⟩ (.int .i64 M2.cp) = w9 at *
            go_wp2
            go_roundw
            case rel => first | exact ⟨r + 1, M2, As2, cs2, Af2, cf2, by omega, by go_num, XN, IN, AN, KN⟩ | ((repeat apply Exists.intro); exact ⟨⟨r + 1, M2, As2, cs2, Af2, cf2, by omega, by go_num, XN, IN, AN, KN⟩, rfl⟩)
            case measure => simp [intOf]; omega
          · obtain rfl : kk = r := by omega
            clear hk hlt
            have CU := hide (used_any M As Af cs cf wr I5.out (big_of AL.out.v))
            rw [AL.out.used] at CU
            unfold cwA at CU
            obtain ⟨x0, x1, x2, x3⟩ := box4 X5.out
            go_wp2_with fail
            refine CU.out.mono ?_
            rintro e w5 ⟨rfl, hb⟩
            replace X5 := hide (X5.out.below hb)
            replace I5 := hide (I5.out.below hb)
            replace K := hide (btrans K.out hb)
            clear hb CU x0 x1 x2 x3
            go_wp2
            go_loopw [84] (fun i wr => ∃ (j : Nat) (M : Cow) (As : Option Addr) (cs : Nat) (Af : Option Addr) (cf : Nat), j ≤ L ∧ i = .int .i64 j ∧ Hid (Box wr g5 28 #[.int .i64 M.sz, .slice As M.sp.length cs, .slice Af M.fr.length cf, .int .i64 M.cp]) ∧ Hid (CwIn wr M As cs Af cf) ∧ Hid (Al M L kk L) ∧ Hid (Below w.heap.size w wr)) (fun i _ => L - (intOf i).toNat)
            case atStart => exact ⟨0, M, As, cs, Af, cf, Nat.zero_le _, rfl, X5, I5, AL, K⟩
            case round =>
              clear X5 I5 AL K
              obtain ⟨j, M, As, cs, Af, cf, hk, rfl, X5, I5, AL, K⟩ := hrel
              by_cases hlt : j < L
              · have hl2 : (j : Int) < (L : Int) := by omega
                have hk0 : (0 : Int) ≤ (j : Int) := by omega
                obtain ⟨b, off, rfl, hbl, y0⟩ := HR.out _ K.out j (by rw [hL]; exact hlt)
                generalize l.getD j 0 = x at *
                obtain ⟨e0, A2⟩ := AL.out.write2 hlt x
                have C := hide (write_any M As Af cs cf 0 j x wr I5.out (big_of AL.out.v))
                rw [e0] at C
                obtain ⟨M2, hM2⟩ : ∃ M2, M2 = (wrG1 M 0 j x).1 := ⟨_, rfl⟩
                rw [← hM2] at C A2
                have AN := hide A2
                clear hM2 A2 e0
                unfold Res at C
                unfold cwA at C
                obtain ⟨x0, x1, x2, x3⟩ := box4 X5.out
                go_wp2_with fail
                refine C.out.mono ?_
                rintro e w5 ⟨As2, cs2, Af2, cf2, rfl, hin, hb⟩
                replace X5 := hide (X5.out.below hb)
                replace K := hide (btrans K.out hb)
                have I2 := hide hin
                clear hb hin C x0 x1 x2 x3 y0 I5 AL
                obtain ⟨q0, q1, q2, q3⟩ := box4 X5.out
                have f0 := X5.out.frozen 0
                have f1 := X5.out.frozen 1
                have f2 := X5.out.frozen 2
                have f3 := X5.out.frozen 3
                have XN := hide (box4s X5.out (a' := .int .i64 M2.sz) (b' := .slice As2 M2.sp.length cs2) (c' := .slice Af2 M2.fr.length cf2) (d' := .int .i64 M2.cp))
                have IN := hide (I2.out.far4 X5.out (.int .i64 M2.sz) (.slice As2 M2.sp.length cs2) (.slice Af2 M2.fr.length cf2) (.int .i64 M2.cp))
                have KN := hide (below4 K.out HG.out (.int .i64 M2.sz) (.slice As2 M2.sp.length cs2) (.slice Af2 M2.fr.length cf2) (.int .i64 M2.cp))
                go_upto_region 28 with fail
                clear q0 q1 q2 q3 f0 f1 f2 f3 X5 K I2
                generalize (((w5.setCell ⟨g5, 0, none⟩ (.int .i64 M2.sz)).setCell ⟨g5, 1, none⟩ (.slice As2 M2.sp.length cs2)).setCell ⟨g5, 2, none⟩ (.slice Af2 M2.fr.length cf2)).setCell ⟨g5, 3, none⟩ (.int .i64 M2.cp) = w6 at *
                go_wp2
                go_roundw
                case rel => first | exact ⟨j + 1, M2, As2, cs2, Af2, cf2, by omega, by go_num, XN, IN, AN, KN⟩ | ((repeat apply Exists.intro); exact ⟨⟨j + 1, M2, As2, cs2, Af2, cf2, by omega, by go_num, XN, IN, AN, KN⟩, rfl⟩)
                case measure => simp [intOf]; omega
              · obtain rfl : L = j := by omega
                have CU := hide (used_any M As Af cs cf wr I5.out (big_of AL.out.v))
                rw [AL.out.used] at CU
                unfold cwA at CU
                rw [AL.out.cp] at CU X5
                obtain ⟨x0, x1, x2, x3⟩ := box4 X5.out
                go_wp2_with fail
                refine CU.out.mono ?_
                rintro e w6 ⟨rfl, hb⟩
                replace X5 := hide (X5.out.below hb)
                replace K := hide (btrans K.out hb)
                clear hb CU x0 x1 x2 x3
                obtain ⟨x0, x1, x2, x3⟩ := box4 X5.out
                go_wp2
                go_ret
                exact ⟨by simp, K.out⟩
end Go.Proofs.Ytoogdggiemacjaa.Cw
