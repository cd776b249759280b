import Derived.Test.YtoogdggiemacjaaAw
import Derived.Test.YtoogdggiemacjaaV3
import Derived.Test.YtoogdggiemacjaaRd
namespace Go.Proofs.Ytoogdggiemacjaa.Cw
open Go Go.RowKit
set_option linter.unusedVariables false
set_option linter.unusedSimpArgs false
theorem big_of {M : Cow} (V : chE M = 0) : Big M := by
  obtain ⟨z, f, _⟩ := chE_zero V
  unfold szG at z
  refine ⟨by omega, by omega, fun k hk => ?_⟩
  have := (f _ (sAt_mem hk)).1
  unfold lnG at this
  split at this <;> omega
theorem new_val {f s : Int} (hf : 1 ≤ f ∧ f ≤ 256) (hs : 1 ≤ s ∧ s ≤ 512) : nwG f s = (nwM f.toNat s.toNat, 0) ∧ chE (nwM f.toNat s.toNat) = 0 ∧ (nwM f.toNat s.toNat).sz = s ∧ ((nwM f.toNat s.toNat).fr.length : Int) = f := by
  refine ⟨if_pos ⟨hf, hs⟩, ?_, by show ((s.toNat : Nat) : Int) = s; omega, by show (((List.replicate f.toNat ((0 : Int), (0 : Int))).length : Nat) : Int) = f; rw [List.length_replicate]; omega⟩
  have hc : ∀ k : Nat, cnS (k : Int) (nwM f.toNat s.toNat).sp = 0 := fun k => by
    show cnS (k : Int) [(true, List.replicate s.toNat ((-1 : Int), false))] = 0
    unfold cnS cnP
    simp [List.countP_replicate]

  refine chE_of ⟨?_, fun t ht => ?_, fun k hk => ?_, fun t ht r hr hr2 => ?_⟩
  · unfold szG
    show (1 ≤ ((s.toNat : Nat) : Int) ∧ ((s.toNat : Nat) : Int) ≤ 512) ∧ (1 ≤ 1 ∧ 1 ≤ 8) ∧ (1 ≤ (List.replicate f.toNat ((0 : Int), (0 : Int))).length ∧ (List.replicate f.toNat ((0 : Int), (0 : Int))).length ≤ 256) ∧ (0 : Int) ≤ 0 ∧ (0 : Int) ≤ 1048576
    rw [List.length_replicate]
    omega
  · have : t = (true, List.replicate s.toNat ((-1 : Int), false)) := by simpa [nwM] using ht
    subst this
    refine ⟨by unfold lnG; simp [nwM], fun p hp => .inl (List.mem_replicate.1 hp).2⟩
  · unfold frG
    rw [hc k]
    have hk2 : k < f.toNat := by have : k < (List.replicate f.toNat ((0 : Int), (0 : Int))).length := hk
                                 simpa using this
    have e : fAt (nwM f.toNat s.toNat).fr k = (0, 0) := by
      show fAt (List.replicate f.toNat ((0 : Int), (0 : Int))) k = _
      unfold fAt
      rw [List.getD_eq_getElem?_getD, List.getElem?_replicate, if_pos hk2]; rfl
    rw [e]
    exact ⟨rfl, fun _ => rfl⟩
  · have : t = (true, List.replicate s.toNat ((-1 : Int), false)) := by simpa [nwM] using ht
    subst this
    have := (List.mem_replicate.1 hr).2
    rw [this] at hr2; cases hr2
set_option maxRecDepth 100000 in
set_option maxHeartbeats 16000000 in
theorem law_room (sz : Int) (A : Option Addr) (c : Nat) (L : List (Int × Int × Int × Int)) (w : World) (s0 : 0 ≤ sz) (s1 : sz < 256) (h : RdOp w A L) (hn : L.length ≤ 9223372036854775807) : Calls Try.prog 8 #[.int .u8 sz, .slice A L.length c] w fun e w' => e = .returned (.bool true) ∧ Below w.heap.size w w' := by
  have K := hide (brefl w)
  by_cases h3 : (40 : Int) < (L.length : Int)
  · clear h
    go_enter Try.func8, Try.ntmps8
    go_wp2_with fail
    refine (awake_any _).mono ?_
    rintro e w1 ⟨rfl, hb⟩
    replace K := hide (btrans K.out hb)
    clear hb
    go_wp2_with fail
    refine (awake_any _).mono ?_
    rintro e w2 ⟨rfl, hb⟩
    replace K := hide (btrans K.out hb)
    clear hb
    go_wp2
    go_ret
    exact ⟨rfl, K.out⟩
  · have HR := hide (fun w' (hb : Below w.heap.size w w') k (hk : k < L.length) => h.cells hb hk)
    clear h
    have hws : IntKind.i64.wrap sz = sz := by rw [IntKind.wrap_i64]; omega
    obtain ⟨j, hj⟩ : ∃ j : Nat, sz.tmod 4 = j := ⟨(sz.tmod 4).toNat, by rw [Int.tmod_eq_emod_of_nonneg s0]; omega⟩
    have hj4 : j < 4 := by rw [Int.tmod_eq_emod_of_nonneg s0] at hj; omega
    have hwj : IntKind.i64.wrap (j : Int) = j := by rw [IntKind.wrap_i64]; omega
    obtain ⟨n0, n1, n2, n3⟩ := new_val (f := (1 + (j : Int)) * 8) (s := 1 + (j : Int)) (by omega) (by omega)
    have CN := hide (fun w => new_any ((1 + (j : Int)) * 8) (1 + (j : Int)) w)
    rw [n0] at CN
    obtain ⟨M0, hM0⟩ : ∃ M0, M0 = nwM ((1 + (j : Int)) * 8).toNat (1 + (j : Int)).toNat := ⟨_, rfl⟩
    rw [← hM0] at CN n1 n2 n3
    have VM := hide (show chE M0 = 0 ∧ (M0.fr.length : Int) = M0.sz * 8 from ⟨n1, by rw [n2, n3]⟩)
    clear n0 n1 n2 n3 hM0
    unfold Res at CN
    go_enter Try.func8, Try.ntmps8
    go_wp2_with fail
    refine (awake_any _).mono ?_
    rintro e w1 ⟨rfl, hb⟩
    replace K := hide (btrans K.out hb)
    clear hb
    go_wp2_with fail
    refine (CN.out _).mono ?_
    rintro e w2 ⟨As, cs, Af, cf, rfl, hin, hb⟩
    replace K := hide (btrans K.out hb)
    have I6 := hide hin
    clear hb hin CN
    have M6 := bal (brefl w2) (.cells (cwA M0 As cs Af cf) 28)
    have X6 := hide (Box.new w2 28 (cwA M0 As cs Af cf))
    replace I6 := hide (I6.out.below M6)
    have HG := hide (show w.heap.size ≤ w2.heap.size from K.out.size)
    replace K := hide (btrans K.out M6)
    clear M6
    unfold cwA at X6 I6 K ⊢
    go_upto_region 5 with fail
    obtain ⟨g6, hg6⟩ : ∃ g, g = w2.heap.size := ⟨_, rfl⟩
    rw [← hg6] at X6 HG ⊢
    clear hg6
    generalize w2.alloc (.cells #[.int .i64 M0.sz, .slice As M0.sp.length cs, .slice Af M0.fr.length cf, .int .i64 M0.cp] 28) = w3 at *
    go_wp2
    go_loopw [36] (fun i wr => ∃ (k : Nat) (M : Cow) (As : Option Addr) (cs : Nat) (Af : Option Addr) (cf : Nat), k ≤ L.length ∧ i = .int .i64 k ∧ Hid (Box wr g6 28 #[.int .i64 M.sz, .slice As M.sp.length cs, .slice Af M.fr.length cf, .int .i64 M.cp]) ∧ Hid (CwIn wr M As cs Af cf) ∧ Hid (chE M = 0 ∧ (M.fr.length : Int) = M.sz * 8) ∧ Hid (Below w.heap.size w wr)) (fun i _ => L.length - (intOf i).toNat)
    case atStart => exact ⟨0, M0, As, cs, Af, cf, Nat.zero_le _, rfl, X6, I6, VM, K⟩
    case round =>
      clear X6 I6 VM K
      obtain ⟨k, M, As, cs, Af, cf, hk, rfl, X6, I6, VM, K⟩ := hrel
      by_cases hlt : k < L.length
      · have hl2 : (k : Int) < (L.length : Int) := by omega
        have hk0 : (0 : Int) ≤ (k : Int) := by omega
        obtain ⟨b, off, rfl, hbl, y0, y1, y2, y3⟩ := HR.out _ K.out k hlt
        rcases hop : opA L k with ⟨kd, s, p, x⟩
        rw [hop] at y0 y1 y2 y3
        dsimp only at y0 y1 y2 y3
        clear hop
        have X9 := hide (Box.new wr 33 #[.int .i64 kd, .int .i64 s, .int .i64 p, .int .i64 x])
        have M9 := bal (brefl wr) (.cells #[.int .i64 kd, .int .i64 s, .int .i64 p, .int .i64 x] 33)
        replace X6 := hide (X6.out.below M9)
        replace I6 := hide (I6.out.below M9)
        replace K := hide (btrans K.out M9)
        clear M9
        go_upto_region 10 with fail
        generalize hg9 : wr.heap.size = g9 at *
        clear hg9 y0 y1 y2 y3
        generalize wr.alloc (.cells #[.int .i64 kd, .int .i64 s, .int .i64 p, .int .i64 x] 33) = w4 at *
        have C := hide (play_any M As Af cs cf kd s p x w4 I6.out (big_of VM.out.1))
        have NM := hide (room_play VM.out.1 VM.out.2 kd s p x)
        have VP := hide (fun hk he => val_play (M := M) (k := kd) (s := s) (p := p) (x := x) he hk)
        obtain ⟨⟨M2, nr, er⟩, hpl⟩ : ∃ q, q = plG M kd s p x := ⟨_, rfl⟩
        rw [← hpl] at C NM VP
        clear hpl
        dsimp only at C NM VP
        unfold Res3 at C
        unfold cwA at C
        obtain ⟨x0, x1, x2, x3⟩ := box4 X6.out
        obtain ⟨y0, y1, y2, y3⟩ := box4 X9.out
        go_wp2_with fail
        refine C.out.mono ?_
        rintro e w5 ⟨As2, cs2, Af2, cf2, rfl, hin, hb⟩
        replace X6 := hide (X6.out.below hb)
        replace X9 := hide (X9.out.below hb)
        replace I6 := hide (I6.out.below hb)
        replace K := hide (btrans K.out hb)
        have I2 := hide hin
        clear hb hin C x0 x1 x2 x3 y0 y1 y2 y3
        have XA := hide (Box.new w5 28 #[.int .i64 M2.sz, .slice As2 M2.sp.length cs2, .slice Af2 M2.fr.length cf2, .int .i64 M2.cp])
        have MA := bal (brefl w5) (.cells #[.int .i64 M2.sz, .slice As2 M2.sp.length cs2, .slice Af2 M2.fr.length cf2, .int .i64 M2.cp] 28)
        replace X6 := hide (X6.out.below MA)
        replace X9 := hide (X9.out.below MA)
        replace I6 := hide (I6.out.below MA)
        replace I2 := hide (I2.out.below MA)
        replace K := hide (btrans K.out MA)
        clear MA
        go_upto_region 11 with fail
        generalize hgA : w5.heap.size = gA at *
        clear hgA
        generalize w5.alloc (.cells #[.int .i64 M2.sz, .slice As2 M2.sp.length cs2, .slice Af2 M2.fr.length cf2, .int .i64 M2.cp] 28) = w6 at *
        obtain ⟨y0, y1, y2, y3⟩ := box4 X9.out
        have d16 : (er == 16) = false := by simpa using NM.out
        by_cases he : er = 0
        · have d0 : (er == 0) = true := by simp [he]
          by_cases k0 : 0 ≤ kd
          · have dk : decide (0 ≤ kd) = true := by simpa using k0
            by_cases k3 : kd ≤ 3
            · have dk3 : decide (kd ≤ 3) = true := by simpa using k3
              obtain ⟨v1, v2, v3⟩ := VP.out (by omega) he
              have VM2 := hide (show chE M2 = 0 ∧ (M2.fr.length : Int) = M2.sz * 8 from ⟨v1, by rw [v2, v3]; exact VM.out.2⟩)
              clear VP v1 v2 v3 he NM
              obtain ⟨z0, z1, z2, z3⟩ := box4 XA.out
              obtain ⟨q0, q1, q2, q3⟩ := box4 X6.out
              have f0 := X6.out.frozen 0
              have f1 := X6.out.frozen 1
              have f2 := X6.out.frozen 2
              have f3 := X6.out.frozen 3
              have XN := hide (box4s X6.out (a' := .int .i64 M2.sz) (b' := .slice As2 M2.sp.length cs2) (c' := .slice Af2 M2.fr.length cf2) (d' := .int .i64 M2.cp))
              have IN := hide (I2.out.far4 X6.out (.int .i64 M2.sz) (.slice As2 M2.sp.length cs2) (.slice Af2 M2.fr.length cf2) (.int .i64 M2.cp))
              have KN := hide (below4 K.out HG.out (.int .i64 M2.sz) (.slice As2 M2.sp.length cs2) (.slice Af2 M2.fr.length cf2) (.int .i64 M2.cp))
              go_upto_region 15 with fail
              clear z0 z1 z2 z3 q0 q1 q2 q3 f0 f1 f2 f3 y0 y1 y2 y3 X6 I6 K VM
              generalize (((w6.setCell ⟨g6, 0, none⟩ (.int .i64 M2.sz)).setCell ⟨g6, 1, none⟩ (.slice As2 M2.sp.length cs2)).setCell ⟨g6, 2, none⟩ (.slice Af2 M2.fr.length cf2)).setCell ⟨g6, 3, none⟩ (.int .i64 M2.cp) = w7 at *
              go_wp2
              go_roundw
              case rel => first | exact ⟨k + 1, M2, As2, cs2, Af2, cf2, by omega, by go_num, XN, IN, VM2, KN⟩ | ((repeat apply Exists.intro); exact ⟨⟨k + 1, M2, As2, cs2, Af2, cf2, by omega, by go_num, XN, IN, VM2, KN⟩, rfl⟩)
              case measure => simp [intOf]; omega
            · have dk3 : decide (kd ≤ 3) = false := by simpa using k3
              clear VP he NM
              go_wp2
              go_roundw
              case rel => first | exact ⟨k + 1, M, As, cs, Af, cf, by omega, by go_num, X6, I6, VM, K⟩ | ((repeat apply Exists.intro); exact ⟨⟨k + 1, M, As, cs, Af, cf, by omega, by go_num, X6, I6, VM, K⟩, rfl⟩)
              case measure => simp [intOf]; omega
          · have dk : decide (0 ≤ kd) = false := by simpa using k0
            clear VP he NM
            go_wp2
            go_roundw
            case rel => first | exact ⟨k + 1, M, As, cs, Af, cf, by omega, by go_num, X6, I6, VM, K⟩ | ((repeat apply Exists.intro); exact ⟨⟨k + 1, M, As, cs, Af, cf, by omega, by go_num, X6, I6, VM, K⟩, rfl⟩)
            case measure => simp [intOf]; omega
        · have d0 : (er == 0) = false := by simp [he]
          clear VP he NM
          go_wp2
          go_roundw
          case rel => first | exact ⟨k + 1, M, As, cs, Af, cf, by omega, by go_num, X6, I6, VM, K⟩ | ((repeat apply Exists.intro); exact ⟨⟨k + 1, M, As, cs, Af, cf, by omega, by go_num, X6, I6, VM, K⟩, rfl⟩)
          case measure => simp [intOf]; omega
      · obtain rfl : k = L.length := by omega
        obtain ⟨x0, x1, x2, x3⟩ := box4 X6.out
        have C := hide (check_any M As Af cs cf wr I6.out (big_of VM.out.1))
        rw [VM.out.1] at C
        unfold cwA at C
        go_wp2_with fail
        refine C.out.mono ?_
        rintro e w5 ⟨rfl, hb⟩
        replace K := hide (btrans K.out hb)
        clear hb
        go_wp2
        go_ret
        exact ⟨rfl, K.out⟩
end Go.Proofs.Ytoogdggiemacjaa.Cw
