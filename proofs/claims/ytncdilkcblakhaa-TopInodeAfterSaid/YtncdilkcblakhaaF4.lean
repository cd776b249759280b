import Derived.Test.YtncdilkcblakhaaF3
namespace Go.Proofs.Ytncdilkcblakhaa.In
open Go Go.RowKit
set_option linter.unusedVariables false
set_option linter.unusedSimpArgs false
set_option maxRecDepth 100000 in
set_option maxHeartbeats 4000000 in
theorem renc_any (s m : Int) (w : World) : Calls Try.prog 15 #[.int .i64 s, .int .i64 m] w (EnR s m w) := by
  by_cases h12 : 0 ≤ s ∧ s ≤ 16
  · have C2 := hide (fun w => rismask_any m s w h12)
    by_cases h34 : 0 ≤ m ∧ m < 2 ^ s.toNat
    · rw [decide_eq_true h34] at C2
      have E0 := eE_of h12 h34
      have EB : eB s m = blk s m := if_pos E0
      have bd := eE_bd E0
      have MK := fun w => makeB w
      have u1 : IntKind.u8.wrap s = s := by rw [IntKind.wrap_u8']; omega
      have t1 : m.tmod 256 = m % 256 := Int.tmod_eq_emod_of_nonneg bd.2.2.1
      have t2 : m.tdiv 256 = m / 256 := Int.tdiv_eq_ediv_of_nonneg bd.2.2.1
      have u2 : IntKind.u8.wrap (m % 256) = m % 256 := by rw [IntKind.wrap_u8']; omega
      have u3 : IntKind.u8.wrap (m / 256) = m / 256 := by rw [IntKind.wrap_u8']; omega
      have n1 : ¬ s < 0 := by omega
      have n2 : ¬ 16 < s := by omega
      have EN := hide (show EnR s m w = fun e w' => ∃ A c, e = .returned (.tuple #[.slice A 32 c, .int .i64 0]) ∧ OwB w.heap.size w' (.slice A 32 c) (blk s m) ∧ Below w.heap.size w w' by
        funext e w'; unfold EnR; rw [EB, E0, blk_len])
      rw [EN.out]
      have HBY := hide (blk_byt E0)
      clear h34 E0 EN EB
      go_enter Try.func15, Try.ntmps15
      go_wp2_with fail
      refine (C2.out _).mono ?_
      rintro e w' ⟨rfl, rfl⟩
      have X := hide (bk_new w)
      have K := hide (bal (brefl w) (.cells Z32 5))
      clear C2
      go_upto_region 6 with fail
      obtain ⟨g, hg⟩ : ∃ g, g = w.heap.size := ⟨_, rfl⟩
      have HG := hide (show w.heap.size ≤ g by omega)
      rw [← hg] at X ⊢
      clear hg
      generalize w.alloc (.cells Z32 5) = w1 at *
      have x0 := X.out.cell (i := 0) (by decide)
      have x1 := X.out.cell (i := 1) (by decide)
      have x2 := X.out.cell (i := 2) (by decide)
      have x3 := X.out.cell (i := 3) (by decide)
      have f0 := X.out.frozen 0
      have f1 := X.out.frozen 1
      have f2 := X.out.frozen 2
      have f3 := X.out.frozen 3
      have hgw := Box.lt X.out
      go_upto_region 7 with fail
      replace K := hide (bset (bset (bset (bset K.out (p := ⟨g, 0, none⟩) HG.out (.int .u8 73)) (p := ⟨g, 1, none⟩) HG.out (.int .u8 78)) (p := ⟨g, 2, none⟩) HG.out (.int .u8 79)) (p := ⟨g, 3, none⟩) HG.out (.int .u8 68))
      replace X := hide ((((X.out.put 0 73).put 1 78).put 2 79).put 3 68)
      clear x0 x1 x2 x3 f0 f1 f2 f3 hgw
      change Hid (Bk _ g c32) at X
      generalize (((w1.setCell ⟨g, 0, none⟩ (.int .u8 73)).setCell ⟨g, 1, none⟩ (.int .u8 78)).setCell ⟨g, 2, none⟩ (.int .u8 79)).setCell ⟨g, 3, none⟩ (.int .u8 68) = w2 at *
      have x4 := X.out.cell (i := 4) (by decide)
      have f4 := X.out.frozen 4
      have hgw := Box.lt X.out
      go_upto_region 8 with fail
      replace K := hide (bset K.out (p := ⟨g, 4, none⟩) HG.out (.int .u8 s))
      replace X := hide (X.out.put 4 s)
      clear x4 f4 hgw
      generalize w2.setCell ⟨g, 4, none⟩ (.int .u8 s) = w3 at *
      have x5 := X.out.cell (i := 5) (by simp [c32])
      have f5 := X.out.frozen 5
      have hgw := Box.lt X.out
      go_upto_region 9 with fail
      replace K := hide (bset K.out (p := ⟨g, 5, none⟩) HG.out (.int .u8 (m % 256)))
      replace X := hide (X.out.put 5 (m % 256))
      clear x5 f5 hgw
      generalize w3.setCell ⟨g, 5, none⟩ (.int .u8 (m % 256)) = w4 at *
      have x6 := X.out.cell (i := 6) (by simp [c32])
      have f6 := X.out.frozen 6
      have hgw := Box.lt X.out
      go_upto_region 10 with fail
      replace K := hide (bset K.out (p := ⟨g, 6, none⟩) HG.out (.int .u8 (m / 256)))
      replace X := hide (X.out.put 6 (m / 256))
      clear x6 f6 hgw
      generalize w4.setCell ⟨g, 6, none⟩ (.int .u8 (m / 256)) = w5 at *
      have SMX : sm (((c32.set 4 s).set 5 (m % 256)).set 6 (m / 256)) 7 % 251 = ckb s m := by
        show (73 + (78 + (79 + (68 + (s + (m % 256 + (m / 256 + 0)))))) : Int) % 251 = ckb s m
        unfold ckb
        congr 1
        omega
      have BY : Byt (((c32.set 4 s).set 5 (m % 256)).set 6 (m / 256)) := by
        intro x hx
        rw [show ((c32.set 4 s).set 5 (m % 256)).set 6 (m / 256) = [73, 78, 79, 68, s, m % 256, m / 256] ++ List.replicate 25 0 from rfl] at hx
        simp only [List.mem_append, List.mem_cons, List.not_mem_nil, or_false, List.mem_replicate] at hx
        omega
      have FL := hide (fin_list s m _ _ _ rfl rfl rfl)
      have LL : (((c32.set 4 s).set 5 (m % 256)).set 6 (m / 256)).length = 32 := by simp [c32]
      generalize ((c32.set 4 s).set 5 (m % 256)).set 6 (m / 256) = l at *
      have HB := hide (fun k (hk : k ≤ l.length) => sm_bd BY k hk)
      have HY := hide BY
      have HS := hide SMX
      clear BY SMX
      go_wp2
      go_loopw [7, 8] (fun a i wr => ∃ k : Nat, k ≤ 7 ∧ i = .int .i64 k ∧ a = .int .i64 (sm l k) ∧ wr = w5) (fun _ i _ => 7 - (intOf i).toNat)
      case atStart => exact ⟨0, Nat.zero_le _, rfl, rfl, rfl⟩
      case round =>
        obtain ⟨k, hk, rfl, rfl, rfl⟩ := hrel
        have hs := HB.out k (by omega)
        by_cases hlt : k < 7
        · have hl2 : (k : Int) < 7 := by omega
          have hk0 : (0 : Int) ≤ (k : Int) := by omega
          have hk32 : (k : Int) < 32 := by omega
          have xx := X.out.cell (i := k) (by omega)
          have hy := HY.out.at (show k < l.length by omega)
          have E := hide (sm_succ (show k < l.length by omega))
          generalize l.getD k 0 = x at *
          generalize sm l k = t at *
          have w1 : IntKind.i64.wrap x = x := by rw [IntKind.wrap_i64]; omega
          have w2 : IntKind.i64.wrap (t + x) = t + x := by rw [IntKind.wrap_i64]; omega
          go_wp2
          go_roundw
          case rel => exact ⟨k + 1, by omega, by go_num, by rw [E.out], trivial⟩
          case measure => simp [intOf]; omega
        · obtain rfl : k = 7 := by omega
          obtain ⟨t, hs2⟩ : ∃ t, t = sm l 7 := ⟨_, rfl⟩
          have E := hide hs2
          rw [← hs2] at hs HS ⊢
          clear hs2
          have w1 : t.tmod 251 = t % 251 := Int.tmod_eq_emod_of_nonneg hs.1
          have w2 : IntKind.u8.wrap (t % 251) = t % 251 := by rw [IntKind.wrap_u8']; omega
          have x7 := X.out.cell (i := 7) (by omega)
          have f7 := X.out.frozen 7
          have hgw := Box.lt X.out
          go_upto_region 16 with fail
          have hc := HS.out
          rw [hc]
          replace K := hide (bset K.out (p := ⟨g, 7, none⟩) HG.out (.int .u8 (ckb s m)))
          replace X := hide (X.out.put 7 (ckb s m))
          rw [FL.out] at X
          clear x7 f7 hgw hc
          go_wp2
          go_ret2
          refine ⟨_, _, rfl, ?_, K.out⟩
          have := X.out.own HG.out (by rw [blk_len]; omega)
          rwa [blk_len] at this
    · rw [decide_eq_false h34] at C2
      have n1 : ¬ s < 0 := by omega
      have n2 : ¬ 16 < s := by omega
      have E0 : eE s m = 3 := by unfold eE; rw [if_neg (by omega), if_pos h34]
      have EN := hide (fun w' (hb : Below w.heap.size w w') => en_no (s := s) (m := m) (by rw [E0]; omega) hb)
      rw [E0] at EN
      clear h34 E0
      go_enter Try.func15, Try.ntmps15
      go_wp2_with fail
      refine (C2.out _).mono ?_
      rintro e w' ⟨rfl, rfl⟩
      go_wp2
      go_ret2
      exact EN.out _ (brefl _)
  · have E0 : eE s m = 2 := by unfold eE; rw [if_pos h12]
    have EN := hide (fun w' (hb : Below w.heap.size w w') => en_no (s := s) (m := m) (by rw [E0]; omega) hb)
    rw [E0] at EN
    clear E0
    by_cases n1 : s < 0
    · clear h12
      go_enter Try.func15, Try.ntmps15
      go_wp2
      go_ret2
      exact EN.out _ (brefl _)
    · have n2 : 16 < s := by omega
      clear h12
      go_enter Try.func15, Try.ntmps15
      go_wp2
      go_ret2
      exact EN.out _ (brefl _)
end Go.Proofs.Ytncdilkcblakhaa.In
