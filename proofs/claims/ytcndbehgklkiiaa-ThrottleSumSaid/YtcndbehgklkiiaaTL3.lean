import Derived.Test.YtcndbehgklkiiaaTM
namespace Go.Proofs.Ytcndbehgklkiiaa.Ac
open Go Go.RowKit
set_option linter.unusedVariables false
set_option linter.unusedSimpArgs false
set_option maxRecDepth 100000 in
set_option maxHeartbeats 8000000 in
theorem law_sum (A : Option Addr) (cp : Nat) (L : List A5) (m : Int) (w : World) (hr : As w A L) (hcp : L.length ≤ cp) (hn : L.length ≤ 9223372036854775807) (hm0 : 0 ≤ m) (hm1 : m < 65536) : Calls Try.prog 13 #[.slice A L.length cp, .int .u16 m] w fun e w' => e = .returned (.bool true) ∧ Below w.heap.size w w' := by
  have CA := hide (fun w => awake_any w)
  have CR := hide (fun w' (h : Below w.heap.size w w') => rcheck_any A cp L w' (hr.below h) hn)
  have K := hide (brefl w)
  by_cases h0 : chE L = 0
  · have V := vd_of h0
    rw [h0] at CR
    have CS := hide (fun (k : Nat) (hk : k < L.length) w' (h : Below w.heap.size w w') => share_any A cp L m k w' (hr.below h) hcp hn)
    have HR := hide (fun w' (h : Below w.heap.size w w') k (hk : k < L.length) => hr.cells h hk)
    have OK := hide (fun (k : Nat) (hk : k < L.length) => sh_ok V hm0 (show m ≤ 1048576 by omega) hk)
    have TR := hide V.tr.2
    have hl0 : (0 : Int) < (L.length : Int) := by have := V.len.1; omega
    have h8 := V.len.2
    have BD := hide (fun (k : Nat) (hk : k ≤ L.length) (x : Nat) => sm_bd V hm0 (show m ≤ 1048576 by omega) hk x)
    have ROOT := hide (sh_root V hm0 (show m ≤ 1048576 by omega))
    have SUM := hide (fun (ht : us L 0 ≠ 0) (x : Nat) (hx : x < L.length) => sh_sum V hm0 (show m ≤ 1048576 by omega) ht hx)
    clear hr hcp hn h0 V
    have hwm : IntKind.i64.wrap m = m := by rw [IntKind.wrap_i64]; omega
    obtain ⟨n, hn⟩ : ∃ n, n = L.length := ⟨_, rfl⟩
    rw [← hn] at hl0 h8 CS OK BD TR SUM CR HR ⊢
    clear hn
    go_enter Try.func13, Try.ntmps13
    go_wp2_with fail
    refine (CA.out _).mono ?_
    rintro e w1 ⟨rfl, hb⟩
    replace K := hide (btrans K.out hb)
    clear hb
    go_wp2_with fail
    refine (CR.out _ K.out).mono ?_
    rintro e w2 ⟨rfl, hb⟩
    replace K := hide (btrans K.out hb)
    clear hb CR CA
    obtain ⟨zz, hzz⟩ : ∃ zz : Array Value, zz = madeCells #[.int .i64 0] n := ⟨_, rfl⟩
    have hmk : ∀ w, (Instr.makeSlice 56 (.int .i64 (n : Int)) (.int .i64 (n : Int))).run Try.prog w = .ok (.slice (some ⟨w.heap.size, 0, none⟩) n n) (w.alloc (.cells zz 3)) := fun w => by rw [hzz]; exact makeN w n (by omega)
    have S := hide (show RI (w2.alloc (.cells zz 3)) w2.heap.size n (smF L m 0) by rw [hzz]; exact RI.made w2 n _ (fun x _ => rfl))
    have HZ := hide hzz
    clear hzz
    have M := bal (brefl w2) (.cells zz 3)
    have HG := hide (show w.heap.size ≤ w2.heap.size from K.out.size)
    replace K := hide (btrans K.out M)
    clear M
    go_upto_region 4 with fail
    obtain ⟨g, hg⟩ : ∃ g, g = w2.heap.size := ⟨_, rfl⟩
    rw [← hg] at S HG ⊢
    generalize w2.alloc (.cells zz 3) = w3 at *
    clear hg
    have T := hide (show RI (w3.alloc (.cells zz 3)) w3.heap.size n (fun _ => 0) by rw [HZ.out]; exact RI.made w3 n _ (fun x _ => rfl))
    have M := bal (brefl w3) (.cells zz 3)
    have HH := hide (show w.heap.size ≤ w3.heap.size from K.out.size)
    have GH := hide (show g < w3.heap.size from S.out.lt)
    replace S := hide (S.out.below M)
    replace K := hide (btrans K.out M)
    clear M
    go_upto_region 5 with fail
    obtain ⟨g2, hg⟩ : ∃ g, g = w3.heap.size := ⟨_, rfl⟩
    rw [← hg] at T HH GH ⊢
    generalize w3.alloc (.cells zz 3) = w4 at *
    have hne : g ≠ g2 := by have := GH.out; omega
    clear hg hmk HZ GH
    go_wp2
    go_loopw [27] (fun c wr => ∃ (k : Nat) (f : Nat → Int), k ≤ n ∧ c = .int .i64 k ∧ Hid (RI wr g n (smF L m k)) ∧ Hid (RI wr g2 n f) ∧ Hid (∀ x, x < k → f x = shV L m x) ∧ Hid (Below w.heap.size w wr)) (fun c _ => n - (intOf c).toNat)
    case atStart => exact ⟨0, _, Nat.zero_le _, rfl, S, T, hide (fun x hx => absurd hx (Nat.not_lt_zero _)), K⟩
    case round =>
      clear S K T
      obtain ⟨k, f, hk, rfl, S, T, FX, K⟩ := hrel
      by_cases hlt : k < n
      · have hl2 : (k : Int) < (n : Int) := by omega
        have hk0 : (0 : Int) ≤ (k : Int) := by omega
        have C := hide (CS.out k hlt _ K.out)
        obtain ⟨e0, e1, e2⟩ := OK.out k hlt
        rw [e0] at C
        clear e0
        have NXT := hide (fun (p : Nat) (h0 : 0 < k) (hp : pa L k = p) x => sm_k (m := m) h0 hp x)
        have NX0 := hide (fun (h0 : k = 0) x => show smF L m (k + 1) x = smF L m k x by subst h0; exact sm_0 L m x)
        have TRK := hide (TR.out k hlt)
        have BK := hide (BD.out k hk)
        have FN := hide (fun x (hx : x < k + 1) => show (if x = k then shV L m k else f x) = shV L m x by
          by_cases e : x = k
          · rw [if_pos e, e]
          · rw [if_neg e]; exact FX.out x (by omega))
        obtain ⟨z, hz⟩ : ∃ z, z = shV L m k := ⟨_, rfl⟩
        rw [← hz] at C e1 e2 NXT FN
        clear hz FX
        go_wp2_with fail
        refine C.out.mono ?_
        rintro e wx ⟨rfl, hb⟩
        replace S := hide (S.out.below hb)
        replace T := hide (T.out.below hb)
        replace K := hide (btrans K.out hb)
        clear hb C
        have f0 := T.out.frozen k
        have t0 : wx.cell? ⟨g2, k, none⟩ = some (.int .i64 (f k)) := T.out.cell hlt
        have T1 := hide (T.out.put k z (c' := fun x => if x = k then z else f x) (fun x _ => rfl))
        have S1 := hide (S.out.far (b := g2) (o := k) hne (.int .i64 z))
        have K1 := hide (K.out.setCell (p := ⟨g2, k, none⟩) HH.out (.int .i64 z))
        have h1 : ¬ z < 0 := by omega
        have h2 : ¬ m < z := by omega
        go_upto_region 12 with fail
        clear f0 t0 T S K
        generalize wx.setCell ⟨g2, k, none⟩ (.int .i64 z) = wy at *
        by_cases hk1 : k = 0
        · have S2 := hide (S1.out.congr fun x _ => (NX0.out hk1 x).symm)
          have h3 : ¬ 0 < k := by omega
          have h3' : ¬ (0 : Int) < (k : Int) := by omega
          clear hk1 NXT NX0 BK TRK
          go_wp2
          go_roundw
          case rel => first | exact ⟨k + 1, _, by omega, by go_num, S2, T1, FN, K1⟩ | ((repeat apply Exists.intro); exact ⟨⟨k + 1, _, by omega, by go_num, S2, T1, FN, K1⟩, rfl⟩)
          case measure => simp [intOf]; omega
        · have h3 : 0 < k := by omega
          have h3' : (0 : Int) < (k : Int) := by omega
          obtain ⟨q0, q1⟩ := TRK.out h3
          obtain ⟨b, off, rfl, hbl, y0, y1, y2, y3, y4⟩ := HR.out _ K1.out k hlt
          clear y1 y2 y3 y4
          obtain ⟨p, hp⟩ : ∃ p : Nat, pa L k = p := ⟨(pa L k).toNat, by omega⟩
          have E := hide (NXT.out p h3 hp)
          rw [hp] at y0 q0 q1
          have hpn : p < n := by omega
          have hpn' : (p : Int) < (n : Int) := by omega
          obtain ⟨b1, b2⟩ := BK.out p
          have c1 : wy.cell? ⟨g, p, none⟩ = some (.int .i64 (smF L m k p)) := S1.out.cell hpn
          have f1 := S1.out.frozen p
          have S2 := hide (S1.out.put p (smF L m k p + z) (c' := smF L m (k + 1)) (fun x _ => E.out x))
          have T2 := hide (T1.out.far (b := g) (o := p) (fun e => hne e.symm) (.int .i64 (smF L m k p + z)))
          have K2 := hide (K1.out.setCell (p := ⟨g, p, none⟩) HG.out (.int .i64 (smF L m k p + z)))
          clear E NXT NX0 TRK BK hk1 hp T1 S1 K1
          generalize smF L m k p = s0 at *
          have hw : IntKind.i64.wrap (s0 + z) = s0 + z := by rw [IntKind.wrap_i64]; omega
          go_wp2
          go_roundw
          case rel => first | exact ⟨k + 1, _, by omega, by go_num, S2, T2, FN, K2⟩ | ((repeat apply Exists.intro); exact ⟨⟨k + 1, _, by omega, by go_num, S2, T2, FN, K2⟩, rfl⟩)
          case measure => simp [intOf]; omega
      · obtain rfl : k = n := by omega
        have hn0 : 0 < k := by omega
        obtain ⟨b, off, rfl, hbl, _, y1, _, _, _⟩ := HR.out _ K.out 0 hn0
        rw [Nat.zero_mul, Nat.add_zero] at y1
        have t0 : wr.cell? ⟨g2, 0, none⟩ = some (.int .i64 m) := by
          have := T.out.cell hn0
          rw [FX.out 0 hn0] at this
          rw [this]
          exact congrArg some (congrArg _ ROOT.out)
        by_cases ht : us L 0 = 0
        · have d0 : (us L 0 == 0) = true := by simp [ht]
          clear ht SUM
          generalize us L 0 = t at *
          go_wp2
          go_ret
          exact ⟨by simp, K.out⟩
        · have d0 : (us L 0 == 0) = false := by simp [ht]
          have SU := hide (SUM.out ht)
          clear ht SUM
          generalize us L 0 = t at *
          go_upto_region 17 with fail
          clear y1 t0
          go_wp2
          generalize wr = wo at *
          go_loopw [81] (fun c wq => ∃ (j : Nat) , j ≤ k ∧ c = .int .i64 j ∧ Hid (Below wo.heap.size wo wq)) (fun c _ => k - (intOf c).toNat)
          case atStart => exact ⟨0, Nat.zero_le _, rfl, hide (brefl _)⟩
          case round =>
            obtain ⟨j, hj, rfl, KQ⟩ := hrel
            have S3 := hide (S.out.below KQ.out)
            have T3 := hide (T.out.below KQ.out)
            have t0 : wr.cell? ⟨g2, 0, none⟩ = some (.int .i64 m) := by
              have := T3.out.cell hn0
              rw [FX.out 0 hn0] at this
              rw [this]
              exact congrArg some (congrArg _ ROOT.out)
            by_cases hjl : j < k
            · have hj2 : (j : Int) < (k : Int) := by omega
              have hj0 : (0 : Int) ≤ (j : Int) := by omega
              have c1 : wr.cell? ⟨g, j, none⟩ = some (.int .i64 (smF L m k j)) := S3.out.cell hjl
              have c2 : wr.cell? ⟨g2, j, none⟩ = some (.int .i64 (f j)) := T3.out.cell hjl
              have le : smF L m k j ≤ f j := by rw [FX.out j hjl]; exact SU.out j hjl
              generalize smF L m k j = s1 at *
              generalize f j = s2 at *
              have d1 : decide (s2 < s1) = false := by simp; omega
              clear t0 S3 T3 le
              go_upto_region 20 with fail
              go_quiet (fail)
              go_wp2
              go_roundw
              case rel => first | exact ⟨j + 1, by omega, by go_num, hide (below_drewN KQ.out _)⟩ | ((repeat apply Exists.intro); exact ⟨⟨j + 1, by omega, by go_num, hide (below_drewN KQ.out _)⟩, rfl⟩)
              case measure => simp [intOf]; omega
            · obtain rfl : k = j := by omega
              clear S3 T3
              go_wp2
              go_ret
              exact ⟨by simp, btrans K.out KQ.out⟩
  · have de : (chE L != 0) = true := by simpa using h0
    clear h0 hr hcp
    generalize chE L = ce at *
    go_enter Try.func13, Try.ntmps13
    go_wp2_with fail
    refine (CA.out _).mono ?_
    rintro e w1 ⟨rfl, hb⟩
    replace K := hide (btrans K.out hb)
    clear hb
    go_wp2_with fail
    refine (CR.out _ K.out).mono ?_
    rintro e w2 ⟨rfl, hb⟩
    replace K := hide (btrans K.out hb)
    clear hb
    go_wp2_with fail
    refine (CA.out _).mono ?_
    rintro e w3 ⟨rfl, hb⟩
    replace K := hide (btrans K.out hb)
    clear hb
    go_wp2
    go_ret
    exact ⟨rfl, K.out⟩
end Go.Proofs.Ytcndbehgklkiiaa.Ac
