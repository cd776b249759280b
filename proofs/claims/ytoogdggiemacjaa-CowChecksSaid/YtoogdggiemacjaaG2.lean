import Derived.Test.YtoogdggiemacjaaG1
namespace Go.Proofs.Ytoogdggiemacjaa.Cw
open Go Go.RowKit
set_option linter.unusedVariables false
set_option linter.unusedSimpArgs false
theorem pg_of {n : Nat} {pf : Int} {pw : Bool} (h : pgG n (pf, pw)) : -1 ≤ pf ∧ (pf < n) ∧ (pf = -1 → pw = false) := by
  rcases h with h | h
  · injection h with h1 h2
    exact ⟨by omega, by omega, fun _ => h2⟩
  · have h1 : 0 ≤ pf := h.1
    have h2 : pf < n := h.2
    exact ⟨by omega, h2, fun e => by omega⟩
set_option maxRecDepth 100000 in
set_option maxHeartbeats 8000000 in
theorem rformed_any (M : Cow) (As Af : Option Addr) (cs cf : Nat) (w : World) (h : CwIn w M As cs Af cf) (hB : Big M) : Calls Try.prog 40 #[.agg (cwA M As cs Af cf)] w fun e w' => e = .returned (.bool (decide (fmG M))) ∧ Below w.heap.size w w' := by
  have BADS := hide (fun i (hi : i < M.sp.length) (hb : ¬ spG M.sz M.fr.length (sAt M.sp i)) => show decide (fmG M) = false from decide_eq_false (fun g => hb (g _ (sAt_mem hi))))
  have GOOD := hide (fun (hg : ∀ i, i < M.sp.length → spG M.sz M.fr.length (sAt M.sp i)) => show decide (fmG M) = true from decide_eq_true (fun s hs => by
    obtain ⟨i, hi, e⟩ := sAt_mem2 hs
    rw [← e]; exact hg i hi))
  generalize decide (fmG M) = dd at *
  have K := hide (bal (brefl w) (.cells (cwA M As cs Af cf) 28))
  have X := hide (Box.new w 28 (cwA M As cs Af cf))
  have W0 := hide h
  have hs9 := hB.sp
  have hf9 := hB.fr
  have PL := hide hB.pg
  clear h hB
  unfold cwA at K X ⊢
  go_enter Try.func40, Try.ntmps40
  go_upto_region 1 with fail
  obtain ⟨g, hg⟩ : ∃ g, g = w.heap.size := ⟨_, rfl⟩
  rw [← hg] at X ⊢
  clear hg
  generalize w.alloc (.cells #[.int .i64 M.sz, .slice As M.sp.length cs, .slice Af M.fr.length cf, .int .i64 M.cp] 28) = w1 at *
  go_wp2
  go_loopw [3] (fun q wr => ∃ i : Nat, i ≤ M.sp.length ∧ q = .int .i64 i ∧ Hid (∀ m, m < i → spG M.sz M.fr.length (sAt M.sp m)) ∧ Hid (Box wr g 28 #[.int .i64 M.sz, .slice As M.sp.length cs, .slice Af M.fr.length cf, .int .i64 M.cp]) ∧ Hid (Below w.heap.size w wr)) (fun q _ => M.sp.length - (intOf q).toNat)
  case atStart => exact ⟨0, Nat.zero_le _, rfl, hide (fun m hm => absurd hm (Nat.not_lt_zero _)), X, K⟩
  case round =>
    clear X K
    obtain ⟨i, hk, rfl, SG, X, K⟩ := hrel
    obtain ⟨x0, x1, x2, x3⟩ := box4 X.out
    by_cases hlt : i < M.sp.length
    · have hl2 : (i : Int) < (M.sp.length : Int) := by omega
      have hk0 : (0 : Int) ≤ (i : Int) := by omega
      have PN := hide (PL.out i hlt)
      have SGN := hide (fun (h : spG M.sz M.fr.length (sAt M.sp i)) m (hm : m < i + 1) => show spG M.sz M.fr.length (sAt M.sp m) from if e : m = i then e ▸ h else SG.out m (by omega))
      have SBD := hide (fun (h : ¬ spG M.sz M.fr.length (sAt M.sp i)) => BADS.out i hlt h)
      obtain ⟨b, off, v, rfl, hb, t0, t1, A2, c2, rfl, hc2, hR⟩ := W0.out.rs.cells K.out hlt
      rcases hss : sAt M.sp i with ⟨lv, Ls⟩
      rw [hss] at t0 t1 PN SGN SBD hR
      dsimp only at t0 t1 PN hR
      clear hss SG
      have BAD := hide (fun j (hj : j < Ls.length) (hb : ¬ pgG M.fr.length (pAt Ls j)) => show dd = false from SBD.out (fun g => hb (g.2 _ (pAt_mem hj))))
      have OKN0 := hide (fun (hln : lnG M.sz (lv, Ls)) (hg : ∀ m, m < Ls.length → pgG M.fr.length (pAt Ls m)) => SGN.out ⟨hln, fun p hp => by
        obtain ⟨m, hm, e⟩ := List.mem_iff_getElem.1 hp
        have := hg m hm
        rw [pAt_get hm, e] at this
        exact this⟩)
      have BLN := hide (fun (hb : ¬ lnG M.sz (lv, Ls)) => SBD.out (fun g => hb g.1))
      have X4 := hide (Box.new wr 62 #[.bool lv, .slice A2 Ls.length c2])
      have M4 := bal (brefl wr) (.cells #[.bool lv, .slice A2 Ls.length c2] 62)
      replace X := hide (X.out.below M4)
      have RP := hide (hR.below M4)
      replace K := hide (btrans K.out M4)
      clear M4 hR SBD SGN
      go_upto_region 5 with fail
      generalize hg4 : wr.heap.size = g4 at *
      clear hg4 t0 t1 x0 x1 x2 x3
      generalize wr.alloc (.cells #[.bool lv, .slice A2 Ls.length c2] 62) = w4 at *
      obtain ⟨x0, x1, x2, x3⟩ := box4 X.out
      obtain ⟨y0, y1⟩ := box2 X4.out
      have pn := PN.out
      have KO := hide (brefl w4)
      cases lv
      · by_cases hz : Ls.length = 0
        · have OKN := hide (OKN0.out (show lnG M.sz (false, Ls) from hz))
          have dz : ((Ls.length : Int) == 0) = true := by simp [hz]
          have dz2 : (Ls.length == 0) = true := by simp [hz]
          have dz3 : ((Ls.length : Int) != 0) = false := by simp [hz]
          replace hz := hide hz
          clear BLN OKN0
          go_wp2
          clear x0 x1 x2 x3 y0 y1
          go_loopw [5] (fun q wr => ∃ j : Nat, j ≤ Ls.length ∧ q = .int .i64 j ∧ Hid (∀ m, m < j → pgG M.fr.length (pAt Ls m)) ∧ Hid (Box wr g4 62 #[.bool false, .slice A2 Ls.length c2]) ∧ Hid (Box wr g 28 #[.int .i64 M.sz, .slice (some ⟨b, off, none⟩) M.sp.length cs, .slice Af M.fr.length cf, .int .i64 M.cp]) ∧ Hid (Below w.heap.size w wr) ∧ Hid (Below w4.heap.size w4 wr)) (fun q _ => Ls.length - (intOf q).toNat)
          case atStart => exact ⟨0, Nat.zero_le _, rfl, hide (fun m hm => absurd hm (Nat.not_lt_zero _)), X4, X, K, KO⟩
          case round =>
            clear X X4 K KO
            obtain ⟨j, hj, rfl, PG, X4, X, K, KO⟩ := hrel
            obtain ⟨x0, x1, x2, x3⟩ := box4 X.out
            obtain ⟨y0, y1⟩ := box2 X4.out
            have pn := PN.out
            by_cases hjl : j < Ls.length
            · have hj2 : (j : Int) < (Ls.length : Int) := by omega
              have hj0 : (0 : Int) ≤ (j : Int) := by omega
              obtain ⟨b2, o2, rfl, hb2, z0, z1⟩ := RP.out.cells KO.out hjl
              have N1 := hide (fun (h : pgG M.fr.length (pAt Ls j)) m (hm : m < j + 1) => show pgG M.fr.length (pAt Ls m) from if e : m = j then e ▸ h else PG.out m (by omega))
              have BD := hide (fun (h : ¬ pgG M.fr.length (pAt Ls j)) => BAD.out j hjl h)
              rcases hpp : pAt Ls j with ⟨pf, pw⟩
              rw [hpp] at z0 z1 N1 BD
              dsimp only at z0 z1
              clear hpp PG
              have X6 := hide (Box.new wr 64 #[.int .i64 pf, .bool pw])
              have M6 := bal (brefl wr) (.cells #[.int .i64 pf, .bool pw] 64)
              replace X := hide (X.out.below M6)
              replace X4 := hide (X4.out.below M6)
              replace K := hide (btrans K.out M6)
              replace KO := hide (btrans KO.out M6)
              clear M6
              go_upto_region 11 with fail
              generalize hg6 : wr.heap.size = g6 at *
              clear hg6 z0 z1 x0 x1 x2 x3 y0 y1
              generalize wr.alloc (.cells #[.int .i64 pf, .bool pw] 64) = w6 at *
              obtain ⟨x0, x1, x2, x3⟩ := box4 X.out
              obtain ⟨v0, v1⟩ := box2 X6.out
              have hf := hf9
              by_cases c0 : pf < -1
              · have E := hide (BD.out (fun h => by have := pg_of h; omega))
                have d0 : decide (pf < -1) = true := by simpa using c0
                clear N1 BD
                go_wp2
                go_ret
                exact ⟨ret_bool E.out.symm, K.out⟩
              · have d0 : decide (pf < -1) = false := by simpa using c0
                by_cases c1 : (M.fr.length : Int) ≤ pf
                · have E := hide (BD.out (fun h => by have := pg_of h; omega))
                  have d1 : decide ((M.fr.length : Int) ≤ pf) = true := by simpa using c1
                  clear N1 BD
                  go_wp2
                  go_ret
                  exact ⟨ret_bool E.out.symm, K.out⟩
                · have d1 : decide ((M.fr.length : Int) ≤ pf) = false := by simpa using c1
                  by_cases c2' : pf = -1
                  · have d2 : (pf == -1) = true := by simp [c2']
                    cases pw
                    · have G := hide (N1.out (.inl (by rw [c2'])))
                      clear N1 BD c2'
                      go_wp2
                      go_roundw
                      case rel => first | exact ⟨j + 1, by omega, by go_num, G, X4, X, K, KO⟩ | ((repeat apply Exists.intro); exact ⟨⟨j + 1, by omega, by go_num, G, X4, X, K, KO⟩, rfl⟩)
                      case measure => simp [intOf]; omega
                    · have E := hide (BD.out (fun h => by have := (pg_of h).2.2 c2'; cases this))
                      clear N1 BD c2'
                      go_wp2
                      go_ret
                      exact ⟨ret_bool E.out.symm, K.out⟩
                  · have d2 : (pf == -1) = false := by simp [c2']
                    have G := hide (N1.out (.inr ⟨by show 0 ≤ pf; omega, by show pf < _; omega⟩))
                    clear N1 BD c2'
                    go_wp2
                    go_roundw
                    case rel => first | exact ⟨j + 1, by omega, by go_num, G, X4, X, K, KO⟩ | ((repeat apply Exists.intro); exact ⟨⟨j + 1, by omega, by go_num, G, X4, X, K, KO⟩, rfl⟩)
                    case measure => simp [intOf]; omega
            · obtain rfl : Ls.length = j := by omega
              have G := hide (OKN.out PG.out)
              go_wp2
              go_roundw
              case rel => first | exact ⟨i + 1, by omega, by go_num, G, X, K⟩ | ((repeat apply Exists.intro); exact ⟨⟨i + 1, by omega, by go_num, G, X, K⟩, rfl⟩)
              case measure => simp [intOf]; omega
        · have E := hide (BLN.out (show ¬ lnG M.sz (false, Ls) from hz))
          have dz : ((Ls.length : Int) == 0) = false := by simp; exact fun g => hz (by rw [g]; rfl)
          have dz3 : ((Ls.length : Int) != 0) = true := by simp; exact fun g => hz (by rw [g]; rfl)
          clear BLN OKN0 BAD
          go_wp2
          go_ret
          exact ⟨ret_bool E.out.symm, K.out⟩
      · by_cases hz : (Ls.length : Int) = M.sz
        · have OKN := hide (OKN0.out (show lnG M.sz (true, Ls) from hz))
          have dz : ((Ls.length : Int) == M.sz) = true := by simp [hz]
          have dz3 : ((Ls.length : Int) != M.sz) = false := by simp [hz]
          replace hz := hide hz
          clear BLN OKN0
          go_wp2
          clear x0 x1 x2 x3 y0 y1
          go_loopw [5] (fun q wr => ∃ j : Nat, j ≤ Ls.length ∧ q = .int .i64 j ∧ Hid (∀ m, m < j → pgG M.fr.length (pAt Ls m)) ∧ Hid (Box wr g4 62 #[.bool true, .slice A2 Ls.length c2]) ∧ Hid (Box wr g 28 #[.int .i64 M.sz, .slice (some ⟨b, off, none⟩) M.sp.length cs, .slice Af M.fr.length cf, .int .i64 M.cp]) ∧ Hid (Below w.heap.size w wr) ∧ Hid (Below w4.heap.size w4 wr)) (fun q _ => Ls.length - (intOf q).toNat)
          case atStart => exact ⟨0, Nat.zero_le _, rfl, hide (fun m hm => absurd hm (Nat.not_lt_zero _)), X4, X, K, KO⟩
          case round =>
            clear X X4 K KO
            obtain ⟨j, hj, rfl, PG, X4, X, K, KO⟩ := hrel
            obtain ⟨x0, x1, x2, x3⟩ := box4 X.out
            obtain ⟨y0, y1⟩ := box2 X4.out
            have pn := PN.out
            by_cases hjl : j < Ls.length
            · have hj2 : (j : Int) < (Ls.length : Int) := by omega
              have hj0 : (0 : Int) ≤ (j : Int) := by omega
              obtain ⟨b2, o2, rfl, hb2, z0, z1⟩ := RP.out.cells KO.out hjl
              have N1 := hide (fun (h : pgG M.fr.length (pAt Ls j)) m (hm : m < j + 1) => show pgG M.fr.length (pAt Ls m) from if e : m = j then e ▸ h else PG.out m (by omega))
              have BD := hide (fun (h : ¬ pgG M.fr.length (pAt Ls j)) => BAD.out j hjl h)
              rcases hpp : pAt Ls j with ⟨pf, pw⟩
              rw [hpp] at z0 z1 N1 BD
              dsimp only at z0 z1
              clear hpp PG
              have X6 := hide (Box.new wr 64 #[.int .i64 pf, .bool pw])
              have M6 := bal (brefl wr) (.cells #[.int .i64 pf, .bool pw] 64)
              replace X := hide (X.out.below M6)
              replace X4 := hide (X4.out.below M6)
              replace K := hide (btrans K.out M6)
              replace KO := hide (btrans KO.out M6)
              clear M6
              go_upto_region 11 with fail
              generalize hg6 : wr.heap.size = g6 at *
              clear hg6 z0 z1 x0 x1 x2 x3 y0 y1
              generalize wr.alloc (.cells #[.int .i64 pf, .bool pw] 64) = w6 at *
              obtain ⟨x0, x1, x2, x3⟩ := box4 X.out
              obtain ⟨v0, v1⟩ := box2 X6.out
              have hf := hf9
              by_cases c0 : pf < -1
              · have E := hide (BD.out (fun h => by have := pg_of h; omega))
                have d0 : decide (pf < -1) = true := by simpa using c0
                clear N1 BD
                go_wp2
                go_ret
                exact ⟨ret_bool E.out.symm, K.out⟩
              · have d0 : decide (pf < -1) = false := by simpa using c0
                by_cases c1 : (M.fr.length : Int) ≤ pf
                · have E := hide (BD.out (fun h => by have := pg_of h; omega))
                  have d1 : decide ((M.fr.length : Int) ≤ pf) = true := by simpa using c1
                  clear N1 BD
                  go_wp2
                  go_ret
                  exact ⟨ret_bool E.out.symm, K.out⟩
                · have d1 : decide ((M.fr.length : Int) ≤ pf) = false := by simpa using c1
                  by_cases c2' : pf = -1
                  · have d2 : (pf == -1) = true := by simp [c2']
                    cases pw
                    · have G := hide (N1.out (.inl (by rw [c2'])))
                      clear N1 BD c2'
                      go_wp2
                      go_roundw
                      case rel => first | exact ⟨j + 1, by omega, by go_num, G, X4, X, K, KO⟩ | ((repeat apply Exists.intro); exact ⟨⟨j + 1, by omega, by go_num, G, X4, X, K, KO⟩, rfl⟩)
                      case measure => simp [intOf]; omega
                    · have E := hide (BD.out (fun h => by have := (pg_of h).2.2 c2'; cases this))
                      clear N1 BD c2'
                      go_wp2
                      go_ret
                      exact ⟨ret_bool E.out.symm, K.out⟩
                  · have d2 : (pf == -1) = false := by simp [c2']
                    have G := hide (N1.out (.inr ⟨by show 0 ≤ pf; omega, by show pf < _; omega⟩))
                    clear N1 BD c2'
                    go_wp2
                    go_roundw
                    case rel => first | exact ⟨j + 1, by omega, by go_num, G, X4, X, K, KO⟩ | ((repeat apply Exists.intro); exact ⟨⟨j + 1, by omega, by go_num, G, X4, X, K, KO⟩, rfl⟩)
                    case measure => simp [intOf]; omega
            · obtain rfl : Ls.length = j := by omega
              have G := hide (OKN.out PG.out)
              go_wp2
              go_roundw
              case rel => first | exact ⟨i + 1, by omega, by go_num, G, X, K⟩ | ((repeat apply Exists.intro); exact ⟨⟨i + 1, by omega, by go_num, G, X, K⟩, rfl⟩)
              case measure => simp [intOf]; omega
        · have E := hide (BLN.out (show ¬ lnG M.sz (true, Ls) from hz))
          have dz : ((Ls.length : Int) == M.sz) = false := by simpa using hz
          have dz3 : ((Ls.length : Int) != M.sz) = true := by simpa using hz
          clear BLN OKN0 BAD
          go_wp2
          go_ret
          exact ⟨ret_bool E.out.symm, K.out⟩
    · obtain rfl : M.sp.length = i := by omega
      have E := hide (GOOD.out SG.out)
      go_wp2
      go_ret
      exact ⟨ret_bool E.out.symm, K.out⟩
end Go.Proofs.Ytoogdggiemacjaa.Cw
