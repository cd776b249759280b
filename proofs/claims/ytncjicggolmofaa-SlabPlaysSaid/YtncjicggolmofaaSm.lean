import Derived.Test.YtncjicggolmofaaRc
namespace Go.Proofs.Ytncjicggolmofaa.Sb
open Go Go.RowKit
set_option linter.unusedVariables false
set_option linter.unusedSimpArgs false
theorem take_nextB {l : By} {i : Nat} (h : i < l.length) : l.take (i + 1) = l.take i ++ [l.getD i false] := by rw [List.take_succ_eq_append_getElem h, List.getD_eq_getElem?_getD, List.getElem?_eq_getElem h]; rfl
theorem sl_ext {L M : List Ca} (hl : L.length = M.length) (h : ∀ j, j < L.length → cAt L j = cAt M j) : L = M := by
  apply List.ext_getElem hl
  intro i h1 h2
  have := h i h1
  rwa [cAt_get h1, cAt_get h2] at this
set_option maxRecDepth 100000 in
set_option maxHeartbeats 8000000 in
theorem same_any (A B : Option Addr) (cp cq : Nat) (S T : Sc) (w : World) (hr : RdC w A S.sl) (ht : RdC w B T.sl) (hn : S.sl.length ≤ 9223372036854775807) (hn2 : T.sl.length ≤ 9223372036854775807) (hln : ∀ k, k < S.sl.length → (us S k).length ≤ 9223372036854775807) (hln2 : ∀ k, k < T.sl.length → (us T k).length ≤ 9223372036854775807) : Calls Try.prog 18 #[.agg #[.int .i64 S.ob, .slice A S.sl.length cp], .agg #[.int .i64 T.ob, .slice B T.sl.length cq]] w fun e w' => e = .returned (.bool (decide (S.ob = T.ob ∧ S.sl = T.sl))) ∧ Below w.heap.size w w' := by
  have X2 := hide ((Box.new w 24 #[.int .i64 S.ob, .slice A S.sl.length cp]).more (.cells #[.int .i64 T.ob, .slice B T.sl.length cq] 24))
  have X3 := hide (Box.new2 w (.cells #[.int .i64 S.ob, .slice A S.sl.length cp] 24) 24 #[.int .i64 T.ob, .slice B T.sl.length cq])
  have KF := hide (bal (bal (brefl w) (.cells #[.int .i64 S.ob, .slice A S.sl.length cp] 24)) (.cells #[.int .i64 T.ob, .slice B T.sl.length cq] 24))
  obtain ⟨W0, hW0⟩ : ∃ W0, W0 = ((w.alloc (.cells #[.int .i64 S.ob, .slice A S.sl.length cp] 24)).alloc (.cells #[.int .i64 T.ob, .slice B T.sl.length cq] 24)) := ⟨_, rfl⟩
  rw [← hW0] at X2 X3 KF
  obtain ⟨g2, hg2⟩ : ∃ g2, g2 = w.heap.size := ⟨_, rfl⟩
  rw [← hg2] at X2
  obtain ⟨g3, hg3⟩ : ∃ g3, g3 = w.heap.size + 1 := ⟨_, rfl⟩
  rw [← hg3] at X3
  have HR := hide (hr.below KF.out)
  have HT := hide (ht.below KF.out)
  have HLS := hide hln
  have HLT := hide hln2
  have K := hide (Below.refl W0.heap.size W0)
  have x0 := (X2.out.below K.out).cell 0
  have x1 := (X2.out.below K.out).cell 1
  have z0 := (X3.out.below K.out).cell 0
  have z1 := (X3.out.below K.out).cell 1
  simp at x0 x1 z0 z1
  clear hr ht hln hln2
  by_cases ho : S.ob = T.ob
  · by_cases hl : S.sl.length = T.sl.length
    · have HL := hide hl
      have HO := hide ho
      rw [← ho] at z0
      rw [← hl] at z1
      rw [← ho, ← hl] at X3
      clear ho hl
      go_enter Try.func18, Try.ntmps18
      go_upto_region 1 with fail
      rw [← hg3, ← hg2, ← hW0]
      clear hg3 hg2 hW0
      go_wp2
      clear x0 x1 z0 z1
      go_loopw [5] (fun c wr => ∃ k : Nat, k ≤ S.sl.length ∧ c = .int .i64 k ∧ Hid (∀ j, j < k → cAt S.sl j = cAt T.sl j) ∧ Hid (Below W0.heap.size W0 wr)) (fun c _ => S.sl.length - (intOf c).toNat)
      case atStart => exact ⟨0, Nat.zero_le _, rfl, hide (fun j h => by omega), K⟩
      case round =>
        clear K
        obtain ⟨k, hk, rfl, N, K⟩ := hrel
        have x0 := (X2.out.below K.out).cell 0
        have x1 := (X2.out.below K.out).cell 1
        have z0 := (X3.out.below K.out).cell 0
        have z1 := (X3.out.below K.out).cell 1
        simp at x0 x1 z0 z1
        by_cases hlt : k < S.sl.length
        · have hl2 : (k : Int) < (S.sl.length : Int) := by omega
          have hk0 : (0 : Int) ≤ (k : Int) := by omega
          obtain ⟨b, off, vu, ea, hbl, y0, y1, hu⟩ := HR.out.cells K.out hlt
          obtain ⟨Au, cu, eu, hcu, hbu⟩ := hu
          subst eu
          obtain ⟨b', off', vt, ea', hbl', t0, t1, ht⟩ := HT.out.cells K.out (show k < T.sl.length by have := HL.out; omega)
          obtain ⟨At, ct, et, hct, hbt⟩ := ht
          subst et
          change wr.cell? _ = some (.int .i64 (fr S k)) at y0
          change wr.cell? _ = some (.slice Au (us S k).length cu) at y1
          change Bs wr Au (us S k) at hbu
          change wr.cell? _ = some (.int .i64 (fr T k)) at t0
          change wr.cell? _ = some (.slice At (us T k).length ct) at t1
          change Bs wr At (us T k) at hbt
          clear hbl hbl' hcu hct
          subst ea ea'
          by_cases hf : fr S k = fr T k
          · by_cases hu : (us S k).length = (us T k).length
            · have HFU := hide hf
              have HLU := hide hu
              rw [← hf] at t0
              rw [← hu] at t1
              clear hf hu hbu hbt
              go_wp2
              go_quiet (fail)
              generalize hwy : World.drewN wr _ = wy
              have hbq : Below wr.heap.size wr wy := by rw [← hwy]; exact below_drewN (brefl _) _
              replace K := hide (K.out.trans (hbq.mono K.out.size))
              clear hwy hbq
              clear x0 x1 z0 z1 y0 y1 t0 t1
              go_wp2
              go_loopw [6] (fun c wr => ∃ m : Nat, m ≤ (us S k).length ∧ c = .int .i64 m ∧ Hid ((us S k).take m = (us T k).take m) ∧ Hid (Below W0.heap.size W0 wr)) (fun c _ => (us S k).length - (intOf c).toNat)
              case atStart => exact ⟨0, Nat.zero_le _, rfl, hide rfl, K⟩
              case round =>
                clear K
                have hlu := HLS.out k hlt
                obtain ⟨m, hm, rfl, N2, K⟩ := hrel
                have x0 := (X2.out.below K.out).cell 0
                have x1 := (X2.out.below K.out).cell 1
                have z0 := (X3.out.below K.out).cell 0
                have z1 := (X3.out.below K.out).cell 1
                simp at x0 x1 z0 z1
                obtain ⟨b5, off5, vu, ea, hbl, y0, y1, hu⟩ := HR.out.cells K.out hlt
                obtain ⟨Au, cu, eu, hcu, hbu⟩ := hu
                subst eu
                obtain ⟨b6, off6, vt, ea', hbl', t0, t1, ht⟩ := HT.out.cells K.out (show k < T.sl.length by have := HL.out; omega)
                obtain ⟨At, ct, et, hct, hbt⟩ := ht
                subst et
                change wr.cell? _ = some (.int .i64 (fr S k)) at y0
                change wr.cell? _ = some (.slice Au (us S k).length cu) at y1
                change Bs wr Au (us S k) at hbu
                change wr.cell? _ = some (.int .i64 (fr T k)) at t0
                change wr.cell? _ = some (.slice At (us T k).length ct) at t1
                change Bs wr At (us T k) at hbt
                clear hbl hbl' hcu hct
                injection ea with ea
                injection ea with e1 e2 e3
                subst e1 e2
                clear e3
                injection ea' with ea'
                injection ea' with e1 e2 e3
                subst e1 e2
                clear e3
                by_cases hml : m < (us S k).length
                · have hm2 : (m : Int) < ((us S k).length : Int) := by omega
                  have hm0 : (0 : Int) ≤ (m : Int) := by omega
                  obtain ⟨b3, o3, rfl, _, f1⟩ := hbu.cells (brefl _) hml
                  obtain ⟨b4, o4, rfl, _, f2⟩ := hbt.cells (brefl _) (show m < (us T k).length by have := HLU.out; omega)
                  clear hbu hbt
                  by_cases he : (us S k).getD m false = (us T k).getD m false
                  · have N3 := hide (show (us S k).take (m + 1) = (us T k).take (m + 1) by rw [take_nextB hml, take_nextB (show m < (us T k).length by have := HLU.out; omega), N2.out, he])
                    rw [← he] at f2
                    clear he N2
                    rw [← HLU.out] at t1
                    generalize (us S k).getD m false = fb at *
                    go_wp2
                    go_quiet (fail)
                    generalize hwy : World.drewN wr _ = wy
                    have hbq : Below wr.heap.size wr wy := by rw [← hwy]; exact below_drewN (brefl _) _
                    replace K := hide (K.out.trans (hbq.mono K.out.size))
                    clear hwy hbq
                    go_wp2
                    go_roundw
                    case rel => first | exact ⟨m + 1, by omega, by go_num, N3, K⟩ | ((repeat apply Exists.intro); exact ⟨⟨m + 1, by omega, by go_num, N3, K⟩, rfl⟩)
                    case measure => simp [intOf]; omega
                  · have E := hide (show decide (S.ob = T.ob ∧ S.sl = T.sl) = false from decide_eq_false fun g => he (by unfold us; rw [g.2]))
                    have dn : ((us S k).getD m false == (us T k).getD m false) = false := by simpa using he
                    clear he N2
                    rw [← HLU.out] at t1
                    generalize (us S k).getD m false = fb at *
                    generalize (us T k).getD m false = fc at *
                    go_wp2
                    go_quiet (fail)
                    generalize hwy : World.drewN wr _ = wy
                    have hbq : Below wr.heap.size wr wy := by rw [← hwy]; exact below_drewN (brefl _) _
                    replace K := hide (K.out.trans (hbq.mono K.out.size))
                    clear hwy hbq
                    go_wp2
                    go_ret
                    exact ⟨ret_bool E.out.symm, KF.out.trans (K.out.mono KF.out.size)⟩
                · obtain rfl : m = (us S k).length := by omega
                  have NU : us S k = us T k := by have e := N2.out; rwa [List.take_length, HLU.out, List.take_length] at e
                  have N4 := hide (show ∀ j, j < k + 1 → cAt S.sl j = cAt T.sl j from fun j hj => by
                    by_cases e : j = k
                    · rw [e]; exact Prod.ext HFU.out NU
                    · exact N.out j (by omega))
                  clear NU N2 hbu hbt
                  go_wp2
                  go_roundw
                  case rel => first | exact ⟨k + 1, by omega, by go_num, N4, K⟩ | ((repeat apply Exists.intro); exact ⟨⟨k + 1, by omega, by go_num, N4, K⟩, rfl⟩)
                  case measure => simp [intOf]; omega
            · have E := hide (show decide (S.ob = T.ob ∧ S.sl = T.sl) = false from decide_eq_false fun g => hu (by unfold us; rw [g.2]))
              have dn : (((us S k).length : Int) != ((us T k).length : Int)) = true := by simp only [bne_iff_ne, ne_eq]; omega
              rw [← hf] at t0
              clear hf hu hbu hbt
              generalize (us S k).length = l1 at *
              generalize (us T k).length = l2 at *
              go_wp2
              go_quiet (fail)
              generalize hwy : World.drewN wr _ = wy
              have hbq : Below wr.heap.size wr wy := by rw [← hwy]; exact below_drewN (brefl _) _
              replace K := hide (K.out.trans (hbq.mono K.out.size))
              clear hwy hbq
              go_wp2
              go_ret
              exact ⟨ret_bool E.out.symm, KF.out.trans (K.out.mono KF.out.size)⟩
          · have E := hide (show decide (S.ob = T.ob ∧ S.sl = T.sl) = false from decide_eq_false fun g => hf (by unfold fr; rw [g.2]))
            have dn : (fr S k != fr T k) = true := by simpa using hf
            clear hf hbu hbt
            generalize fr S k = f1 at *
            generalize fr T k = f2 at *
            go_wp2
            go_quiet (fail)
            generalize hwy : World.drewN wr _ = wy
            have hbq : Below wr.heap.size wr wy := by rw [← hwy]; exact below_drewN (brefl _) _
            replace K := hide (K.out.trans (hbq.mono K.out.size))
            clear hwy hbq
            go_wp2
            go_ret
            exact ⟨ret_bool E.out.symm, KF.out.trans (K.out.mono KF.out.size)⟩
        · obtain rfl : k = S.sl.length := by omega
          have E := hide (show decide (S.ob = T.ob ∧ S.sl = T.sl) = true from decide_eq_true ⟨HO.out, sl_ext HL.out N.out⟩)
          go_wp2
          go_ret
          exact ⟨ret_bool E.out.symm, KF.out.trans (K.out.mono KF.out.size)⟩
    · have E := hide (show decide (S.ob = T.ob ∧ S.sl = T.sl) = false from decide_eq_false fun g => hl (by rw [g.2]))
      have dn : ((S.sl.length : Int) != (T.sl.length : Int)) = true := by simp only [bne_iff_ne, ne_eq]; omega
      rw [← ho] at z0
      clear ho hl
      go_enter Try.func18, Try.ntmps18
      go_upto_region 1 with fail
      rw [← hg3, ← hg2, ← hW0]
      clear hg3 hg2 hW0
      go_wp2
      go_ret
      exact ⟨ret_bool E.out.symm, KF.out⟩
  · have E := hide (show decide (S.ob = T.ob ∧ S.sl = T.sl) = false from decide_eq_false fun g => ho g.1)
    have dn : (S.ob != T.ob) = true := by simpa using ho
    clear ho
    go_enter Try.func18, Try.ntmps18
    go_upto_region 1 with fail
    rw [← hg3, ← hg2, ← hW0]
    clear hg3 hg2 hW0
    go_wp2
    go_ret
    exact ⟨ret_bool E.out.symm, KF.out⟩
end Go.Proofs.Ytncjicggolmofaa.Sb
