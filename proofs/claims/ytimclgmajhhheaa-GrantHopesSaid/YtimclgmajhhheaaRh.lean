import Derived.Test.YtimclgmajhhheaaCh
import Derived.Laws.StructEq
namespace Go.Proofs.Ytimclgmajhhheaa.Ac
open Go Go.RowKit
set_option linter.unusedVariables false
set_option linter.unusedSimpArgs false
set_option maxRecDepth 100000 in
set_option maxHeartbeats 8000000 in
theorem rcharge_any (A : Option Addr) (cp : Nat) (L : List A5) (a n : Int) (w : World) (hr : As w A L) (hcp : L.length ≤ cp) (hn : L.length ≤ 9223372036854775807) :
    Calls Try.prog 82 #[.slice A L.length cp, .int .i64 a, .int .i64 n] w (CgR (cgL L a n) (cgB L a n) (cgE L a n) w) := by
  unfold CgR
  have K := hide (brefl w)
  have HR := hide (fun w' (h : Below w.heap.size w w') => hr.below h)
  have CH := hide (fun w' (h : Below w.heap.size w w') => rcheck_any A cp L w' (HR.out _ h) hn)
  have HS := hide (fun w' (h : Below w.heap.size w w') => has_any A cp L a w' (HR.out _ h) hn)
  have RN := hide (fun n w => rin_any n w)
  by_cases h : arE L a n = 0
  · obtain ⟨q, hin⟩ := arE_ok h
    have V := hide (vd_of q.1)
    have PT := hide (fun w' (h : Below w.heap.size w w') => rpath_any A cp L a w' (HR.out _ h) hcp hn)
    unfold PR at PT
    rw [pR_ok q] at PT
    rw [q.1] at CH
    rw [hsB_yes q] at HS
    have PN := pth_nlen q
    have PI := hide (PIn.pth V.out q.2.1 q.2.2)
    have ES := hide (fun h2 => cg_stop h h2)
    have EO := hide (fun h2 => cg_ok h h2)
    have di := decide_eq_true hin
    unfold inr at hin
    obtain ⟨hin0, hin1⟩ := hin
    have RA := hide (fun w' (h : Below w.heap.size w w') => radd_any A cp L a n w' (HR.out _ h) V.out q.2.1 q.2.2 hcp (by omega) hin1)
    unfold LR at RA
    have BM := hide (fun (k : Nat) (hk : k < L.length) => rm_bd V.out hk)
    have CE := hide (fun (m : Nat) (hm : m < L.length) w' (hb : Below w.heap.size w w') => hr.cells hb hm)
    clear h q hr hcp
    generalize pth L a = P at *
    obtain ⟨PN1, PN8⟩ := PN
    go_enter Try.func82, Try.ntmps82
    go_wp2_with fail
    refine (CH.out _ K.out).mono ?_
    rintro e w1 ⟨rfl, hb⟩
    replace K := hide (btrans K.out hb)
    clear hb CH
    go_wp2_with fail
    refine (HS.out _ K.out).mono ?_
    rintro e w2 ⟨rfl, hb⟩
    replace K := hide (btrans K.out hb)
    clear hb HS
    go_wp2_with fail
    refine (RN.out _ _).mono ?_
    rintro e w9 ⟨rfl, rfl⟩
    go_wp2_with fail
    refine (PT.out _ K.out).mono ?_
    rintro e w3 ⟨AP, c2, rfl, hO, hb⟩
    replace K := hide (btrans K.out hb)
    have HP := hide (fun w' (h : Below w3.heap.size w3 w') => (OwI.bi hO).below h)
    have KP := hide (brefl w3)
    clear hb hO PT RN di
    go_wp2
    go_loopw [11] (fun c wr => ∃ k : Nat, k ≤ P.length ∧ c = .int .i64 k ∧ Hid (∀ j, j < k → n ≤ rm L (P.getD j 0)) ∧ Hid (Below w.heap.size w wr) ∧ Hid (Below w3.heap.size w3 wr)) (fun c _ => P.length - (intOf c).toNat)
    case atStart => exact ⟨0, by omega, rfl, hide (fun j h => by omega), K, KP⟩
    case round =>
      clear K KP
      obtain ⟨k, hk, rfl, N, K, KP⟩ := hrel
      by_cases hlt : k < P.length
      · have hl2 : (k : Int) < (P.length : Int) := by omega
        have hk0 : (0 : Int) ≤ (k : Int) := by omega
        obtain ⟨bp, op, rfl, hbp, p0⟩ := (HP.out _ KP.out).cells (brefl _) hlt
        have hz := PI.out.mem _ (getD_mem hlt)
        have ST := hide (fun (h : rm L (P.getD k 0) < n) => stp_at hlt (fun j hj => by have := N.out j hj; omega) h)
        have NX := hide (fun (h : n ≤ rm L (P.getD k 0)) => all_next (P := fun j => n ≤ rm L (P.getD j 0)) N.out h)
        obtain ⟨z, hzz⟩ : ∃ z : Nat, P.getD k 0 = (z : Int) := ⟨(P.getD k 0).toNat, by omega⟩
        rw [hzz] at p0 hz
        have RZ := hide (show rm L (P.getD k 0) = mx L z - us L z by rw [hzz]; exact rm_n L z)
        have HZ := hide hzz
        have hzl : z < L.length := by omega
        have hzl2 : (z : Int) < (L.length : Int) := by omega
        have hz0 : (0 : Int) ≤ (z : Int) := by omega
        obtain ⟨b, off, rfl, _, y0, y1, y2, y3, y4⟩ := CE.out z hzl _ K.out
        have bz := BM.out z hzl
        unfold inr at bz
        obtain ⟨bz1, bz2⟩ := bz
        clear y0 y2 y3 hzz hz N
        generalize us L z = u at *
        generalize mx L z = x at *
        by_cases hc : x - u < n
        · have E := hide (ST.out (by rw [RZ.out]; exact hc))
          obtain ⟨e1, e2, e3⟩ := ES.out (by rw [E.out, HZ.out]; omega)
          have E1 := hide e1
          have E2 := hide (e2.trans (E.out.trans HZ.out))
          have E3 := hide e3
          clear e1 e2 e3 ES EO ST NX E HZ RZ
          go_wp2
          go_quiet (fail)
          generalize hwy : World.drewN wr _ = wy
          have hbq : Below wr.heap.size wr wy := by rw [← hwy]; exact below_drewN (brefl _) _
          have p1 : wy.cell? ⟨bp, op + k, none⟩ = some (.int .i64 (z : Int)) := by rw [← hwy]; exact p0
          replace K := hide (btrans K.out hbq)
          clear hwy hbq y1 y4 p0
          go_wp2
          go_quiet (fail)
          generalize hwy : World.drewN wy _ = wz
          have hbq : Below wy.heap.size wy wz := by rw [← hwy]; exact below_drewN (brefl _) _
          replace K := hide (btrans K.out hbq)
          clear hwy hbq p1
          go_wp2
          go_ret3
          exact ⟨none, 0, ret_sii (by rw [E3.out]; rfl) E2.out.symm E1.out.symm, by rw [E3.out]; exact owa_nil _ _, K.out⟩
        · have E := hide (NX.out (by rw [RZ.out]; omega))
          clear ES ST NX HZ RZ
          go_wp2
          go_quiet (fail)
          generalize hwy : World.drewN wr _ = wy
          have hbq : Below wr.heap.size wr wy := by rw [← hwy]; exact below_drewN (brefl _) _
          replace K := hide (btrans K.out hbq)
          replace KP := hide (btrans KP.out hbq)
          clear hwy hbq y1 y4 p0
          go_wp2
          go_roundw
          case rel => exact ⟨k + 1, by omega, by go_num, E, K, KP⟩
          case measure => simp [intOf]; omega
      · obtain rfl : k = P.length := by omega
        obtain ⟨e1, e2, e3⟩ := EO.out (stp_none (L := L) (n := n) (fun j hj => by have := N.out j hj; omega))
        have E1 := hide e1
        have E2 := hide e2
        have E3 := hide e3
        clear e1 e2 e3 ES EO N
        go_wp2_with fail
        refine (RA.out _ K.out).mono ?_
        rintro e w5 ⟨A6, c6, rfl, hO, hb⟩
        have HO := hide (row_mono hO K.out.size)
        replace K := hide (btrans K.out hb)
        clear hO hb RA
        go_wp2
        go_ret3
        exact ⟨A6, c6, ret_sii (by rw [E3.out]) E2.out.symm E1.out.symm, by rw [E3.out]; exact HO.out, K.out⟩
  · obtain ⟨e1, e2, e3⟩ := cg_bad h
    have E2 := hide e2
    have E3 := hide e3
    by_cases h0 : chE L = 0
    · rw [h0] at CH
      by_cases h1 : 0 ≤ a ∧ a < L.length
      · have h2 : ¬ inr n := fun g => h (by unfold arE; rw [if_pos h0, if_pos h1, if_pos g])
        have E1 := hide (e1.trans (show arE L a n = 2 by unfold arE; rw [if_pos h0, if_pos h1, if_neg h2]))
        rw [hsB_yes ⟨h0, h1⟩] at HS
        have di := decide_eq_false h2
        clear h h0 h1 h2 hr hcp e1 e2 e3
        go_enter Try.func82, Try.ntmps82
        go_wp2_with fail
        refine (CH.out _ K.out).mono ?_
        rintro e w1 ⟨rfl, hb⟩
        replace K := hide (btrans K.out hb)
        clear hb CH
        go_wp2_with fail
        refine (HS.out _ K.out).mono ?_
        rintro e w2 ⟨rfl, hb⟩
        replace K := hide (btrans K.out hb)
        clear hb HS
        go_wp2_with fail
        refine (RN.out _ _).mono ?_
        rintro e w9 ⟨rfl, rfl⟩
        go_wp2
        go_ret3
        exact ⟨none, 0, ret_sii (by rw [E3.out]; rfl) E2.out.symm E1.out.symm, by rw [E3.out]; exact owa_nil _ _, K.out⟩
      · have E1 := hide (e1.trans (show arE L a n = 6 by unfold arE; rw [if_pos h0, if_neg h1]))
        rw [hsB_no (fun g => h1 g.2)] at HS
        clear h h0 h1 hr hcp e1 e2 e3
        go_enter Try.func82, Try.ntmps82
        go_wp2_with fail
        refine (CH.out _ K.out).mono ?_
        rintro e w1 ⟨rfl, hb⟩
        replace K := hide (btrans K.out hb)
        clear hb CH
        go_wp2_with fail
        refine (HS.out _ K.out).mono ?_
        rintro e w2 ⟨rfl, hb⟩
        replace K := hide (btrans K.out hb)
        clear hb HS
        go_wp2
        go_ret3
        exact ⟨none, 0, ret_sii (by rw [E3.out]; rfl) E2.out.symm E1.out.symm, by rw [E3.out]; exact owa_nil _ _, K.out⟩
    · have E1 := hide (e1.trans (show arE L a n = chE L from if_neg h0))
      have de : (chE L != 0) = true := by simpa using h0
      clear h h0 hr hcp HS e1 e2 e3
      generalize chE L = ce at *
      go_enter Try.func82, Try.ntmps82
      go_wp2_with fail
      refine (CH.out _ K.out).mono ?_
      rintro e w1 ⟨rfl, hb⟩
      replace K := hide (btrans K.out hb)
      clear hb CH
      go_wp2
      go_ret3
      exact ⟨none, 0, ret_sii (by rw [E3.out]; rfl) E2.out.symm E1.out.symm, by rw [E3.out]; exact owa_nil _ _, K.out⟩
/-- two lists are the same -/
theorem a5_ext {a b : A5} (h0 : a.pa = b.pa) (h1 : a.us = b.us) (h2 : a.mn = b.mn) (h3 : a.lo = b.lo) (h4 : a.mx = b.mx) : a = b := by
  cases a; cases b; simp only at h0 h1 h2 h3 h4; rw [h0, h1, h2, h3, h4]
end Go.Proofs.Ytimclgmajhhheaa.Ac
