import Derived.Test.YtclkflnonckajaaQ10
namespace Go.Proofs.Ytclkflnonckajaa.Ac
open Go Go.RowKit
set_option linter.unusedVariables false
set_option linter.unusedSimpArgs false
section
variable {L : List A5} {v : Is}
theorem gdP_up {x p : Int} {low : Bool} (hp : p < x) : ∀ P : Is, P.Pairwise (· > ·) → x ∈ P → gdP L v x low P = true → gdP L v p low P = true
  | [], _, h, _ => by cases h
  | y :: l, hd, hx, h => by
    obtain ⟨h1, h2⟩ := List.pairwise_cons.1 hd
    unfold gdP at h ⊢
    by_cases c : 0 < y ∧ y ≠ x
    · rw [if_pos c] at h
      have hxl : x ∈ l := by
        rcases List.mem_cons.1 hx with e | e
        · exact absurd e.symm c.2
        · exact e
      have := h1 x hxl
      rw [if_pos ⟨c.1, by omega⟩]
      cases hg : gu L v low y with
      | true => rfl
      | false =>
        rw [hg] at h
        have h' : gdP L v x low l = true := h
        rw [gdP_up hp l h2 hxl h']
        exact Bool.or_true _
    · rw [if_neg c] at h
      exact absurd h (by decide)
theorem gdP_low {s : Int} (hm : ∀ i, i < L.length → mn L i ≤ lo L i) : ∀ P : Is, (∀ y ∈ P, 0 ≤ y ∧ y < (L.length : Int)) → gdP L v s false P = true → gdP L v s true P = true
  | [], _, h => h
  | y :: l, hP, h => by
    unfold gdP at h ⊢
    by_cases c : 0 < y ∧ y ≠ s
    · rw [if_pos c] at h ⊢
      cases hg : gu L v false y with
      | true =>
        have hy := hP y (List.mem_cons_self ..)
        have h1 := hm y.toNat (by omega)
        have h2 : us L y.toNat - tS L v y.toNat ≤ mn L y.toNat := of_decide_eq_true hg
        have h3 : gu L v true y = true := decide_eq_true (show us L y.toNat - tS L v y.toNat ≤ lo L y.toNat by omega)
        rw [h3]; rfl
      | false =>
        rw [hg] at h
        have h' : gdP L v s false l = true := h
        rw [gdP_low hm l (fun z hz => hP z (List.mem_cons_of_mem _ hz)) h']
        exact Bool.or_true _
    · rw [if_neg c] at h
      exact absurd h (by decide)
theorem gR_low {a s : Int} (hm : ∀ i, i < L.length → mn L i ≤ lo L i) (g : gR L v a s false = true) : gR L v a s true = true := by
  by_cases h : vlv L v ∧ iR L a s = true
  · rw [gR_ok (low := true) h]
    rw [gR_ok (low := false) h] at g
    have q := iR_ok h.2
    exact gdP_low hm _ (PIn.pth (vd_of q.1.1) q.1.2.1 q.1.2.2).mem g
  · exact gR_no h
theorem gR_up2 {a x : Int} {low : Bool} (q : chE L = 0 ∧ 0 ≤ a ∧ a < L.length) (hx : x ∈ pth L a) (g : gR L v a x low = true) : gR L v a (pa L x.toNat) low = true := by
  by_cases h : vlv L v ∧ iR L a (pa L x.toNat) = true
  · have V := vd_of q.1
    have hr := (PIn.pth V q.2.1 q.2.2).mem x hx
    have hp := tr_pa V.tr (k := x.toNat) (by omega)
    have hi : iR L a x = true := by unfold iR; rw [decide_eq_true q, decide_eq_true hx]; simp
    rw [gR_ok (low := low) h]
    rw [gR_ok (low := low) ⟨h.1, hi⟩] at g
    exact gdP_up (by omega) _ (pth_dec V.tr V.len.2 a (by omega) q.2.2) hx g
  · exact gR_no h
theorem pth_pa (V : Vd L) : ∀ a : Int, -1 ≤ a → a < L.length → ∀ x ∈ pth L a, pa L x.toNat = -1 ∨ pa L x.toNat ∈ pth L a := by
  refine pth_ind V.tr V.len.2 (P := fun a l => ∀ x ∈ l, pa L x.toNat = -1 ∨ pa L x.toNat ∈ l) (fun x hx => by cases hx) (fun a ha ih x hx => ?_)
  have hp := tr_pa V.tr ha
  rcases List.mem_cons.1 hx with rfl | h
  · rw [Int.toNat_natCast]
    by_cases e : pa L a = -1
    · exact .inl e
    · obtain ⟨p, hpp⟩ := Int.eq_ofNat_of_zero_le (show 0 ≤ pa L a by omega)
      refine .inr (List.mem_cons_of_mem _ ?_)
      rw [hpp, pth_cons V.tr V.len.2 (a := p) (by omega)]
      exact List.mem_cons_self ..
  · exact (ih x h).imp_right (List.mem_cons_of_mem _)
theorem pth_self (V : Vd L) {a : Int} (h0 : 0 ≤ a) (h1 : a < L.length) : a ∈ pth L a := by
  obtain ⟨k, rfl⟩ := Int.eq_ofNat_of_zero_le h0
  rw [pth_cons V.tr V.len.2 (a := k) (by omega)]
  exact List.mem_cons_self ..
end
set_option maxRecDepth 100000 in
set_option maxHeartbeats 16000000 in
theorem law_wider (A : Option Addr) (cp : Nat) (L : List A5) (AV : Option Addr) (cv : Nat) (v : Is) (a : Int) (W : World) (h : AIn W A L cp) (hv : Bi W AV v) (hvl : v.length ≤ 9223372036854775807) (hvw : ∀ f ∈ v, i64r f) : Calls Try.prog 16 #[.slice A L.length cp, .slice AV v.length cv, .int .i64 a] W fun e w' => e = .returned (.bool true) ∧ Below W.heap.size W w' := by
  have HR := hide (fun w' (hb : Below W.heap.size W w') => h.rd.below hb)
  have HCP := hide h.cap
  have HN := hide h.len
  have AWK := hide (fun w => awakep_any w)
  have K := hide (brefl W)
  by_cases hc : chE L = 0
  · have HC := hide hc
    have V := hide (vd_of hc)
    by_cases hvl1 : v.length = L.length
    · have HVL := hide hvl1
      have HV := hide hv
      by_cases a0 : a < 0
      · rw [hvl1]
        clear hc h hv hvl1
        go_enter Try.func16, Try.ntmps16
        go_wp2_with fail
        refine (AWK.out _).mono ?_
        rintro e w1 ⟨rfl, hb⟩
        replace K := hide (btrans K.out hb)
        clear hb
        go_wp2_with fail
        refine (rcheck_any A cp L _ (HR.out _ K.out) HN.out).mono ?_
        rintro e w2 ⟨rfl, hb⟩
        replace K := hide (btrans K.out hb)
        clear hb
        rw [HC.out]
        go_wp2_with fail
        refine (AWK.out _).mono ?_
        rintro e w3 ⟨rfl, hb⟩
        replace K := hide (btrans K.out hb)
        clear hb
        go_wp2
        go_ret
        exact ⟨rfl, K.out⟩
      · by_cases a1 : (L.length : Int) ≤ a
        · rw [hvl1]
          clear hc h hv hvl1
          go_enter Try.func16, Try.ntmps16
          go_wp2_with fail
          refine (AWK.out _).mono ?_
          rintro e w1 ⟨rfl, hb⟩
          replace K := hide (btrans K.out hb)
          clear hb
          go_wp2_with fail
          refine (rcheck_any A cp L _ (HR.out _ K.out) HN.out).mono ?_
          rintro e w2 ⟨rfl, hb⟩
          replace K := hide (btrans K.out hb)
          clear hb
          rw [HC.out]
          go_wp2_with fail
          refine (AWK.out _).mono ?_
          rintro e w3 ⟨rfl, hb⟩
          replace K := hide (btrans K.out hb)
          clear hb
          go_wp2
          go_ret
          exact ⟨rfl, K.out⟩
        · have q := hide (show chE L = 0 ∧ 0 ≤ a ∧ a < L.length from ⟨hc, by omega, by omega⟩)
          have GU := hide (fun (s : Int) (low : Bool) w' (hb : Below W.heap.size W w') => guard_any A AV cp cv L v a s low w' (HR.out _ hb) (hv.below hb) HCP.out HN.out hvl)
          rw [hvl1] at GU ⊢
          have hl1 := V.out.len.1
          have hl8 := V.out.len.2
          clear hc h hv hvl1
          go_enter Try.func16, Try.ntmps16
          go_wp2_with fail
          refine (AWK.out _).mono ?_
          rintro e w1 ⟨rfl, hb⟩
          replace K := hide (btrans K.out hb)
          clear hb
          go_wp2_with fail
          refine (rcheck_any A cp L _ (HR.out _ K.out) HN.out).mono ?_
          rintro e w2 ⟨rfl, hb⟩
          replace K := hide (btrans K.out hb)
          clear hb
          rw [HC.out]
          go_wp2
          go_loopw [7, 38] (fun _ c wr => ∃ k : Nat, k ≤ L.length ∧ c = .int .i64 k ∧ Hid (∀ j, j < k → mn L j ≤ lo L j) ∧ Hid (Below W.heap.size W wr)) (fun _ c _ => L.length - (intOf c).toNat)
          case atStart => exact ⟨0, Nat.zero_le _, rfl, hide (fun j h => absurd h (by omega)), K⟩
          case round =>
            clear K
            obtain ⟨k, hk, rfl, N, K⟩ := hrel
            by_cases hlt : k < L.length
            · have hl2 : (k : Int) < (L.length : Int) := by omega
              have hk0 : (0 : Int) ≤ (k : Int) := by omega
              obtain ⟨b, off, rfl, hbl, y0, y1, y2, y3, y4⟩ := HR.out _ K.out |>.cells (brefl _) hlt
              obtain ⟨b2, off2, rfl, hbl2, z0⟩ := HV.out.cells K.out (show k < v.length by have := HVL.out; omega)
              have N1 := hide (fun h => all_next (P := fun j => mn L j ≤ lo L j) N.out h)
              clear N GU q hbl hbl2 HV
              generalize us L k = u at *
              generalize mn L k = n at *
              generalize lo L k = l at *
              generalize v.getD k 0 = z at *
              by_cases c1 : l < n
              · have hd1 := decide_eq_true c1
                go_wp2
                go_quiet (fail)
                generalize hwy : World.drewN wr _ = wy
                have hbq : Below wr.heap.size wr wy := by rw [← hwy]; exact below_drewN (brefl _) _
                replace K := hide (btrans K.out hbq)
                clear hwy hbq y0 y1 y2 y3 y4 z0
                go_wp2
                go_ret
                exact ⟨rfl, K.out⟩
              · have hd1 := decide_eq_false c1
                by_cases c2 : z < 0
                · have hd2 := decide_eq_true c2
                  go_wp2
                  go_quiet (fail)
                  generalize hwy : World.drewN wr _ = wy
                  have hbq : Below wr.heap.size wr wy := by rw [← hwy]; exact below_drewN (brefl _) _
                  replace K := hide (btrans K.out hbq)
                  clear hwy hbq y0 y1 y2 y3 y4 z0
                  go_wp2
                  go_ret
                  exact ⟨rfl, K.out⟩
                · have hd2 := decide_eq_false c2
                  by_cases c3 : u < z
                  · have hd3 := decide_eq_true c3
                    go_wp2
                    go_quiet (fail)
                    generalize hwy : World.drewN wr _ = wy
                    have hbq : Below wr.heap.size wr wy := by rw [← hwy]; exact below_drewN (brefl _) _
                    replace K := hide (btrans K.out hbq)
                    clear hwy hbq y0 y1 y2 y3 y4 z0
                    go_wp2
                    go_ret
                    exact ⟨rfl, K.out⟩
                  · have hd3 := decide_eq_false c3
                    have N2 := hide (N1.out (by omega))
                    clear N1
                    go_wp2
                    go_quiet (fail)
                    generalize hwy : World.drewN wr _ = wy
                    have hbq : Below wr.heap.size wr wy := by rw [← hwy]; exact below_drewN (brefl _) _
                    replace K := hide (btrans K.out hbq)
                    clear hwy hbq y0 y1 y2 y3 y4 z0
                    go_wp2
                    go_roundw
                    case rel => exact ⟨k + 1, by omega, by go_num, N2, K⟩
                    case measure => simp [intOf]; omega
            · obtain rfl : k = L.length := by omega
              have LOW := hide (fun s (g : gR L v a s false = true) => gR_low (L := L) (v := v) (a := a) (s := s) N.out g)
              have UP := hide (fun x hx (g : gR L v a x false = true) => gR_up2 (low := false) q.out hx g)
              have PA := hide (pth_pa V.out a (by omega) (by omega))
              have PS := hide (pth_self V.out (a := a) (by omega) (by omega))
              have PI := hide (PIn.pth V.out q.out.2.1 q.out.2.2)
              clear N q HV
              go_wp2
              go_loopw [8, 9, 10] (fun f c _ wr => ∃ (x : Int) (f0 : Bool), -1 ≤ x ∧ x < L.length ∧ c = .int .i64 x ∧ f = .bool f0 ∧ Hid (x = -1 ∨ x ∈ pth L a) ∧ Hid (f0 = true → gR L v a x false = true) ∧ Hid (Below W.heap.size W wr)) (fun _ c _ _ => (intOf c + 1).toNat)
              case atStart => exact ⟨a, false, by omega, by omega, rfl, rfl, hide (.inr PS.out), hide (fun h => by cases h), K⟩
              case round =>
                clear K
                obtain ⟨x, f0, hx0, hx1, rfl, rfl, M, F, K⟩ := hrel
                have G := hide (GU.out x)
                have LW := hide (LOW.out x)
                have UX := hide (UP.out x)
                cases hg : gR L v a x false with
                | false =>
                  have hf : f0 = false := by
                    cases f0 with
                    | false => rfl
                    | true => rw [F.out rfl] at hg; cases hg
                  subst hf
                  have GF := hide (fun w' hb => G.out false w' hb)
                  rw [hg] at GF
                  clear hg F G LW UX UP LOW GU
                  by_cases hx : x = -1
                  · subst hx
                    clear M PA PS PI
                    go_wp2_with fail
                    refine (GF.out _ K.out).mono ?_
                    rintro e w5 ⟨rfl, hb⟩
                    replace K := hide (btrans K.out hb)
                    clear hb GF
                    go_wp2
                    go_ret
                    exact ⟨rfl, K.out⟩
                  · have hxm : x ∈ pth L a := M.out.resolve_left hx
                    have hpr := PA.out x hxm
                    have hxr := PI.out.mem x hxm
                    obtain ⟨k, rfl⟩ := Int.eq_ofNat_of_zero_le hxr.1
                    have hk : k < L.length := by omega
                    have hk0 : (0 : Int) ≤ (k : Int) := by omega
                    rw [Int.toNat_natCast] at hpr
                    have hpt := tr_pa V.out.tr hk
                    have HP := hide hpr
                    have HX := hide hx
                    clear M PA PS hxm hpr hx
                    go_wp2_with fail
                    refine (GF.out _ K.out).mono ?_
                    rintro e w5 ⟨rfl, hb⟩
                    replace K := hide (btrans K.out hb)
                    clear hb GF
                    obtain ⟨b, off, rfl, hbl, y0, y1, y2, y3, y4⟩ := HR.out _ K.out |>.cells (brefl _) hk
                    have hx := HX.out
                    clear y1 y2 y3 y4 hbl
                    generalize pa L k = p at *
                    go_wp2
                    go_roundw
                    case rel => exact ⟨p, false, by omega, by omega, rfl, rfl, HP, hide (fun h => by cases h), K⟩
                    case measure => simp [intOf]; omega
                | true =>
                  have GF := hide (fun w' hb => G.out false w' hb)
                  rw [hg] at GF
                  have GT := hide (fun w' hb => G.out true w' hb)
                  rw [LW.out hg] at GT
                  have HG := hide hg
                  clear hg F G LW UP LOW GU
                  cases f0 with
                  | false =>
                    by_cases hx : x = -1
                    · subst hx
                      clear M PA PS PI UX
                      go_wp2_with fail
                      refine (GF.out _ K.out).mono ?_
                      rintro e w5 ⟨rfl, hb⟩
                      replace K := hide (btrans K.out hb)
                      clear hb GF
                      go_wp2_with fail
                      refine (GT.out _ K.out).mono ?_
                      rintro e w6 ⟨rfl, hb⟩
                      replace K := hide (btrans K.out hb)
                      clear hb GT
                      go_wp2
                      go_ret
                      exact ⟨rfl, K.out⟩
                    · have hxm : x ∈ pth L a := M.out.resolve_left hx
                      have hpr := PA.out x hxm
                      have hxr := PI.out.mem x hxm
                      have U2 := UX.out hxm HG.out
                      obtain ⟨k, rfl⟩ := Int.eq_ofNat_of_zero_le hxr.1
                      have hk : k < L.length := by omega
                      have hk0 : (0 : Int) ≤ (k : Int) := by omega
                      rw [Int.toNat_natCast] at hpr U2
                      have hpt := tr_pa V.out.tr hk
                      have HP := hide hpr
                      have HX := hide hx
                      have HU := hide U2
                      clear M PA PS hxm hpr hx UX U2 HG
                      go_wp2_with fail
                      refine (GF.out _ K.out).mono ?_
                      rintro e w5 ⟨rfl, hb⟩
                      replace K := hide (btrans K.out hb)
                      clear hb GF
                      go_wp2_with fail
                      refine (GT.out _ K.out).mono ?_
                      rintro e w6 ⟨rfl, hb⟩
                      replace K := hide (btrans K.out hb)
                      clear hb GT
                      obtain ⟨b, off, rfl, hbl, y0, y1, y2, y3, y4⟩ := HR.out _ K.out |>.cells (brefl _) hk
                      have hx := HX.out
                      clear y1 y2 y3 y4 hbl
                      generalize pa L k = p at *
                      go_wp2
                      go_roundw
                      case rel => exact ⟨p, true, by omega, by omega, rfl, rfl, HP, hide (fun _ => HU.out), K⟩
                      case measure => simp [intOf]; omega
                  | true =>
                    by_cases hx : x = -1
                    · subst hx
                      clear M PA PS PI UX
                      go_wp2_with fail
                      refine (GF.out _ K.out).mono ?_
                      rintro e w5 ⟨rfl, hb⟩
                      replace K := hide (btrans K.out hb)
                      clear hb GF
                      go_wp2_with fail
                      refine (GT.out _ K.out).mono ?_
                      rintro e w6 ⟨rfl, hb⟩
                      replace K := hide (btrans K.out hb)
                      clear hb GT
                      go_wp2
                      go_ret
                      exact ⟨rfl, K.out⟩
                    · have hxm : x ∈ pth L a := M.out.resolve_left hx
                      have hpr := PA.out x hxm
                      have hxr := PI.out.mem x hxm
                      have U2 := UX.out hxm HG.out
                      obtain ⟨k, rfl⟩ := Int.eq_ofNat_of_zero_le hxr.1
                      have hk : k < L.length := by omega
                      have hk0 : (0 : Int) ≤ (k : Int) := by omega
                      rw [Int.toNat_natCast] at hpr U2
                      have hpt := tr_pa V.out.tr hk
                      have HP := hide hpr
                      have HX := hide hx
                      have HU := hide U2
                      clear M PA PS hxm hpr hx UX U2 HG
                      go_wp2_with fail
                      refine (GF.out _ K.out).mono ?_
                      rintro e w5 ⟨rfl, hb⟩
                      replace K := hide (btrans K.out hb)
                      clear hb GF
                      go_wp2_with fail
                      refine (GT.out _ K.out).mono ?_
                      rintro e w6 ⟨rfl, hb⟩
                      replace K := hide (btrans K.out hb)
                      clear hb GT
                      obtain ⟨b, off, rfl, hbl, y0, y1, y2, y3, y4⟩ := HR.out _ K.out |>.cells (brefl _) hk
                      have hx := HX.out
                      clear y1 y2 y3 y4 hbl
                      generalize pa L k = p at *
                      go_wp2
                      go_roundw
                      case rel => exact ⟨p, true, by omega, by omega, rfl, rfl, HP, hide (fun _ => HU.out), K⟩
                      case measure => simp [intOf]; omega
    · have HVL := hide hvl1
      have de1 : ((v.length : Int) == (L.length : Int)) = false := by simp; omega
      have de2 : (v.length == L.length) = false := by simp; omega
      have de6 : ¬ (v.length : Int) = (L.length : Int) := by omega
      have de7 : ((v.length : Int) != (L.length : Int)) = true := by simp; omega
      clear hc h hvl1 hv
      go_enter Try.func16, Try.ntmps16
      go_wp2_with fail
      refine (AWK.out _).mono ?_
      rintro e w1 ⟨rfl, hb⟩
      replace K := hide (btrans K.out hb)
      clear hb
      go_wp2_with fail
      refine (rcheck_any A cp L _ (HR.out _ K.out) HN.out).mono ?_
      rintro e w2 ⟨rfl, hb⟩
      replace K := hide (btrans K.out hb)
      clear hb
      rw [HC.out]
      go_wp2_with fail
      refine (AWK.out _).mono ?_
      rintro e w3 ⟨rfl, hb⟩
      replace K := hide (btrans K.out hb)
      clear hb
      go_wp2
      go_ret
      exact ⟨rfl, K.out⟩
  · have de : (chE L != 0) = true := by simpa using hc
    have de3 : (chE L == 0) = false := by simpa using hc
    have de4 : ¬ chE L = 0 := hc
    have de5 : decide (chE L = 0) = false := decide_eq_false hc
    clear hc h hv
    go_enter Try.func16, Try.ntmps16
    go_wp2_with fail
    refine (AWK.out _).mono ?_
    rintro e w1 ⟨rfl, hb⟩
    replace K := hide (btrans K.out hb)
    clear hb
    go_wp2_with fail
    refine (rcheck_any A cp L _ (HR.out _ K.out) HN.out).mono ?_
    rintro e w2 ⟨rfl, hb⟩
    replace K := hide (btrans K.out hb)
    clear hb
    generalize chE L = ce at *
    go_wp2_with fail
    refine (AWK.out _).mono ?_
    rintro e w3 ⟨rfl, hb⟩
    replace K := hide (btrans K.out hb)
    clear hb
    go_wp2
    go_ret
    exact ⟨rfl, K.out⟩
end Go.Proofs.Ytclkflnonckajaa.Ac
