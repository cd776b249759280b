import Derived.Test.YtclkflnonckajaaIns
namespace Go.Proofs.Ytclkflnonckajaa.Ac
open Go Go.RowKit
set_option linter.unusedVariables false
set_option linter.unusedSimpArgs false
theorem ret_ii {a b a' b' : Int} (h1 : a = a') (h2 : b = b') : Ending.returned (.tuple #[.int .i64 a, .int .i64 b]) = .returned (.tuple #[.int .i64 a', .int .i64 b']) := by rw [h1, h2]
theorem oc_bad {L : List A5} {fr : Int} (h : ocE L fr ≠ 0) : ocX L fr = 0 := if_neg h
theorem ocE_bad {L : List A5} {fr : Int} (h : chE L ≠ 0) : ocE L fr = chE L := if_neg h
theorem ocE_2 {L : List A5} {fr : Int} (h : chE L = 0) (h2 : ¬ inr fr) : ocE L fr = 2 := by unfold ocE; rw [if_pos h, if_neg h2]
theorem ocE_0 {L : List A5} {fr : Int} (h : chE L = 0) (h2 : inr fr) : ocE L fr = 0 := by unfold ocE; rw [if_pos h, if_pos h2]
theorem oc_at {L : List A5} {fr : Int} (h : ocE L fr = 0) {k : Nat} (hk : k < L.length) (hn : ∀ j, j < k → ov L fr j = false) (hy : ov L fr k = true) : ocX L fr = k := by
  unfold ocX; rw [if_pos h]; exact fst_at hy L.length 0 (Nat.zero_le _) (by omega) (fun i _ hi => hn i hi)
theorem oc_none {L : List A5} {fr : Int} (h : ocE L fr = 0) (hn : ∀ j, j < L.length → ov L fr j = false) : ocX L fr = -1 := by
  unfold ocX; rw [if_pos h]; exact fst_no L.length 0 (fun i _ hi => hn i (by omega))
theorem zero_only {P : Nat → Prop} (h : P 0) : ∀ j, j < 1 → P j := fun j hj => by
  obtain rfl : j = 0 := by omega
  exact h
theorem ov_0 (L : List A5) (fr : Int) : ov L fr 0 = decide (fr < pr L 0) := rfl
theorem ov_k (L : List A5) (fr : Int) {k : Nat} (h : 0 < k) : ov L fr k = decide (mn L k < pr L k) := by unfold ov; rw [if_neg (by omega)]
theorem pr_bd {L : List A5} (V : Vd L) (x : Int) : 0 ≤ pr L x ∧ pr L x ≤ 8388608 := kc_bd (L := L) (x := x) (f := mn L) L.length V.len.2 (fun i hi => (V.rg i hi).1.2)
set_option maxRecDepth 100000 in
set_option maxHeartbeats 8000000 in
theorem oc_any (A : Option Addr) (cp : Nat) (L : List A5) (fr : Int) (w : World) (hr : As w A L) (hcp : L.length ≤ cp) (hn : L.length ≤ 9223372036854775807) :
    Calls Try.prog 44 #[.slice A L.length cp, .int .i64 fr] w fun e w' => e = .returned (.tuple #[.int .i64 (ocX L fr), .int .i64 (ocE L fr)]) ∧ Below w.heap.size w w' := by
  have K := hide (brefl w)
  have CH := hide (check_any A cp L w hr hcp hn)
  have PN := hide (fun w => pnum_any fr w)
  by_cases h : chE L = 0
  · rw [h] at CH
    by_cases hi : inr fr
    · have V := hide (vd_of h)
      have HE := hide (ocE_0 h hi)
      have di := decide_eq_true hi
      have CS := hide (fun w' (hb : Below w.heap.size w w') => csmnf_any A cp L w' (hr.below hb) V.out hcp)
      unfold RIR at CS
      have CE := hide (fun (m : Nat) (hm : m < L.length) w' (hb : Below w.heap.size w w') => hr.cells hb hm)
      have h0L : 0 < L.length := V.out.len.1
      have h0L2 : (0 : Int) < (L.length : Int) := by omega
      have hl8 := V.out.len.2
      have AT := hide (fun (k : Nat) (hk : k < L.length) hn hy => oc_at (fr := fr) HE.out hk hn hy)
      have NN := hide (fun hn => oc_none (L := L) (fr := fr) HE.out hn)
      clear h hi hr hcp hn
      go_enter Try.func44, Try.ntmps44
      go_wp2_with fail
      refine CH.out.mono ?_
      rintro e w1 ⟨rfl, hb⟩
      replace K := hide (btrans K.out hb)
      clear hb CH
      go_wp2_with fail
      refine (PN.out _).mono ?_
      rintro e w9 ⟨rfl, rfl⟩
      go_wp2_with fail
      refine (CS.out _ K.out).mono ?_
      rintro e w2 ⟨g, rfl, hS, hg, hb⟩
      replace K := hide (btrans K.out hb)
      have S := hide hS
      have c0 : w2.cell? ⟨g, 0, none⟩ = some (.int .i64 (pr L 0)) := hS.cell h0L
      clear hb hS hg CS PN di
      have o0 := ov_0 L fr
      by_cases hc : fr < pr L 0
      · have E := hide (AT.out 0 h0L (fun j hj => absurd hj (by omega)) (o0.trans (decide_eq_true hc)))
        clear AT NN o0
        generalize pr L 0 = p0 at *
        go_wp2
        go_ret2
        exact ⟨ret_ii E.out.symm HE.out.symm, K.out⟩
      · have N0 := hide (show ∀ j, j < 1 → ov L fr j = false from zero_only (o0.trans (decide_eq_false hc)))
        clear o0
        generalize pr L 0 = p0 at c0 hc
        go_wp2
        clear c0
        go_loopw [8] (fun c wr => ∃ k : Nat, 1 ≤ k ∧ k ≤ L.length ∧ c = .int .i64 k ∧ Hid (∀ j, j < k → ov L fr j = false) ∧ Hid (RI wr g L.length (fun x => kc L (x : Nat) (mn L) L.length)) ∧ Hid (Below w.heap.size w wr)) (fun c _ => L.length - (intOf c).toNat)
        case atStart => exact ⟨1, by omega, by omega, rfl, N0, S, K⟩
        case round =>
          clear N0 S K
          obtain ⟨k, hk1, hk, rfl, N, S, K⟩ := hrel
          by_cases hlt : k < L.length
          · have hl2 : (k : Int) < (L.length : Int) := by omega
            have hk0 : (0 : Int) ≤ (k : Int) := by omega
            obtain ⟨b, off, rfl, hbl, y0, y1, y2, y3, y4⟩ := CE.out k hlt _ K.out
            have c1 : wr.cell? ⟨g, k, none⟩ = some (.int .i64 (pr L k)) := S.out.cell hlt
            have ok := ov_k L fr (show 0 < k by omega)
            clear y0 y1 y3 y4
            by_cases hq : mn L k < pr L k
            · have E := hide (AT.out k hlt N.out (ok.trans (decide_eq_true hq)))
              clear AT NN ok N
              generalize pr L k = p at *
              generalize mn L k = m at *
              go_wp2
              go_quiet (fail)
              generalize hwy : World.drewN wr _ = wy
              have hbq : Below wr.heap.size wr wy := by rw [← hwy]; exact below_drewN (brefl _) _
              replace K := hide (btrans K.out hbq)
              clear hwy hbq 
              go_wp2
              go_ret2
              exact ⟨ret_ii E.out.symm HE.out.symm, K.out⟩
            · have N2 := hide (all_next (P := fun j => ov L fr j = false) N.out (ok.trans (decide_eq_false hq)))
              clear ok N
              generalize pr L k = p at *
              generalize mn L k = m at *
              go_wp2
              go_quiet (fail)
              generalize hwy : World.drewN wr _ = wy
              have hbq : Below wr.heap.size wr wy := by rw [← hwy]; exact below_drewN (brefl _) _
              replace K := hide (btrans K.out hbq)
              replace S := hide (S.out.below hbq)
              clear hwy hbq y2 c1
              go_wp2
              go_roundw
              case rel => exact ⟨k + 1, by omega, by omega, by go_num, N2, S, K⟩
              case measure => simp [intOf]; omega
          · obtain rfl : k = L.length := by omega
            have E := hide (NN.out N.out)
            go_wp2
            go_ret2
            exact ⟨ret_ii E.out.symm HE.out.symm, K.out⟩
    · have HE := hide (ocE_2 h hi)
      have HX := hide (oc_bad (L := L) (fr := fr) (by rw [HE.out]; decide))
      have di := decide_eq_false hi
      clear h hi hr hcp
      go_enter Try.func44, Try.ntmps44
      go_wp2_with fail
      refine CH.out.mono ?_
      rintro e w1 ⟨rfl, hb⟩
      replace K := hide (btrans K.out hb)
      clear hb CH
      go_wp2_with fail
      refine (PN.out _).mono ?_
      rintro e w9 ⟨rfl, rfl⟩
      go_wp2
      go_ret2
      exact ⟨ret_ii HX.out.symm HE.out.symm, K.out⟩
  · have HE := hide (ocE_bad (fr := fr) h)
    have HX := hide (oc_bad (L := L) (fr := fr) (by rw [HE.out]; exact h))
    have de : (chE L != 0) = true := by simpa using h
    clear h hr hcp PN
    generalize chE L = ce at *
    go_enter Try.func44, Try.ntmps44
    go_wp2_with fail
    refine CH.out.mono ?_
    rintro e w1 ⟨rfl, hb⟩
    replace K := hide (btrans K.out hb)
    clear hb CH
    go_wp2
    go_ret2
    exact ⟨ret_ii HX.out.symm HE.out.symm, K.out⟩
set_option maxRecDepth 100000 in
set_option maxHeartbeats 8000000 in
theorem roc_any (A : Option Addr) (cp : Nat) (L : List A5) (fr : Int) (w : World) (hr : As w A L) (hn : L.length ≤ 9223372036854775807) :
    Calls Try.prog 45 #[.slice A L.length cp, .int .i64 fr] w fun e w' => e = .returned (.tuple #[.int .i64 (ocX L fr), .int .i64 (ocE L fr)]) ∧ Below w.heap.size w w' := by
  have K := hide (brefl w)
  have CH := hide (rcheck_any A cp L w hr hn)
  by_cases h : chE L = 0
  · rw [h] at CH
    by_cases f0 : fr < 0
    · have HE := hide (ocE_2 (fr := fr) h (fun g => by have := g.1; omega))
      have HX := hide (oc_bad (L := L) (fr := fr) (by rw [HE.out]; decide))
      clear h hr
      go_enter Try.func45, Try.ntmps45
      go_wp2_with fail
      refine CH.out.mono ?_
      rintro e w1 ⟨rfl, hb⟩
      replace K := hide (btrans K.out hb)
      clear hb CH
      go_wp2
      go_ret2
      exact ⟨ret_ii HX.out.symm HE.out.symm, K.out⟩
    · by_cases f1 : 1048576 < fr
      · have HE := hide (ocE_2 (fr := fr) h (fun g => by have := g.2; omega))
        have HX := hide (oc_bad (L := L) (fr := fr) (by rw [HE.out]; decide))
        clear h hr
        go_enter Try.func45, Try.ntmps45
        go_wp2_with fail
        refine CH.out.mono ?_
        rintro e w1 ⟨rfl, hb⟩
        replace K := hide (btrans K.out hb)
        clear hb CH
        go_wp2
        go_ret2
        exact ⟨ret_ii HX.out.symm HE.out.symm, K.out⟩
      · have V := hide (vd_of h)
        have HE := hide (ocE_0 (fr := fr) h ⟨by omega, by omega⟩)
        have CE := hide (fun (m : Nat) (hm : m < L.length) w' (hb : Below w.heap.size w w') => hr.cells hb hm)
        have h0L : 0 < L.length := V.out.len.1
        have hl8 := V.out.len.2
        have AT := hide (fun (k : Nat) (hk : k < L.length) hn hy => oc_at (fr := fr) HE.out hk hn hy)
        have NN := hide (fun hn => oc_none (L := L) (fr := fr) HE.out hn)
        clear h hr hn
        go_enter Try.func45, Try.ntmps45
        go_wp2_with fail
        refine CH.out.mono ?_
        rintro e w1 ⟨rfl, hb⟩
        replace K := hide (btrans K.out hb)
        clear hb CH
        go_wp2
        go_loopw [7] (fun c wr => ∃ x : Nat, x ≤ L.length ∧ c = .int .i64 x ∧ Hid (∀ j, j < x → ov L fr j = false) ∧ wr = w1) (fun c _ => L.length - (intOf c).toNat)
        case atStart => exact ⟨0, Nat.zero_le _, rfl, hide (fun j h => by omega), rfl⟩
        case round =>
          obtain ⟨x, hx, rfl, N, rfl⟩ := hrel
          by_cases hxl : x < L.length
          · have hxl2 : (x : Int) < (L.length : Int) := by omega
            have hx0 : (0 : Int) ≤ (x : Int) := by omega
            have hx9 : x < 9 := by omega
            have KL := hide (kc_low V.out.tr (x := x) (f := mn L) (x + 1) (Nat.le_refl _) (by omega))
            have BK := hide (fun (k : Nat) (hk : k ≤ L.length) => kc_bd (L := L) (x := (x : Int)) (f := mn L) k (by omega) (fun i hi => (V.out.rg i (by omega)).1.2))
            go_wp2
            go_loopw [8, 9] (fun s c wr2 => ∃ k : Nat, x + 1 ≤ k ∧ k ≤ L.length ∧ c = .int .i64 k ∧ s = .int .i64 (kc L (x : Int) (mn L) k) ∧ wr2 = wr) (fun _ c _ => L.length - (intOf c).toNat)
            case atStart => exact ⟨x + 1, Nat.le_refl _, by omega, by go_num, by rw [KL.out], rfl⟩
            case round =>
              obtain ⟨k, hk1, hk, rfl, rfl, rfl⟩ := hrel
              by_cases hlt : k < L.length
              · have hl2 : (k : Int) < (L.length : Int) := by omega
                have hk0 : (0 : Int) ≤ (k : Int) := by omega
                obtain ⟨b, off, rfl, hbl, y0, y1, y2, y3, y4⟩ := CE.out k hlt _ K.out
                have bk := BK.out k (by omega)
                have kr := (V.out.rg k hlt).1.2
                unfold inr at kr
                clear y1 y3 y4
                by_cases he : pa L k = x
                · have E := hide (kc_yes (f := mn L) (by omega) he)
                  rw [he] at y0
                  clear he
                  generalize mn L k = m at *
                  generalize kc L (x : Int) (mn L) k = s at *
                  go_wp2
                  go_roundw
                  case rel => exact ⟨k + 1, by omega, by omega, by go_num, by rw [E.out], trivial⟩
                  case measure => simp [intOf]; omega
                · have E := hide (kc_no (f := mn L) he)
                  have de : (pa L k == (x : Int)) = false := by simpa using he
                  clear he kr
                  generalize pa L k = p at *
                  generalize kc L (x : Int) (mn L) k = s at *
                  go_wp2
                  go_roundw
                  case rel => exact ⟨k + 1, by omega, by omega, by go_num, by rw [E.out], trivial⟩
                  case measure => simp [intOf]; omega
              · obtain rfl : k = L.length := by omega
                have PRX := hide (show kc L (x : Int) (mn L) L.length = pr L x from rfl)
                rw [PRX.out]
                obtain ⟨b, off, rfl, hbl, y0, y1, y2, y3, y4⟩ := CE.out x hxl _ K.out
                clear y0 y1 y3 y4 PRX BK KL
                by_cases h0 : x = 0
                · have o0 : ov L fr x = decide (fr < pr L x) := by rw [h0]; exact ov_0 L fr
                  have dz : ((x : Int) == 0) = true := by simp [h0]
                  have nz : ¬ 0 < x := by omega
                  have nz' : ¬ (0 : Int) < (x : Int) := by omega
                  clear h0
                  by_cases hc : fr < pr L x
                  · have E := hide (AT.out x hxl N.out (o0.trans (decide_eq_true hc)))
                    clear AT NN N o0
                    generalize pr L x = p at *
                    go_wp2
                    go_ret2
                    exact ⟨ret_ii E.out.symm HE.out.symm, K.out⟩
                  · have N2 := hide (all_next (P := fun j => ov L fr j = false) N.out (o0.trans (decide_eq_false hc)))
                    clear o0
                    generalize pr L x = p at *
                    go_wp2
                    go_roundw
                    case rel => exact ⟨x + 1, by omega, by go_num, N2, trivial⟩
                    case measure => simp [intOf]; omega
                · have ok := ov_k L fr (show 0 < x by omega)
                  have dz : ((x : Int) == 0) = false := by simp [h0]
                  have nz : 0 < x := by omega
                  have nz' : (0 : Int) < (x : Int) := by omega
                  clear h0
                  by_cases hc : mn L x < pr L x
                  · have E := hide (AT.out x hxl N.out (ok.trans (decide_eq_true hc)))
                    clear AT NN N ok
                    generalize pr L x = p at *
                    generalize mn L x = m at *
                    go_wp2
                    go_ret2
                    exact ⟨ret_ii E.out.symm HE.out.symm, K.out⟩
                  · have N2 := hide (all_next (P := fun j => ov L fr j = false) N.out (ok.trans (decide_eq_false hc)))
                    clear ok
                    generalize pr L x = p at *
                    generalize mn L x = m at *
                    go_wp2
                    go_roundw
                    case rel => exact ⟨x + 1, by omega, by go_num, N2, trivial⟩
                    case measure => simp [intOf]; omega
          · obtain rfl : x = L.length := by omega
            have E := hide (NN.out N.out)
            go_wp2
            go_ret2
            exact ⟨ret_ii E.out.symm HE.out.symm, K.out⟩
  · have HE := hide (ocE_bad (fr := fr) h)
    have HX := hide (oc_bad (L := L) (fr := fr) (by rw [HE.out]; exact h))
    have de : (chE L != 0) = true := by simpa using h
    clear h hr
    generalize chE L = ce at *
    go_enter Try.func45, Try.ntmps45
    go_wp2_with fail
    refine CH.out.mono ?_
    rintro e w1 ⟨rfl, hb⟩
    replace K := hide (btrans K.out hb)
    clear hb CH
    go_wp2
    go_ret2
    exact ⟨ret_ii HX.out.symm HE.out.symm, K.out⟩
end Go.Proofs.Ytclkflnonckajaa.Ac
