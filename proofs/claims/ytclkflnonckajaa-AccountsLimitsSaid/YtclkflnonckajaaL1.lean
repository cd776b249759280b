import Derived.Test.YtclkflnonckajaaAw
namespace Go.Proofs.Ytclkflnonckajaa.Ac
open Go Go.RowKit
set_option linter.unusedVariables false
set_option linter.unusedSimpArgs false
theorem pR_le (L : List A5) (a : Int) : (pR L a).length ≤ 8 := by
  by_cases h : chE L = 0 ∧ 0 ≤ a ∧ a < L.length
  · rw [pR_ok h]; exact (pth_nlen h).2
  · rw [pR_no h]; simp
set_option maxRecDepth 100000 in
set_option maxHeartbeats 8000000 in
theorem law_checks (A : Option Addr) (cp : Nat) (L : List A5) (W : World) (h : AIn W A L cp) : Calls Try.prog 3 #[.slice A L.length cp] W fun e w' => e = .returned (.bool true) ∧ Below W.heap.size W w' := by
  have AWK := hide (fun w => awake_any w)
  have C0 := hide (fun w => few_any A L.length cp w h.len)
  have HR := hide (fun w' (hb : Below W.heap.size W w') => h.rd.below hb)
  have HCP := hide h.cap
  have HN := hide h.len
  have K := hide (brefl W)
  clear h
  by_cases h20 : (L.length : Int) ≤ 20
  · have d20 := decide_eq_true h20
    rw [d20] at C0
    clear h20 d20
    go_enter Try.func3, Try.ntmps3
    go_wp2_with fail
    refine (AWK.out _).mono ?_
    rintro e w1 ⟨rfl, hb⟩
    replace K := hide (btrans K.out hb)
    clear hb
    go_wp2_with fail
    refine (C0.out _).mono ?_
    rintro e w2 ⟨rfl, rfl⟩
    go_wp2_with fail
    refine (check_any A cp L _ (HR.out _ K.out) HCP.out HN.out).mono ?_
    rintro e w4 ⟨rfl, hb⟩
    replace K := hide (btrans K.out hb)
    clear hb
    go_wp2_with fail
    refine (rcheck_any A cp L _ (HR.out _ K.out) HN.out).mono ?_
    rintro e w5 ⟨rfl, hb⟩
    replace K := hide (btrans K.out hb)
    clear hb
    generalize chE L = ce at *
    go_wp2_with fail
    refine (tot_any A cp L _ (HR.out _ K.out) HCP.out HN.out).mono ?_
    rintro e w6 ⟨rfl, hb⟩
    replace K := hide (btrans K.out hb)
    clear hb
    go_wp2_with fail
    refine (rtot_any A cp L _ (HR.out _ K.out) HCP.out HN.out).mono ?_
    rintro e w7 ⟨rfl, hb⟩
    replace K := hide (btrans K.out hb)
    clear hb
    generalize tR L = tr at *
    go_wp2
    go_ret
    exact ⟨rfl, K.out⟩
  · have d20 := decide_eq_false h20
    rw [d20] at C0
    clear h20 d20
    go_enter Try.func3, Try.ntmps3
    go_wp2_with fail
    refine (AWK.out _).mono ?_
    rintro e w1 ⟨rfl, hb⟩
    replace K := hide (btrans K.out hb)
    clear hb
    go_wp2_with fail
    refine (C0.out _).mono ?_
    rintro e w2 ⟨rfl, rfl⟩
    go_wp2_with fail
    refine (AWK.out _).mono ?_
    rintro e w3 ⟨rfl, hb⟩
    replace K := hide (btrans K.out hb)
    clear hb
    go_wp2
    go_ret
    exact ⟨rfl, K.out⟩
set_option maxRecDepth 100000 in
set_option maxHeartbeats 8000000 in
theorem law_paths (A : Option Addr) (cp : Nat) (L : List A5) (a s : Int) (W : World) (h : AIn W A L cp) : Calls Try.prog 4 #[.slice A L.length cp, .int .i64 a, .int .i64 s] W fun e w' => e = .returned (.bool true) ∧ Below W.heap.size W w' := by
  have AWK := hide (fun w => awake_any w)
  have C0 := hide (fun w => few_any A L.length cp w h.len)
  have HR := hide (fun w' (hb : Below W.heap.size W w') => h.rd.below hb)
  have HCP := hide h.cap
  have HN := hide h.len
  have K := hide (brefl W)
  clear h
  by_cases h20 : (L.length : Int) ≤ 20
  · have d20 := decide_eq_true h20
    rw [d20] at C0
    clear h20 d20
    go_enter Try.func4, Try.ntmps4
    go_wp2_with fail
    refine (AWK.out _).mono ?_
    rintro e w1 ⟨rfl, hb⟩
    replace K := hide (btrans K.out hb)
    clear hb
    go_wp2_with fail
    refine (C0.out _).mono ?_
    rintro e w2 ⟨rfl, rfl⟩
    go_wp2_with fail
    refine (path_any A cp L a _ (HR.out _ K.out) HCP.out HN.out).mono ?_
    rintro e w4 ⟨A1, c1, rfl, hO, hb⟩
    replace K := hide (btrans K.out hb)
    have P1 := hide (OwI.bi hO)
    clear hb hO
    go_wp2_with fail
    refine (rpath_any A cp L a _ (HR.out _ K.out) HCP.out HN.out).mono ?_
    rintro e w5 ⟨A2, c2, rfl, hO, hb⟩
    replace K := hide (btrans K.out hb)
    have P2 := hide (OwI.bi hO)
    replace P1 := hide (P1.out.below hb)
    clear hb hO
    have pl := pR_le L a
    generalize pR L a = P at *
    go_wp2
    go_loopw [9, 37] (fun _ c wr => ∃ k : Nat, k ≤ P.length ∧ c = .int .i64 k ∧ Hid (Below w5.heap.size w5 wr)) (fun _ c _ => P.length - (intOf c).toNat)
    case atStart => exact ⟨0, by omega, rfl, hide (brefl w5)⟩
    case round =>
      obtain ⟨k, hk, rfl, KK⟩ := hrel
      by_cases hlt : k < P.length
      · have hl2 : (k : Int) < (P.length : Int) := by omega
        have hk0 : (0 : Int) ≤ (k : Int) := by omega
        obtain ⟨b, off, rfl, _, y0⟩ := P1.out.cells KK.out hlt
        obtain ⟨b2, off2, rfl, _, x0⟩ := P2.out.cells KK.out hlt
        generalize P.getD k 0 = z at *
        go_wp2
        go_quiet (fail)
        generalize hwy : World.drewN wr _ = wy
        have hbq : Below wr.heap.size wr wy := by rw [← hwy]; exact below_drewN (brefl _) _
        replace KK := hide (btrans KK.out hbq)
        clear hwy hbq x0 y0
        go_wp2
        go_roundw
        case rel => exact ⟨k + 1, by omega, by go_num, KK⟩
        case measure => simp [intOf]; omega
      · obtain rfl : k = P.length := by omega
        replace K := hide (btrans K.out KK.out)
        clear KK P1 P2
        go_wp2_with fail
        refine (margin_any A cp L a _ (HR.out _ K.out) HCP.out HN.out).mono ?_
        rintro e w6 ⟨rfl, hb⟩
        replace K := hide (btrans K.out hb)
        clear hb
        go_wp2_with fail
        refine (rmargin_any A cp L a _ (HR.out _ K.out) HCP.out HN.out).mono ?_
        rintro e w7 ⟨rfl, hb⟩
        replace K := hide (btrans K.out hb)
        clear hb
        generalize mM L a = mm at *
        generalize mB L a = mb at *
        generalize mE L a = me at *
        go_wp2_with fail
        refine (inside_any A cp L a s _ (HR.out _ K.out) HCP.out HN.out).mono ?_
        rintro e w8 ⟨rfl, hb⟩
        replace K := hide (btrans K.out hb)
        clear hb
        go_wp2_with fail
        refine (rinside_any A cp L a s _ (HR.out _ K.out) HCP.out HN.out).mono ?_
        rintro e w9 ⟨rfl, hb⟩
        replace K := hide (btrans K.out hb)
        clear hb
        generalize iR L a s = ir at *
        go_wp2_with fail
        refine (ownf_any A cp L a _ (HR.out _ K.out) HCP.out HN.out).mono ?_
        rintro e w10 ⟨rfl, hb⟩
        replace K := hide (btrans K.out hb)
        clear hb
        go_wp2_with fail
        refine (rown_any A cp L a _ (HR.out _ K.out) HCP.out HN.out).mono ?_
        rintro e w11 ⟨rfl, hb⟩
        replace K := hide (btrans K.out hb)
        clear hb
        generalize oR L a = oo at *
        go_wp2
        go_ret
        exact ⟨rfl, K.out⟩
  · have d20 := decide_eq_false h20
    rw [d20] at C0
    clear h20 d20
    go_enter Try.func4, Try.ntmps4
    go_wp2_with fail
    refine (AWK.out _).mono ?_
    rintro e w1 ⟨rfl, hb⟩
    replace K := hide (btrans K.out hb)
    clear hb
    go_wp2_with fail
    refine (C0.out _).mono ?_
    rintro e w2 ⟨rfl, rfl⟩
    go_wp2_with fail
    refine (AWK.out _).mono ?_
    rintro e w3 ⟨rfl, hb⟩
    replace K := hide (btrans K.out hb)
    clear hb
    go_wp2
    go_ret
    exact ⟨rfl, K.out⟩
end Go.Proofs.Ytclkflnonckajaa.Ac
