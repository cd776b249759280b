import Derived.Test.YtclkflnonckajaaL3
namespace Go.Proofs.Ytclkflnonckajaa.Ac
open Go Go.RowKit
set_option linter.unusedVariables false
set_option linter.unusedSimpArgs false
theorem cg_nil {L : List A5} {a n : Int} (h : cgE L a n ≠ 0) : cgL L a n = [] := if_neg h
theorem OwA.cap {B c : Nat} {w : World} {A : Option Addr} {M : List A5} (h : OwA B w (.slice A M.length c) M) : M.length ≤ c := by
  obtain ⟨_, _, ev, hq⟩ := row_form h
  injection ev with _ _ ev
  omega
set_option maxRecDepth 100000 in
set_option maxHeartbeats 8000000 in
theorem law_back (A : Option Addr) (cp : Nat) (L : List A5) (a n : Int) (W : World) (h : AIn W A L cp) : Calls Try.prog 8 #[.slice A L.length cp, .int .i64 a, .int .i64 n] W fun e w' => e = .returned (.bool true) ∧ Below W.heap.size W w' := by
  have AWK := hide (fun w => awake_any w)
  have C0 := hide (fun w => few_any A L.length cp w h.len)
  have HR := hide (fun w' (hb : Below W.heap.size W w') => h.rd.below hb)
  have HCP := hide h.cap
  have HN := hide h.len
  have K := hide (brefl W)
  by_cases h20 : (L.length : Int) ≤ 20
  · have d20 := decide_eq_true h20
    rw [d20] at C0
    clear h20 d20 h
    by_cases e1 : cgE L a n = 0
    · obtain ⟨q, hi, _, V1, ec, eb⟩ := cg_0 e1
      have V := hide (vd_of q.1)
      have UC := hide (cg_uc e1)
      have H1 := hide (And.intro e1 ec)
      have Q := hide q
      have hl1 := V.out.len.1
      have hl8 := V.out.len.2
      unfold inr at hi
      have BU := hide (fun (k : Nat) (hk : k < L.length) => (V.out.rg k hk).1.1)
      clear q V1 ec eb e1
      go_enter Try.func8, Try.ntmps8
      go_wp2_with fail
      refine (AWK.out _).mono ?_
      rintro e w1 ⟨rfl, hb⟩
      replace K := hide (btrans K.out hb)
      clear hb
      go_wp2_with fail
      refine (C0.out _).mono ?_
      rintro e w2 ⟨rfl, rfl⟩
      go_wp2_with fail
      refine (charge_unf A cp L a n _ (HR.out _ K.out) HCP.out HN.out).mono ?_
      rintro e w3 ⟨A1, c1, rfl, hO, hb⟩
      replace K := hide (btrans K.out hb)
      rw [H1.out.2] at hO ⊢
      rw [H1.out.1]
      have R1 := hide (OwA.as hO)
      have HC1 := hide (OwA.cap hO)
      clear hb hO
      rw [adL_len] at HC1 ⊢
      have K3 := hide (brefl w3)
      obtain ⟨hi0, hi1⟩ := hi
      go_wp2
      go_loopw [42] (fun c wr => ∃ k : Nat, k ≤ L.length ∧ c = .int .i64 k ∧ Hid (Below W.heap.size W wr) ∧ Hid (Below w3.heap.size w3 wr)) (fun c _ => L.length - (intOf c).toNat)
      case atStart => exact ⟨0, Nat.zero_le _, rfl, K, K3⟩
      case round =>
        clear K K3
        obtain ⟨k, hk, rfl, K, K3⟩ := hrel
        by_cases hlt : k < L.length
        · have hl2 : (k : Int) < (L.length : Int) := by omega
          have hk0 : (0 : Int) ≤ (k : Int) := by omega
          obtain ⟨b, off, rfl, hbl, y0, y1, y2, y3, y4⟩ := (HR.out _ (brefl W)).cells K.out hlt
          obtain ⟨b2, off2, rfl, hbl2, z0, z1, z2, z3, z4⟩ := R1.out.cells K3.out (show k < (adL L a n).length by rw [adL_len]; exact hlt)
          rw [adL_us hlt] at z1
          have Z1 := hide (show ∀ w', Below wr.heap.size wr w' → w'.cell? ⟨b2, off2 + k * 5 + 1, none⟩ = some (.int .i64 (us L k + n * ip L a k)) from fun w' h => (h.cell (p := ⟨b2, off2 + k * 5 + 1, none⟩) (Nat.lt_of_lt_of_le hbl2 K3.out.size)).trans z1)
          have IN := hide (inside_any (some ⟨b, off, none⟩) cp L a (k : Int) wr (HR.out _ K.out) HCP.out HN.out)
          rw [iR_s Q.out (show (k : Int) ≠ -1 by omega)] at IN
          have bu := BU.out k hlt
          unfold inr at bu
          obtain ⟨bu0, bu1⟩ := bu
          clear y0 y2 y3 y4 z0 z1 z2 z3 z4
          generalize us L k = u at *
          by_cases hm : (k : Int) ∈ pth L a
          · rw [show ip L a k = 1 from if_pos hm, Int.mul_one] at Z1
            rw [decide_eq_true hm] at IN
            clear hm
            go_wp2_with fail
            refine IN.out.mono ?_
            rintro e w5 ⟨rfl, hb⟩
            replace K := hide (btrans K.out hb)
            replace K3 := hide (btrans K3.out hb)
            have z1 := Z1.out _ hb
            clear hb IN Z1 y1
            go_wp2
            go_roundw
            case rel => exact ⟨k + 1, by omega, by go_num, K, K3⟩
            case measure => simp [intOf]; omega
          · rw [show ip L a k = 0 from if_neg hm, Int.mul_zero, Int.add_zero] at Z1
            rw [decide_eq_false hm] at IN
            clear hm
            go_wp2_with fail
            refine IN.out.mono ?_
            rintro e w5 ⟨rfl, hb⟩
            replace K := hide (btrans K.out hb)
            replace K3 := hide (btrans K3.out hb)
            have z1 := Z1.out _ hb
            clear hb IN Z1 y1
            go_wp2
            go_roundw
            case rel => exact ⟨k + 1, by omega, by go_num, K, K3⟩
            case measure => simp [intOf]; omega
        · obtain rfl : k = L.length := by omega
          have CC := hide (uncharge_unf A1 c1 (adL L a n) a n wr (R1.out.below K3.out) (by rw [adL_len]; exact HC1.out) (by rw [adL_len]; omega))
          rw [adL_len, UC.out.1, UC.out.2] at CC
          clear K3 R1
          go_wp2_with fail
          refine CC.out.mono ?_
          rintro e w5 ⟨A5', c5, rfl, hO, hb⟩
          replace K := hide (btrans K.out hb)
          have SM := hide (same_refl A5' A c5 cp L w5 (OwA.as hO) (HR.out _ K.out) HN.out)
          clear hb hO CC
          go_wp2_with fail
          refine SM.out.mono ?_
          rintro e w6 ⟨rfl, hb⟩
          replace K := hide (btrans K.out hb)
          clear hb
          go_wp2
          go_ret
          exact ⟨rfl, K.out⟩
    · have H1 := hide (cg_nil e1)
      have de : (cgE L a n != 0) = true := by simpa using e1
      clear e1
      go_enter Try.func8, Try.ntmps8
      go_wp2_with fail
      refine (AWK.out _).mono ?_
      rintro e w1 ⟨rfl, hb⟩
      replace K := hide (btrans K.out hb)
      clear hb
      go_wp2_with fail
      refine (C0.out _).mono ?_
      rintro e w2 ⟨rfl, rfl⟩
      go_wp2_with fail
      refine (charge_unf A cp L a n _ (HR.out _ K.out) HCP.out HN.out).mono ?_
      rintro e w3 ⟨A1, c1, rfl, hO, hb⟩
      replace K := hide (btrans K.out hb)
      rw [H1.out]
      clear hb hO
      generalize cgE L a n = ce at *
      go_wp2
      go_ret
      exact ⟨rfl, K.out⟩
  · have d20 := decide_eq_false h20
    rw [d20] at C0
    clear h20 d20 h
    go_enter Try.func8, Try.ntmps8
    go_wp2_with fail
    refine (AWK.out _).mono ?_
    rintro e w1 ⟨rfl, hb⟩
    replace K := hide (btrans K.out hb)
    clear hb
    go_wp2_with fail
    refine (C0.out _).mono ?_
    rintro e w2 ⟨rfl, rfl⟩
    go_wp2_with fail
    refine (AWK.out _).mono ?_
    rintro e w8 ⟨rfl, hb⟩
    replace K := hide (btrans K.out hb)
    clear hb
    go_wp2
    go_ret
    exact ⟨rfl, K.out⟩
end Go.Proofs.Ytclkflnonckajaa.Ac
