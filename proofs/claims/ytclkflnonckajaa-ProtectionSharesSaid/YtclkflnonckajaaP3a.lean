import Derived.Test.YtclkflnonckajaaQ10
namespace Go.Proofs.Ytclkflnonckajaa.Ac
open Go Go.RowKit
set_option linter.unusedVariables false
set_option linter.unusedSimpArgs false
theorem eR_len (L : List A5) : (eR L).length ≤ L.length := by
  unfold eR
  split
  · simp
  · exact Nat.zero_le _
theorem nR_len (L : List A5) (v : Is) : (nR L v).length ≤ L.length := by
  unfold nR
  split
  · simp
  · exact Nat.zero_le _
set_option maxRecDepth 100000 in
set_option maxHeartbeats 8000000 in
theorem law_shares (A : Option Addr) (cp : Nat) (L : List A5) (W : World) (h : AIn W A L cp) : Calls Try.prog 10 #[.slice A L.length cp] W fun e w' => e = .returned (.bool true) ∧ Below W.heap.size W w' := by
  have HR := hide (fun w' (hb : Below W.heap.size W w') => h.rd.below hb)
  have HCP := hide h.cap
  have HN := hide h.len
  have AWK := hide (fun w => awakep_any w)
  have C0 := hide (fun w => few2_any A none L.length 0 cp 0 w h.len (by decide))
  have K := hide (brefl W)
  cases hf : (decide ((L.length : Int) ≤ 40) && decide (((0 : Nat) : Int) ≤ 40)) with
  | false =>
    rw [hf] at C0
    clear hf h
    go_enter Try.func10, Try.ntmps10

    go_wp2_with fail
    refine (AWK.out _).mono ?_
    rintro e w1 ⟨rfl, hb⟩
    replace K := hide (btrans K.out hb)
    clear hb
    go_wp2_with fail
    refine (C0.out _).mono ?_
    rintro e w2 ⟨rfl, rfl⟩
    go_wp2_with fail
    refine (AWK.out _).mono ?_
    rintro e w3 ⟨rfl, hb⟩
    replace K := hide (btrans K.out hb)
    clear hb
    go_wp2
    go_ret
    exact ⟨rfl, K.out⟩
  | true =>
    rw [hf] at C0
    clear hf
    have EL := hide (Nat.le_trans (eR_len L) h.len)
    clear h
    go_enter Try.func10, Try.ntmps10
    go_wp2_with fail
    refine (AWK.out _).mono ?_
    rintro e w1 ⟨rfl, hb⟩
    replace K := hide (btrans K.out hb)
    clear hb
    go_wp2_with fail
    refine (C0.out _).mono ?_
    rintro e w2 ⟨rfl, rfl⟩
    go_wp2_with fail
    refine (eff_any A cp L _ (HR.out _ K.out) HCP.out HN.out).mono ?_
    rintro e w3 ⟨A3, c3, rfl, hB, hb⟩
    replace K := hide (btrans K.out hb)
    have B3 := hide hB
    clear hb hB
    go_wp2_with fail
    refine (reff_any A cp L _ (HR.out _ K.out) HN.out).mono ?_
    rintro e w4 ⟨A4, c4, rfl, hB, hb⟩
    replace K := hide (btrans K.out hb)
    replace B3 := hide (B3.out.below hb)
    have B4 := hide hB
    clear hb hB
    generalize chE L = ce at *
    generalize eR L = l at *
    go_wp2_with fail
    refine (isame_refl A3 A4 c3 c4 l _ B3.out B4.out EL.out).mono ?_
    rintro e w5 ⟨rfl, hb⟩
    replace K := hide (btrans K.out hb)
    clear hb
    go_wp2
    go_ret
    exact ⟨rfl, K.out⟩
end Go.Proofs.Ytclkflnonckajaa.Ac
