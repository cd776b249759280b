import Derived.Test.YtclkflnonckajaaP3a
namespace Go.Proofs.Ytclkflnonckajaa.Ac
open Go Go.RowKit
set_option linter.unusedVariables false
set_option linter.unusedSimpArgs false
set_option maxRecDepth 100000 in
set_option maxHeartbeats 8000000 in
theorem law_sums (A : Option Addr) (cp : Nat) (L : List A5) (AV : Option Addr) (cv : Nat) (v : Is) (f : Int) (W : World) (h : AIn W A L cp) (hv : Bi W AV v) (hvl : v.length ≤ 9223372036854775807) : Calls Try.prog 12 #[.slice A L.length cp, .slice AV v.length cv, .int .i64 f] W fun e w' => e = .returned (.bool true) ∧ Below W.heap.size W w' := by
  have HR := hide (fun w' (hb : Below W.heap.size W w') => h.rd.below hb)
  have HCP := hide h.cap
  have HN := hide h.len
  have AWK := hide (fun w => awakep_any w)
  have C0 := hide (fun w => few2_any A AV L.length v.length cp cv w h.len hvl)
  have K := hide (brefl W)
  cases hf : (decide ((L.length : Int) ≤ 40) && decide (((v.length : Nat) : Int) ≤ 40)) with
  | false =>
    rw [hf] at C0
    clear hf h
    go_enter Try.func12, Try.ntmps12

    go_wp2_with fail
    refine (AWK.out _).mono ?_
    rintro e w1 ⟨rfl, hb⟩
    replace K := hide (btrans K.out hb)
    clear hb
    go_wp2_with fail
    refine (C0.out _).mono ?_
    rintro e w2 ⟨rfl, rfl⟩
    go_wp2_with fail
    refine (AWK.out _).mono ?_
    rintro e w3 ⟨rfl, hb⟩
    replace K := hide (btrans K.out hb)
    clear hb
    go_wp2
    go_ret
    exact ⟨rfl, K.out⟩
  | true =>
    rw [hf] at C0
    clear hf
    have NL := hide (Nat.le_trans (nR_len L v) h.len)
    clear h
    go_enter Try.func12, Try.ntmps12
    go_wp2_with fail
    refine (AWK.out _).mono ?_
    rintro e w1 ⟨rfl, hb⟩
    replace K := hide (btrans K.out hb)
    clear hb
    go_wp2_with fail
    refine (C0.out _).mono ?_
    rintro e w2 ⟨rfl, rfl⟩
    go_wp2_with fail
    refine (oc_any A cp L f _ (HR.out _ K.out) HCP.out HN.out).mono ?_
    rintro e w3 ⟨rfl, hb⟩
    replace K := hide (btrans K.out hb)
    clear hb
    go_wp2_with fail
    refine (roc_any A cp L f _ (HR.out _ K.out) HN.out).mono ?_
    rintro e w4 ⟨rfl, hb⟩
    replace K := hide (btrans K.out hb)
    clear hb
    generalize ocX L f = ox at *
    generalize ocE L f = oe at *
    go_wp2_with fail
    refine (inn_any A AV cp cv L v _ (HR.out _ K.out) (hv.below K.out) HCP.out HN.out hvl).mono ?_
    rintro e w5 ⟨A3, c3, rfl, hB, hb⟩
    replace K := hide (btrans K.out hb)
    have B3 := hide hB
    clear hb hB
    go_wp2_with fail
    refine (rin_any2 A AV cp cv L v _ (HR.out _ K.out) (hv.below K.out) HN.out hvl).mono ?_
    rintro e w6 ⟨A4, c4, rfl, hB, hb⟩
    replace K := hide (btrans K.out hb)
    replace B3 := hide (B3.out.below hb)
    have B4 := hide hB
    clear hb hB
    generalize nR L v = l at *
    go_wp2_with fail
    refine (isame_refl A3 A4 c3 c4 l _ B3.out B4.out NL.out).mono ?_
    rintro e w7 ⟨rfl, hb⟩
    replace K := hide (btrans K.out hb)
    clear hb
    go_wp2
    go_ret
    exact ⟨rfl, K.out⟩
end Go.Proofs.Ytclkflnonckajaa.Ac
