import Derived.Test.YtdpdlbonlpdkjabROps
import Derived.Test.YtdpdlbonlpdkjabLFirst
namespace Go.Proofs.Ytdpdlbonlpdkjab.Iv
open Go Go.RowKit
set_option linter.unusedVariables false
def SetRes (er : Int) (R : IL) (w : World) (e : Ending) (w' : World) : Prop := ∃ A' c', e = .returned (.tuple #[.slice A' R.length c', .int .i64 er]) ∧ Iv w' A' R ∧ Below w.heap.size w w'
theorem res_ok {spec : Int → Bool} {R : IL} (h : asc (edges R)) (hs : ∀ m, mem R m = spec m) {w : World} {e : Ending} {w' : World} (k : SetOk spec w e w') : SetRes 0 R w e w' := by
  obtain ⟨A', c', S, rfl, ha, hm, _, hmine, hb⟩ := k
  obtain rfl : S = R := il_ext ha h fun m => by rw [hm, hs]
  exact ⟨A', c', rfl, hmine.iv, hb⟩
theorem res_err {er : Int} {w : World} {e : Ending} {w' : World} (k : SetErr er w e w') : SetRes er [] w e w' := ⟨none, 0, k.1, fun h => absurd rfl h, k.2⟩
theorem bothI_ok {L M : IL} (h : bothI L M = 0) : chk L = 0 ∧ chk M = 0 := by
  unfold bothI at h
  split at h
  · exact ⟨by assumption, h⟩
  · exact absurd h (by assumption)
theorem union_both (A B : Option Addr) (L M : IL) (c d : Nat) (hn : L.length ≤ 12) (hm : M.length ≤ 12) : ∃ R : IL, R.length ≤ 2000 ∧
    (∀ W, Iv W A L → Iv W B M → Calls Try.prog 17 #[.slice A L.length c, .slice B M.length d] W (SetRes (bothI L M) R W)) ∧
    (∀ W, Iv W A L → Iv W B M → Calls Try.prog 20 #[.slice A L.length c, .slice B M.length d] W (SetRes (bothI L M) R W)) := by
  by_cases h : bothI L M = 0
  · obtain ⟨h1, h2⟩ := bothI_ok h
    obtain ⟨R, ha, hmm⟩ := exists_op (fun x y => x || y) rfl L M (chk_ok.1 h1) (chk_ok.1 h2)
    rw [h]
    refine ⟨R, by have := len_le (fun x y => x || y) ha (chk_ok.1 h1) (chk_ok.1 h2) hmm; omega, fun W k1 k2 => ?_, fun W k1 k2 => ?_⟩
    · exact (union_ok A B L M c d W k1 k2 (by omega) (by omega) h1 h2).mono fun e w' k => res_ok ha hmm k
    · exact (runion_ok A B L M c d W k1 k2 (by omega) (by omega) h1 h2).mono fun e w' k => res_ok ha hmm k
  · refine ⟨[], by simp, fun W k1 k2 => ?_, fun W k1 k2 => ?_⟩
    · exact (union_err A B L M c d _ W k1 k2 (by omega) (by omega) rfl h).mono fun e w' k => res_err k
    · exact (runion_err A B L M c d _ W k1 k2 (by omega) (by omega) rfl h).mono fun e w' k => res_err k
theorem inter_both (A B : Option Addr) (L M : IL) (c d : Nat) (hn : L.length ≤ 12) (hm : M.length ≤ 12) : ∃ R : IL, R.length ≤ 2000 ∧
    (∀ W, Iv W A L → Iv W B M → Calls Try.prog 18 #[.slice A L.length c, .slice B M.length d] W (SetRes (bothI L M) R W)) ∧
    (∀ W, Iv W A L → Iv W B M → Calls Try.prog 21 #[.slice A L.length c, .slice B M.length d] W (SetRes (bothI L M) R W)) := by
  by_cases h : bothI L M = 0
  · obtain ⟨h1, h2⟩ := bothI_ok h
    obtain ⟨R, ha, hmm⟩ := exists_op (fun x y => x && y) rfl L M (chk_ok.1 h1) (chk_ok.1 h2)
    rw [h]
    refine ⟨R, by have := len_le (fun x y => x && y) ha (chk_ok.1 h1) (chk_ok.1 h2) hmm; omega, fun W k1 k2 => ?_, fun W k1 k2 => ?_⟩
    · exact (inter_ok A B L M c d W k1 k2 (by omega) (by omega) h1 h2).mono fun e w' k => res_ok ha hmm k
    · exact (rinter_ok A B L M c d W k1 k2 (by omega) (by omega) h1 h2).mono fun e w' k => res_ok ha hmm k
  · refine ⟨[], by simp, fun W k1 k2 => ?_, fun W k1 k2 => ?_⟩
    · exact (inter_err A B L M c d _ W k1 k2 (by omega) (by omega) rfl h).mono fun e w' k => res_err k
    · exact (rinter_err A B L M c d _ W k1 k2 (by omega) (by omega) rfl h).mono fun e w' k => res_err k
theorem subtract_both (A B : Option Addr) (L M : IL) (c d : Nat) (hn : L.length ≤ 12) (hm : M.length ≤ 12) : ∃ R : IL, R.length ≤ 2000 ∧
    (∀ W, Iv W A L → Iv W B M → Calls Try.prog 19 #[.slice A L.length c, .slice B M.length d] W (SetRes (bothI L M) R W)) ∧
    (∀ W, Iv W A L → Iv W B M → Calls Try.prog 22 #[.slice A L.length c, .slice B M.length d] W (SetRes (bothI L M) R W)) := by
  by_cases h : bothI L M = 0
  · obtain ⟨h1, h2⟩ := bothI_ok h
    obtain ⟨R, ha, hmm⟩ := exists_op (fun x y => x && !y) rfl L M (chk_ok.1 h1) (chk_ok.1 h2)
    rw [h]
    refine ⟨R, by have := len_le (fun x y => x && !y) ha (chk_ok.1 h1) (chk_ok.1 h2) hmm; omega, fun W k1 k2 => ?_, fun W k1 k2 => ?_⟩
    · exact (subtract_ok A B L M c d W k1 k2 (by omega) (by omega) h1 h2).mono fun e w' k => res_ok ha hmm k
    · exact (rsubtract_ok A B L M c d W k1 k2 (by omega) (by omega) h1 h2).mono fun e w' k => res_ok ha hmm k
  · refine ⟨[], by simp, fun W k1 k2 => ?_, fun W k1 k2 => ?_⟩
    · exact (subtract_err A B L M c d _ W k1 k2 (by omega) (by omega) rfl h).mono fun e w' k => res_err k
    · exact (rsubtract_err A B L M c d _ W k1 k2 (by omega) (by omega) rfl h).mono fun e w' k => res_err k
set_option maxHeartbeats 4000000 in
set_option maxRecDepth 100000 in
theorem law_operations (A B : Option Addr) (L M : IL) (c d : Nat) (w : World) (hr : Iv w A L) (hs : Iv w B M) (_ : ∀ x ∈ L, (-9223372036854775808 ≤ x.1 ∧ x.1 ≤ 9223372036854775807) ∧ (-9223372036854775808 ≤ x.2 ∧ x.2 ≤ 9223372036854775807)) (_ : ∀ x ∈ M, (-9223372036854775808 ≤ x.1 ∧ x.1 ≤ 9223372036854775807) ∧ (-9223372036854775808 ≤ x.2 ∧ x.2 ≤ 9223372036854775807)) (hl : L.length ≤ 9223372036854775807) (hm : M.length ≤ 9223372036854775807) :
    Calls Try.prog 4 #[.slice A L.length c, .slice B M.length d] w fun e w' => e = .returned (.bool true) ∧ Below w.heap.size w w' := by
  by_cases h : L.length ≤ 12 ∧ M.length ≤ 12
  · obtain ⟨R1, n1, F1, G1⟩ := union_both A B L M c d h.1 h.2
    obtain ⟨R2, n2, F2, G2⟩ := inter_both A B L M c d h.1 h.2
    obtain ⟨R3, n3, F3, G3⟩ := subtract_both A B L M c d h.1 h.2
    have HF := hide (few_is A B L.length M.length c d true w (by omega) (by omega) (by simp [h.1, h.2]))
    generalize bothI L M = er at *
    have r1 : (er == er) = true := by simp
    have X1 := hide F1
    have X2 := hide F2
    have X3 := hide F3
    have Y1 := hide G1
    have Y2 := hide G2
    have Y3 := hide G3
    have QA := hide hr
    have QB := hide hs
    have K := hide (brefl w)
    clear F1 F2 F3 G1 G2 G3 hr hs h
    go_enter Try.func4, Try.ntmps4
    go_wp2_with fail
    refine HF.out.mono ?_
    rintro e w' ⟨rfl, rfl⟩
    go_wp2_with fail
    refine (X1.out _ QA.out QB.out).mono ?_
    rintro e w1 ⟨Au, cu, rfl, hiu, hb1⟩
    replace K := hide (btrans K.out hb1)
    replace QA := hide (QA.out.below hb1)
    replace QB := hide (QB.out.below hb1)
    have Qu := hide hiu
    clear hb1 hiu
    go_wp2_with fail
    refine (X2.out _ QA.out QB.out).mono ?_
    rintro e w2 ⟨Ai, ci, rfl, hii, hb2⟩
    replace K := hide (btrans K.out hb2)
    replace QA := hide (QA.out.below hb2)
    replace QB := hide (QB.out.below hb2)
    replace Qu := hide (Qu.out.below hb2)
    have Qi := hide hii
    clear hb2 hii
    go_wp2_with fail
    refine (X3.out _ QA.out QB.out).mono ?_
    rintro e w3 ⟨Ad, cd, rfl, hid, hb3⟩
    replace K := hide (btrans K.out hb3)
    replace QA := hide (QA.out.below hb3)
    replace QB := hide (QB.out.below hb3)
    replace Qu := hide (Qu.out.below hb3)
    replace Qi := hide (Qi.out.below hb3)
    have Qd := hide hid
    clear hb3 hid
    go_wp2_with fail
    refine (Y1.out _ QA.out QB.out).mono ?_
    rintro e w4 ⟨Av, cv, rfl, hiv, hb4⟩
    replace K := hide (btrans K.out hb4)
    replace QA := hide (QA.out.below hb4)
    replace QB := hide (QB.out.below hb4)
    replace Qu := hide (Qu.out.below hb4)
    replace Qi := hide (Qi.out.below hb4)
    replace Qd := hide (Qd.out.below hb4)
    have Qv := hide hiv
    clear hb4 hiv
    go_wp2_with fail
    refine (Y2.out _ QA.out QB.out).mono ?_
    rintro e w5 ⟨Aj, cj, rfl, hij, hb5⟩
    replace K := hide (btrans K.out hb5)
    replace QA := hide (QA.out.below hb5)
    replace QB := hide (QB.out.below hb5)
    replace Qu := hide (Qu.out.below hb5)
    replace Qi := hide (Qi.out.below hb5)
    replace Qd := hide (Qd.out.below hb5)
    replace Qv := hide (Qv.out.below hb5)
    have Qj := hide hij
    clear hb5 hij
    go_wp2_with fail
    refine (Y3.out _ QA.out QB.out).mono ?_
    rintro e w6 ⟨Ac, cc, rfl, hic, hb6⟩
    replace K := hide (btrans K.out hb6)
    replace QA := hide (QA.out.below hb6)
    replace QB := hide (QB.out.below hb6)
    replace Qu := hide (Qu.out.below hb6)
    replace Qi := hide (Qi.out.below hb6)
    replace Qd := hide (Qd.out.below hb6)
    replace Qv := hide (Qv.out.below hb6)
    replace Qj := hide (Qj.out.below hb6)
    have Qc := hide hic
    clear hb6 hic
    go_wp2_with fail
    refine (same_is _ _ _ _ _ _ Qu.out Qv.out n1).mono ?_
    rintro e w7 ⟨rfl, hb7⟩
    replace K := hide (btrans K.out hb7)
    replace QA := hide (QA.out.below hb7)
    replace QB := hide (QB.out.below hb7)
    replace Qu := hide (Qu.out.below hb7)
    replace Qi := hide (Qi.out.below hb7)
    replace Qd := hide (Qd.out.below hb7)
    replace Qv := hide (Qv.out.below hb7)
    replace Qj := hide (Qj.out.below hb7)
    replace Qc := hide (Qc.out.below hb7)
    clear hb7
    go_wp2_with fail
    refine (same_is _ _ _ _ _ _ Qi.out Qj.out n2).mono ?_
    rintro e w8 ⟨rfl, hb8⟩
    replace K := hide (btrans K.out hb8)
    replace QA := hide (QA.out.below hb8)
    replace QB := hide (QB.out.below hb8)
    replace Qu := hide (Qu.out.below hb8)
    replace Qi := hide (Qi.out.below hb8)
    replace Qd := hide (Qd.out.below hb8)
    replace Qv := hide (Qv.out.below hb8)
    replace Qj := hide (Qj.out.below hb8)
    replace Qc := hide (Qc.out.below hb8)
    clear hb8
    go_wp2_with fail
    refine (same_is _ _ _ _ _ _ Qd.out Qc.out n3).mono ?_
    rintro e w9 ⟨rfl, hb9⟩
    replace K := hide (btrans K.out hb9)
    replace QA := hide (QA.out.below hb9)
    replace QB := hide (QB.out.below hb9)
    replace Qu := hide (Qu.out.below hb9)
    replace Qi := hide (Qi.out.below hb9)
    replace Qd := hide (Qd.out.below hb9)
    replace Qv := hide (Qv.out.below hb9)
    replace Qj := hide (Qj.out.below hb9)
    replace Qc := hide (Qc.out.below hb9)
    clear hb9
    go_wp2_with fail
    refine (awake _).mono ?_
    rintro e w10 ⟨rfl, hb10⟩
    replace K := hide (btrans K.out hb10)
    replace QA := hide (QA.out.below hb10)
    replace QB := hide (QB.out.below hb10)
    replace Qu := hide (Qu.out.below hb10)
    replace Qi := hide (Qi.out.below hb10)
    replace Qd := hide (Qd.out.below hb10)
    replace Qv := hide (Qv.out.below hb10)
    replace Qj := hide (Qj.out.below hb10)
    replace Qc := hide (Qc.out.below hb10)
    clear hb10
    go_wp2_with fail
    go_ret
    exact ⟨rfl, K.out⟩
  · have HF := hide (few_is A B L.length M.length c d false w (by omega) (by omega) (by
      rw [Bool.eq_false_iff]; intro e; simp at e; exact h e))
    clear hr hs h
    go_enter Try.func4, Try.ntmps4
    go_wp2_with fail
    refine HF.out.mono ?_
    rintro e w' ⟨rfl, rfl⟩
    go_wp2_with fail
    refine (awake _).mono ?_
    rintro e w3 ⟨rfl, hb3⟩
    have K := hide hb3
    clear hb3
    go_wp2_with fail
    go_ret
    exact ⟨rfl, K.out⟩
end Go.Proofs.Ytdpdlbonlpdkjab.Iv
