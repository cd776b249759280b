import Derived.Test.YtclkflnonckajaaL4
namespace Go.Proofs.Ytclkflnonckajaa.Ac
open Go Go.RowKit
set_option linter.unusedVariables false
set_option linter.unusedSimpArgs false
theorem uc_nil {L : List A5} {a n : Int} (h : ucE L a n ≠ 0) : ucL L a n = [] := if_neg h
theorem rcharge_unf (A : Option Addr) (cp : Nat) (L : List A5) (a n : Int) (w : World) (hr : As w A L) (hcp : L.length ≤ cp) (hn : L.length ≤ 9223372036854775807) :
    Calls Try.prog 33 #[.slice A L.length cp, .int .i64 a, .int .i64 n] w fun e w' => ∃ A c, e = .returned (.tuple #[.slice A (cgL L a n).length c, .int .i64 (cgB L a n), .int .i64 (cgE L a n)]) ∧ OwA w.heap.size w' (.slice A (cgL L a n).length c) (cgL L a n) ∧ Below w.heap.size w w' := rcharge_any A cp L a n w hr hcp hn
theorem runcharge_unf (A : Option Addr) (cp : Nat) (L : List A5) (a n : Int) (w : World) (hr : As w A L) (hcp : L.length ≤ cp) (hn : L.length ≤ 9223372036854775807) :
    Calls Try.prog 35 #[.slice A L.length cp, .int .i64 a, .int .i64 n] w fun e w' => ∃ A c, e = .returned (.tuple #[.slice A (ucL L a n).length c, .int .i64 (ucE L a n)]) ∧ OwA w.heap.size w' (.slice A (ucL L a n).length c) (ucL L a n) ∧ Below w.heap.size w w' := runcharge_any A cp L a n w hr hcp hn
theorem cg_lenle {L : List A5} {a n : Int} (hn : L.length ≤ 9223372036854775807) : (cgL L a n).length ≤ 9223372036854775807 := by
  unfold cgL; split
  · rw [adL_len]; exact hn
  · simp
theorem uc_lenle {L : List A5} {a n : Int} (hn : L.length ≤ 9223372036854775807) : (ucL L a n).length ≤ 9223372036854775807 := by
  unfold ucL; split
  · rw [adL_len]; exact hn
  · simp
set_option maxRecDepth 100000 in
set_option maxHeartbeats 16000000 in
theorem law_steps (A : Option Addr) (cp : Nat) (L : List A5) (AO : Option Addr) (co : Nat) (O : List O3) (W : World) (h : AIn W A L cp) (ho : OpsR W AO O) (hol : O.length ≤ 9223372036854775807) : Calls Try.prog 5 #[.slice A L.length cp, .slice AO O.length co] W fun e w' => e = .returned (.bool true) ∧ Below W.heap.size W w' := by
  have HO := hide (fun k (hk : k < O.length) w' (hb : Below W.heap.size W w') => ho.cells hb hk)
  clear ho
  have AWK := hide (fun w => awake_any w)
  have C0 := hide (fun w => few_any A L.length cp w h.len)
  have HR := hide (fun w' (hb : Below W.heap.size W w') => h.rd.below hb)
  have HCP := hide h.cap
  have HN := hide h.len
  have K := hide (brefl W)
  by_cases h20 : (L.length : Int) ≤ 20
  · have d20 := decide_eq_true h20
    rw [d20] at C0
    clear h20 d20 h
    by_cases h40 : (40 : Int) < (O.length : Int)
    · have HN' := hide hol
      go_enter Try.func5, Try.ntmps5
      go_wp2_with fail
      refine (AWK.out _).mono ?_
      rintro e w1 ⟨rfl, hb⟩
      replace K := hide (btrans K.out hb)
      clear hb
      go_wp2_with fail
      refine (C0.out _).mono ?_
      rintro e w2 ⟨rfl, rfl⟩
      go_wp2_with fail
      refine (AWK.out _).mono ?_
      rintro e w8 ⟨rfl, hb⟩
      replace K := hide (btrans K.out hb)
      clear hb
      go_wp2
      go_ret
      exact ⟨rfl, K.out⟩
    · have ho40 : O.length ≤ 40 := by omega
      go_enter Try.func5, Try.ntmps5
      go_wp2_with fail
      refine (AWK.out _).mono ?_
      rintro e w1 ⟨rfl, hb⟩
      replace K := hide (btrans K.out hb)
      clear hb
      go_wp2_with fail
      refine (C0.out _).mono ?_
      rintro e w2 ⟨rfl, rfl⟩
      go_wp2
      go_loopw [0, 28] (fun s c wr => ∃ (k : Nat) (M : List A5) (AM : Option Addr) (cM : Nat), k ≤ O.length ∧ c = .int .i64 k ∧ s = .slice AM M.length cM ∧ Hid (As wr AM M) ∧ Hid (M.length ≤ cM) ∧ Hid (M.length ≤ 9223372036854775807) ∧ Hid (Below W.heap.size W wr)) (fun _ c _ => O.length - (intOf c).toNat)
      case atStart => exact ⟨0, L, A, cp, Nat.zero_le _, rfl, rfl, hide (HR.out _ K.out), HCP, HN, K⟩
      case round =>
        clear K
        obtain ⟨k, M, AM, cM, hk, rfl, rfl, RM, CM, NM, K⟩ := hrel
        by_cases hlt : k < O.length
        · have hl2 : (k : Int) < (O.length : Int) := by omega
          have hk0 : (0 : Int) ≤ (k : Int) := by omega
          obtain ⟨b, off, rfl, hbl, y0, y1, y2⟩ := HO.out k hlt _ K.out
          generalize oAt O k = o at *
          obtain ⟨ot, oa, on⟩ := o
          simp only at y0 y1 y2
          have M0 := bal (brefl wr) (.cells #[.bool ot, .int .i64 oa, .int .i64 on] 34)
          have X := hide (Box.new wr 34 #[.bool ot, .int .i64 oa, .int .i64 on])
          replace K := hide (btrans K.out M0)
          replace RM := hide (fun w' (hb : Below (wr.alloc (.cells #[.bool ot, .int .i64 oa, .int .i64 on] 34)).heap.size (wr.alloc (.cells #[.bool ot, .int .i64 oa, .int .i64 on] 34)) w') => (RM.out.below M0).below hb)
          clear M0
          go_upto_region 6 with fail
          obtain ⟨g6, hg6⟩ : ∃ g6, g6 = wr.heap.size := ⟨_, rfl⟩
          rw [← hg6] at X ⊢
          generalize wr.alloc (.cells #[.bool ot, .int .i64 oa, .int .i64 on] 34) = w3 at *
          clear hg6 y0 y1 y2
          have K3 := hide (brefl w3)
          have x0 := X.out.cell 0
          have x1 := X.out.cell 1
          have x2 := X.out.cell 2
          simp at x0 x1 x2
          cases ot with
          | false =>
            go_wp2_with fail
            refine (charge_unf AM cM M oa on _ (RM.out _ K3.out) CM.out NM.out).mono ?_
            rintro e w4 ⟨A4, c4, rfl, hO, hb⟩
            replace K := hide (btrans K.out hb)
            replace K3 := hide (btrans K3.out hb)
            replace X := hide (X.out.below hb)
            have R4 := hide (OwA.as hO)
            have HC4 := hide (OwA.cap hO)
            clear hb hO
            clear x0 x1 x2
            have x0 := X.out.cell 0
            have x1 := X.out.cell 1
            have x2 := X.out.cell 2
            simp at x0 x1 x2
            go_wp2_with fail
            refine (rcharge_unf AM cM M oa on _ (RM.out _ K3.out) CM.out NM.out).mono ?_
            rintro e w5 ⟨A5, c5, rfl, hO, hb⟩
            replace K := hide (btrans K.out hb)
            replace K3 := hide (btrans K3.out hb)
            replace X := hide (X.out.below hb)
            replace R4 := hide (R4.out.below hb)
            have R5 := hide (OwA.as hO)
            have HC5 := hide (OwA.cap hO)
            clear hb hO
            clear x0 x1 x2
            have x0 := X.out.cell 0
            have x1 := X.out.cell 1
            have x2 := X.out.cell 2
            simp at x0 x1 x2
            have SM := hide (same_refl A4 A5 c4 c5 (cgL M oa on) w5 R4.out R5.out (cg_lenle NM.out))
            go_wp2_with fail
            refine SM.out.mono ?_
            rintro e w9 ⟨rfl, hb⟩
            replace K := hide (btrans K.out hb)
            replace K3 := hide (btrans K3.out hb)
            replace R5 := hide (R5.out.below hb)
            have NL := hide (cg_lenle (L := M) (a := oa) (n := on) NM.out)
            clear hb SM x0 x1 x2 X R4
            by_cases he : cgE M oa on = 0
            · rw [he]
              clear he
              generalize cgL M oa on = M2 at *
              go_wp2
              go_roundw
              case rel => exact ⟨k + 1, M2, A5, c5, by omega, by go_num, rfl, R5, HC5, NL, K⟩
              case measure => simp [intOf]; omega
            · have de : (cgE M oa on == 0) = false := by simpa using he
              clear he
              have RM2 := hide (RM.out _ K3.out)
              generalize cgE M oa on = ce at *
              go_wp2
              go_roundw
              case rel => exact ⟨k + 1, M, AM, cM, by omega, by go_num, rfl, RM2, CM, NM, K⟩
              case measure => simp [intOf]; omega
          | true =>
            go_wp2_with fail
            refine (charge_unf AM cM M oa on _ (RM.out _ K3.out) CM.out NM.out).mono ?_
            rintro e w4 ⟨A4, c4, rfl, hO, hb⟩
            replace K := hide (btrans K.out hb)
            replace K3 := hide (btrans K3.out hb)
            replace X := hide (X.out.below hb)
            have R4 := hide (OwA.as hO)
            have HC4 := hide (OwA.cap hO)
            clear hb hO
            clear x0 x1 x2
            have x0 := X.out.cell 0
            have x1 := X.out.cell 1
            have x2 := X.out.cell 2
            simp at x0 x1 x2
            go_wp2_with fail
            refine (rcharge_unf AM cM M oa on _ (RM.out _ K3.out) CM.out NM.out).mono ?_
            rintro e w5 ⟨A5, c5, rfl, hO, hb⟩
            replace K := hide (btrans K.out hb)
            replace K3 := hide (btrans K3.out hb)
            replace X := hide (X.out.below hb)
            replace R4 := hide (R4.out.below hb)
            have R5 := hide (OwA.as hO)
            have HC5 := hide (OwA.cap hO)
            clear hb hO
            clear x0 x1 x2
            have x0 := X.out.cell 0
            have x1 := X.out.cell 1
            have x2 := X.out.cell 2
            simp at x0 x1 x2
            go_wp2_with fail
            refine (uncharge_unf AM cM M oa on _ (RM.out _ K3.out) CM.out NM.out).mono ?_
            rintro e w6 ⟨A6, c6, rfl, hO, hb⟩
            replace K := hide (btrans K.out hb)
            replace K3 := hide (btrans K3.out hb)
            replace X := hide (X.out.below hb)
            have R6 := hide (OwA.as hO)
            have HC6 := hide (OwA.cap hO)
            clear hb hO
            clear x0 x1 x2
            have x0 := X.out.cell 0
            have x1 := X.out.cell 1
            have x2 := X.out.cell 2
            simp at x0 x1 x2
            go_wp2_with fail
            refine (runcharge_unf AM cM M oa on _ (RM.out _ K3.out) CM.out NM.out).mono ?_
            rintro e w7 ⟨A7, c7, rfl, hO, hb⟩
            replace K := hide (btrans K.out hb)
            replace K3 := hide (btrans K3.out hb)
            replace X := hide (X.out.below hb)
            replace R6 := hide (R6.out.below hb)
            have R7 := hide (OwA.as hO)
            have HC7 := hide (OwA.cap hO)
            clear hb hO
            clear x0 x1 x2
            have x0 := X.out.cell 0
            have x1 := X.out.cell 1
            have x2 := X.out.cell 2
            simp at x0 x1 x2
            have SM := hide (same_refl A6 A7 c6 c7 (ucL M oa on) w7 R6.out R7.out (uc_lenle NM.out))
            go_wp2_with fail
            refine SM.out.mono ?_
            rintro e w9 ⟨rfl, hb⟩
            replace K := hide (btrans K.out hb)
            replace K3 := hide (btrans K3.out hb)
            replace R7 := hide (R7.out.below hb)
            have NL := hide (uc_lenle (L := M) (a := oa) (n := on) NM.out)
            clear hb SM x0 x1 x2 X R6
            by_cases he : ucE M oa on = 0
            · rw [he]
              clear he
              generalize ucL M oa on = M2 at *
              go_wp2
              go_roundw
              case rel => exact ⟨k + 1, M2, A7, c7, by omega, by go_num, rfl, R7, HC7, NL, K⟩
              case measure => simp [intOf]; omega
            · have de : (ucE M oa on == 0) = false := by simpa using he
              clear he
              have RM2 := hide (RM.out _ K3.out)
              generalize ucE M oa on = ce at *
              go_wp2
              go_roundw
              case rel => exact ⟨k + 1, M, AM, cM, by omega, by go_num, rfl, RM2, CM, NM, K⟩
              case measure => simp [intOf]; omega
        · obtain rfl : k = O.length := by omega
          go_wp2
          go_ret
          exact ⟨rfl, K.out⟩
  · have d20 := decide_eq_false h20
    rw [d20] at C0
    clear h20 d20 h
    go_enter Try.func5, Try.ntmps5
    go_wp2_with fail
    refine (AWK.out _).mono ?_
    rintro e w1 ⟨rfl, hb⟩
    replace K := hide (btrans K.out hb)
    clear hb
    go_wp2_with fail
    refine (C0.out _).mono ?_
    rintro e w2 ⟨rfl, rfl⟩
    go_wp2_with fail
    refine (AWK.out _).mono ?_
    rintro e w8 ⟨rfl, hb⟩
    replace K := hide (btrans K.out hb)
    clear hb
    go_wp2
    go_ret
    exact ⟨rfl, K.out⟩
end Go.Proofs.Ytclkflnonckajaa.Ac
