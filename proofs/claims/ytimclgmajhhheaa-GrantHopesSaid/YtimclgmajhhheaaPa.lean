import Derived.Test.YtimclgmajhhheaaCk
import Derived.Test.YtimclgmajhhheaaRc
namespace Go.Proofs.Ytimclgmajhhheaa.Ac
open Go Go.RowKit
set_option linter.unusedVariables false
set_option linter.unusedSimpArgs false
set_option maxHeartbeats 1000000 in
theorem tot_any (A : Option Addr) (cp : Nat) (L : List A5) (w : World) (hr : As w A L) (hcp : L.length ≤ cp) (hn : L.length ≤ 9223372036854775807) :
    Calls Try.prog 37 #[.slice A L.length cp] w fun e w' => e = .returned (.int .i64 (tR L)) ∧ Below w.heap.size w w' := by
  have HR := hide (fun w' (h : Below w.heap.size w w') => hr.below h)
  have K := hide (brefl w)
  have HCP := hide hcp
  have HN := hide hn
  by_cases h0 : chE L = 0
  · have V := vd_of h0
    have E := hide (show tR L = us L 0 from if_pos h0)
    have hl0 : (0 : Int) < (L.length : Int) := by have := V.len.1; omega
    have hln : 0 < L.length := V.len.1
    obtain ⟨b, off, hA, hbl, y0, y1, y2, y3, y4⟩ := hr.cells (brefl w) hln
    rw [Nat.zero_mul, Nat.add_zero] at y1
    have Y1 := hide (show ∀ w', Below w.heap.size w w' → w'.cell? ⟨b, off + 1, none⟩ = some (.int .i64 (us L 0)) from fun w' h => (h.cell (p := ⟨b, off + 1, none⟩) hbl).trans y1)
    subst hA
    clear hr hcp hn V y0 y1 y2 y3 y4
    go_enter Try.func37, Try.ntmps37
    go_wp2_with fail
    refine (check_any (some ⟨b, off, none⟩) cp L _ (HR.out _ K.out) HCP.out HN.out).mono ?_
    rintro e w' ⟨rfl, hb⟩
    replace K := hide (btrans K.out hb)
    clear hb
    rw [h0]
    clear h0
    have y1 := Y1.out _ K.out
    go_wp2
    go_ret
    exact ⟨ret_int E.out.symm, K.out⟩
  · have E := hide (show tR L = -1 from if_neg h0)
    have de : (chE L != 0) = true := by simpa using h0
    clear hr hcp hn h0
    go_enter Try.func37, Try.ntmps37
    go_wp2_with fail
    refine (check_any A cp L _ (HR.out _ K.out) HCP.out HN.out).mono ?_
    rintro e w' ⟨rfl, hb⟩
    replace K := hide (btrans K.out hb)
    clear hb
    generalize chE L = ce at *
    go_wp2
    go_ret
    exact ⟨ret_int E.out.symm, K.out⟩
theorem mE_bad {L : List A5} {a : Int} (h : chE L ≠ 0) : mE L a = chE L := if_neg h
theorem mE_6 {L : List A5} {a : Int} (h : chE L = 0) (h2 : ¬ (0 ≤ a ∧ a < L.length)) : mE L a = 6 := by unfold mE; rw [if_pos h, if_neg h2]
theorem mE_0 {L : List A5} {a : Int} (h : chE L = 0) (h2 : 0 ≤ a ∧ a < L.length) : mE L a = 0 := by unfold mE; rw [if_pos h, if_pos h2]
theorem mE_ok {L : List A5} {a : Int} (h : mE L a = 0) : chE L = 0 ∧ 0 ≤ a ∧ a < L.length := by
  by_cases h1 : chE L = 0
  · by_cases h2 : 0 ≤ a ∧ a < L.length
    · exact ⟨h1, h2⟩
    · rw [mE_6 h1 h2] at h; omega
  · rw [mE_bad h1] at h; exact absurd h h1
set_option maxHeartbeats 1000000 in
theorem cacc_any (A : Option Addr) (cp : Nat) (L : List A5) (a : Int) (w : World) (hr : As w A L) (hcp : L.length ≤ cp) (hn : L.length ≤ 9223372036854775807) :
    Calls Try.prog 98 #[.slice A L.length cp, .int .i64 a] w fun e w' => e = .returned (.int .i64 (mE L a)) ∧ Below w.heap.size w w' := by
  have C := hide (check_any A cp L w hr hcp hn)
  clear hr hcp
  by_cases h0 : chE L = 0
  · rw [h0] at C
    by_cases h1 : a < 0
    · have E := hide (mE_6 h0 (show ¬ (0 ≤ a ∧ a < L.length) by omega))
      clear h0
      go_enter Try.func98, Try.ntmps98
      go_wp2_with fail
      refine C.out.mono ?_
      rintro e w' ⟨rfl, hb⟩
      have K := hide hb
      clear hb
      go_wp2
      go_ret
      exact ⟨ret_int E.out.symm, K.out⟩
    · by_cases h2 : (L.length : Int) ≤ a
      · have E := hide (mE_6 h0 (show ¬ (0 ≤ a ∧ a < L.length) by omega))
        clear h0
        go_enter Try.func98, Try.ntmps98
        go_wp2_with fail
        refine C.out.mono ?_
        rintro e w' ⟨rfl, hb⟩
        have K := hide hb
        clear hb
        go_wp2
        go_ret
        exact ⟨ret_int E.out.symm, K.out⟩
      · have E := hide (mE_0 h0 (show (0 ≤ a ∧ a < L.length) by omega))
        clear h0
        go_enter Try.func98, Try.ntmps98
        go_wp2_with fail
        refine C.out.mono ?_
        rintro e w' ⟨rfl, hb⟩
        have K := hide hb
        clear hb
        go_wp2
        go_ret
        exact ⟨ret_int E.out.symm, K.out⟩
  · have E := hide (mE_bad (a := a) h0)
    have de : (chE L != 0) = true := by simpa using h0
    clear h0
    go_enter Try.func98, Try.ntmps98
    go_wp2_with fail
    refine C.out.mono ?_
    rintro e w' ⟨rfl, hb⟩
    have K := hide hb
    clear hb C
    generalize chE L = ce at *
    go_wp2
    go_ret
    exact ⟨ret_int E.out.symm, K.out⟩
/-- a valid list that has an account -/
def hsB (L : List A5) (a : Int) : Bool := decide (chE L = 0 ∧ 0 ≤ a ∧ a < L.length)
theorem hsB_no {L : List A5} {a : Int} (h : ¬ (chE L = 0 ∧ 0 ≤ a ∧ a < L.length)) : hsB L a = false := decide_eq_false h
theorem hsB_yes {L : List A5} {a : Int} (h : chE L = 0 ∧ 0 ≤ a ∧ a < L.length) : hsB L a = true := decide_eq_true h
set_option maxHeartbeats 1000000 in
theorem has_any (A : Option Addr) (cp : Nat) (L : List A5) (a : Int) (w : World) (hr : As w A L) (hn : L.length ≤ 9223372036854775807) :
    Calls Try.prog 106 #[.slice A L.length cp, .int .i64 a] w fun e w' => e = .returned (.bool (hsB L a)) ∧ Below w.heap.size w w' := by
  have C := hide (rcheck_any A cp L w hr hn)
  clear hr
  by_cases h0 : chE L = 0
  · rw [h0] at C
    by_cases h1 : a < 0
    · have E := hide (hsB_no (L := L) (a := a) (fun h => by omega))
      have hge : ¬ 0 ≤ a := by omega
      clear h0
      go_enter Try.func106, Try.ntmps106
      go_wp2_with fail
      refine C.out.mono ?_
      rintro e w' ⟨rfl, hb⟩
      have K := hide hb
      clear hb C
      go_wp2
      go_ret
      exact ⟨ret_bool E.out.symm, K.out⟩
    · have hge : 0 ≤ a := by omega
      by_cases h2 : (L.length : Int) ≤ a
      · have E := hide (hsB_no (L := L) (a := a) (fun h => by omega))
        have h2' : decide (a < (L.length : Int)) = false := decide_eq_false (by omega)
        clear h0
        go_enter Try.func106, Try.ntmps106
        go_wp2_with fail
        refine C.out.mono ?_
        rintro e w' ⟨rfl, hb⟩
        have K := hide hb
        clear hb C
        go_wp2
        go_ret
        exact ⟨ret_bool E.out.symm, K.out⟩
      · have h2' : a < (L.length : Int) := by omega
        have E := hide (hsB_yes (L := L) (a := a) ⟨h0, hge, h2'⟩)
        clear h0
        go_enter Try.func106, Try.ntmps106
        go_wp2_with fail
        refine C.out.mono ?_
        rintro e w' ⟨rfl, hb⟩
        have K := hide hb
        clear hb C
        go_wp2
        go_ret
        exact ⟨ret_bool E.out.symm, K.out⟩
  · have E := hide (hsB_no (L := L) (a := a) (fun h => h0 h.1))
    have de : (chE L == 0) = false := by simpa using h0
    clear h0
    go_enter Try.func106, Try.ntmps106
    go_wp2_with fail
    refine C.out.mono ?_
    rintro e w' ⟨rfl, hb⟩
    have K := hide hb
    clear hb C
    generalize chE L = ce at *
    go_wp2
    go_ret
    exact ⟨ret_bool E.out.symm, K.out⟩
/-- the answer of Path -/
def PR (B : Nat) (w : World) (l : Is) (e : Ending) (w' : World) : Prop := ∃ A c, e = .returned (.slice A l.length c) ∧ OwI B w' (.slice A l.length c) l ∧ Below B w w'
theorem pR_ok {L : List A5} {a : Int} (h : chE L = 0 ∧ 0 ≤ a ∧ a < L.length) : pR L a = pth L a := if_pos h
theorem pR_no {L : List A5} {a : Int} (h : ¬ (chE L = 0 ∧ 0 ≤ a ∧ a < L.length)) : pR L a = [] := if_neg h
set_option maxRecDepth 100000 in
set_option maxHeartbeats 4000000 in
theorem path_any (A : Option Addr) (cp : Nat) (L : List A5) (a0 : Int) (w : World) (hr : As w A L) (hcp : L.length ≤ cp) (hn : L.length ≤ 9223372036854775807) :
    Calls Try.prog 74 #[.slice A L.length cp, .int .i64 a0] w (PR w.heap.size w (pR L a0)) := by
  obtain ⟨i0, hi0, hz0, hz1, hz2⟩ := info_parts info3
  have HR := hide hr
  have C := hide (cacc_any A cp L a0 w hr hcp hn)
  unfold PR
  by_cases h : chE L = 0 ∧ 0 ≤ a0 ∧ a0 < L.length
  · rw [pR_ok h]
    have V := hide (vd_of h.1)
    rw [mE_0 h.1 h.2] at C
    have h0 := h.2.1
    have h1 := h.2.2
    have hl8 := V.out.len.2
    have PL := hide (pth_len V.out.tr hl8 a0 (by omega) h1)
    obtain ⟨B, hB⟩ : ∃ B, B = w.heap.size := ⟨_, rfl⟩
    rw [← hB] at C ⊢
    have HB := hide hB
    clear hB h hr hcp
    go_enter Try.func74, Try.ntmps74
    go_wp2_with fail
    refine C.out.mono ?_
    rintro e w' ⟨rfl, hb⟩
    have K := hide hb
    clear hb C
    go_wp2
    have O0 := hide (ow_nil B w')
    go_loopw [5, 6] (fun a b wr => ∃ (x : Int) (P : Is), -1 ≤ x ∧ x < L.length ∧ b = .int .i64 x ∧ Hid (pth L a0 = P ++ pth L x) ∧ Hid (OwI B wr a P) ∧ Hid (Below B w wr)) (fun a b _ => (intOf b + 1).toNat)
    case atStart => exact ⟨a0, [], by omega, h1, rfl, hide rfl, O0, K⟩
    case round =>
      clear O0 K
      obtain ⟨x, P, hx0, hx1, rfl, PP, O, K⟩ := hrel
      obtain ⟨A1, cap1, ev, hcp1⟩ := row_form O.out
      subst ev
      clear hcp1
      by_cases hlt : x = -1
      · have E := hide (show pth L a0 = P by rw [PP.out, hlt, pth_neg (by omega), List.append_nil])
        subst hlt
        clear PP
        go_wp2
        go_ret
        exact ⟨A1, cap1, by rw [E.out]; rfl, by rw [E.out]; exact O.out, K.out⟩
      · obtain ⟨m, rfl⟩ := Int.eq_ofNat_of_zero_le (show 0 ≤ x by omega)
        have hml : m < L.length := by omega
        have hm9 : m < 9 := by omega
        have dm : ((m : Int) != -1) = true := by simp
        have hpp := tr_pa V.out.tr hml
        have PP2 := hide (show pth L a0 = (P ++ [(m : Int)]) ++ pth L (pa L m) by rw [PP.out, pth_cons V.out.tr hl8 hml, List.append_assoc]; rfl)
        have HL := hide (show P.length < 9 by have e := congrArg List.length PP.out; rw [List.length_append] at e; have := PL.out; omega)
        obtain ⟨P2, hP2⟩ : ∃ P2, P2 = P ++ [(m : Int)] := ⟨_, rfl⟩
        rw [← hP2] at PP2
        have EH := hide hP2
        clear PP hlt hP2
        have M := bal (brefl wr) (.cells #[.int .i64 (m : Int)] 3)
        have OA := hide (row_below O.out M)
        have NB := hide (cell_one_new wr (.int .i64 (m : Int)) 3)
        have SA0 : B ≤ wr.heap.size := by have := K.out.size; rw [HB.out]; exact (HB.out ▸ this)
        have SA := hide (show B ≤ (wr.alloc (.cells #[.int .i64 (m : Int)] 3)).heap.size by rw [alloc_size']; omega)
        have KA := hide (K.out.trans (M.mono SA0))
        clear M O K SA0
        obtain ⟨l1, hl1⟩ : ∃ l1, l1 = P := ⟨_, rfl⟩
        obtain ⟨m1, hm1⟩ : ∃ m1, m1 = l1.length := ⟨_, rfl⟩
        have hfl : m1 ≤ 1000 := by rw [hm1, hl1]; exact by have := HL.out; omega
        rw [← hl1, ← hm1] at OA
        rw [← hl1] at EH
        rw [← hl1, ← hm1]
        have HLM := hide hm1
        clear hl1 hm1
        go_upto_region 6 with (at_builtin; refine wpList_append_own_at _ rfl (.tmp 19) (.tmp 21) 85 rfl B 3 i0 _ 1 8 Try.underlying85 hi0 hz0 hz1 hz2 rfl (by omega) (.slice A1 m1 cap1) m1 (l1.map ic) rfl OA.out ⟨wr.heap.size, 0, none⟩ 1 1 [.int .i64 (m : Int)] rfl rfl NB.out (by intro u hu; rw [List.mem_singleton.1 hu]; rfl) (by simp only [maxLen]; omega) (by omega) SA.out ?_; intro v4 w4 hown4 hg4 _ hat4; obtain ⟨A4, cp4, ev4, _⟩ := row_form hown4; subst ev4)
        have e3 : (P2).length = m1 + 1 := by rw [EH.out, List.length_append, ← HLM.out]; rfl
        have O := hide (show OwI B w4 (.slice A4 (m1 + 1) cp4) (P2) by
          unfold OwI
          rw [e3, EH.out, List.map_append]
          exact hown4)
        have B4 := below_grown (B := 0) OA.out hg4 SA.out
        have K := hide (KA.out.trans B4)
        rw [← e3] at O ⊢
        clear B4 hown4 hg4 hat4 OA NB SA KA e3 hfl HLM
        obtain ⟨b, off, rfl, hbl, y0, y1, y2, y3, y4⟩ := HR.out.cells (show Below w.heap.size w w4 by rw [← HB.out]; exact K.out) hml
        clear y1 y2 y3 y4 EH HL
        generalize pa L m = q at *
        go_wp2
        go_roundw
        case rel => exact ⟨q, P2, by omega, by omega, rfl, PP2, O, K⟩
        case measure => simp [intOf]; omega
  · rw [pR_no h]
    have hne : mE L a0 ≠ 0 := fun g => h (mE_ok g)
    have de : (mE L a0 != 0) = true := by simpa using hne
    clear hne h hr hcp
    generalize mE L a0 = ce at *
    go_enter Try.func74, Try.ntmps74
    go_wp2_with fail
    refine C.out.mono ?_
    rintro e w' ⟨rfl, hb⟩
    have K := hide hb
    clear hb C
    go_wp2
    go_ret
    exact ⟨none, 0, rfl, ow_nil _ _, K.out⟩
set_option maxRecDepth 100000 in
set_option maxHeartbeats 4000000 in
theorem rpath_any (A : Option Addr) (cp : Nat) (L : List A5) (a0 : Int) (w : World) (hr : As w A L) (hcp : L.length ≤ cp) (hn : L.length ≤ 9223372036854775807) :
    Calls Try.prog 72 #[.slice A L.length cp, .int .i64 a0] w (PR w.heap.size w (pR L a0)) := by
  obtain ⟨i0, hi0, hz0, hz1, hz2⟩ := info_parts info3
  have HR := hide hr
  have C := hide (has_any A cp L a0 w hr hn)
  unfold PR
  by_cases h : chE L = 0 ∧ 0 ≤ a0 ∧ a0 < L.length
  · rw [pR_ok h]
    have V := hide (vd_of h.1)
    rw [hsB_yes h] at C
    have h0 := h.2.1
    have h1 := h.2.2
    have hl8 := V.out.len.2
    have PL := hide (pth_len V.out.tr hl8 a0 (by omega) h1)
    obtain ⟨B, hB⟩ : ∃ B, B = w.heap.size := ⟨_, rfl⟩
    rw [← hB] at C ⊢
    have HB := hide hB
    clear hB h hr hcp
    go_enter Try.func72, Try.ntmps72
    go_wp2_with fail
    refine C.out.mono ?_
    rintro e w' ⟨rfl, hb⟩
    have K := hide hb
    clear hb C
    go_wp2
    have O0 := hide (ow_nil B w')
    go_loopw [1, 5] (fun a b wr => ∃ (x : Int) (P : Is), -1 ≤ x ∧ x < L.length ∧ a = .int .i64 x ∧ Hid (pth L a0 = P ++ pth L x) ∧ Hid (OwI B wr b P) ∧ Hid (Below B w wr)) (fun a b _ => (intOf a + 1).toNat)
    case atStart => exact ⟨a0, [], by omega, h1, rfl, hide rfl, O0, K⟩
    case round =>
      clear O0 K
      obtain ⟨x, P, hx0, hx1, rfl, PP, O, K⟩ := hrel
      obtain ⟨A1, cap1, ev, hcp1⟩ := row_form O.out
      subst ev
      clear hcp1
      by_cases hlt : x = -1
      · have E := hide (show pth L a0 = P by rw [PP.out, hlt, pth_neg (by omega), List.append_nil])
        subst hlt
        clear PP
        go_wp2
        go_ret
        exact ⟨A1, cap1, by rw [E.out]; rfl, by rw [E.out]; exact O.out, K.out⟩
      · obtain ⟨m, rfl⟩ := Int.eq_ofNat_of_zero_le (show 0 ≤ x by omega)
        have hml : m < L.length := by omega
        have hm9 : m < 9 := by omega
        have dm : (0 : Int) ≤ (m : Int) := by omega
        have hpp := tr_pa V.out.tr hml
        have PP2 := hide (show pth L a0 = (P ++ [(m : Int)]) ++ pth L (pa L m) by rw [PP.out, pth_cons V.out.tr hl8 hml, List.append_assoc]; rfl)
        have HL := hide (show P.length < 9 by have e := congrArg List.length PP.out; rw [List.length_append] at e; have := PL.out; omega)
        obtain ⟨P2, hP2⟩ : ∃ P2, P2 = P ++ [(m : Int)] := ⟨_, rfl⟩
        rw [← hP2] at PP2
        have EH := hide hP2
        clear PP hlt hP2
        have M := bal (brefl wr) (.cells #[.int .i64 (m : Int)] 3)
        have OA := hide (row_below O.out M)
        have NB := hide (cell_one_new wr (.int .i64 (m : Int)) 3)
        have SA0 : B ≤ wr.heap.size := by have := K.out.size; rw [HB.out]; exact (HB.out ▸ this)
        have SA := hide (show B ≤ (wr.alloc (.cells #[.int .i64 (m : Int)] 3)).heap.size by rw [alloc_size']; omega)
        have KA := hide (K.out.trans (M.mono SA0))
        clear M O K SA0
        obtain ⟨l1, hl1⟩ : ∃ l1, l1 = P := ⟨_, rfl⟩
        obtain ⟨m1, hm1⟩ : ∃ m1, m1 = l1.length := ⟨_, rfl⟩
        have hfl : m1 ≤ 1000 := by rw [hm1, hl1]; exact by have := HL.out; omega
        rw [← hl1, ← hm1] at OA
        rw [← hl1] at EH
        rw [← hl1, ← hm1]
        have HLM := hide hm1
        clear hl1 hm1
        go_upto_region 6 with (at_builtin; refine wpList_append_own_at _ rfl (.tmp 12) (.tmp 14) 85 rfl B 3 i0 _ 1 8 Try.underlying85 hi0 hz0 hz1 hz2 rfl (by omega) (.slice A1 m1 cap1) m1 (l1.map ic) rfl OA.out ⟨wr.heap.size, 0, none⟩ 1 1 [.int .i64 (m : Int)] rfl rfl NB.out (by intro u hu; rw [List.mem_singleton.1 hu]; rfl) (by simp only [maxLen]; omega) (by omega) SA.out ?_; intro v4 w4 hown4 hg4 _ hat4; obtain ⟨A4, cp4, ev4, _⟩ := row_form hown4; subst ev4)
        have e3 : (P2).length = m1 + 1 := by rw [EH.out, List.length_append, ← HLM.out]; rfl
        have O := hide (show OwI B w4 (.slice A4 (m1 + 1) cp4) (P2) by
          unfold OwI
          rw [e3, EH.out, List.map_append]
          exact hown4)
        have B4 := below_grown (B := 0) OA.out hg4 SA.out
        have K := hide (KA.out.trans B4)
        rw [← e3] at O ⊢
        clear B4 hown4 hg4 hat4 OA NB SA KA e3 hfl HLM
        obtain ⟨b, off, rfl, hbl, y0, y1, y2, y3, y4⟩ := HR.out.cells (show Below w.heap.size w w4 by rw [← HB.out]; exact K.out) hml
        clear y1 y2 y3 y4 EH HL
        generalize pa L m = q at *
        go_wp2
        go_roundw
        case rel => exact ⟨q, P2, by omega, by omega, rfl, PP2, O, K⟩
        case measure => simp [intOf]; omega
  · rw [pR_no h]
    rw [hsB_no h] at C
    clear h hr hcp
    go_enter Try.func72, Try.ntmps72
    go_wp2_with fail
    refine C.out.mono ?_
    rintro e w' ⟨rfl, hb⟩
    have K := hide hb
    clear hb C
    go_wp2
    go_ret
    exact ⟨none, 0, rfl, ow_nil _ _, K.out⟩
end Go.Proofs.Ytimclgmajhhheaa.Ac
