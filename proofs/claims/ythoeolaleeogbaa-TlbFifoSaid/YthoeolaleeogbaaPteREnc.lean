import Derived.Test.YthoeolaleeogbaaPteEnc
namespace Go.Proofs.Ythoeolaleeogbaa.Pt
open Go Go.RowKit
set_option linter.unusedVariables false
theorem last_page (n : Int) (hu : Bool) : (last 1 hu < n ∨ n < 0) ↔ (n < 0 ∨ 4294967295 < n ∨ (hu = true ∧ 4294967288 < n)) := by
  unfold last; cases hu <;> simp <;> omega
theorem last_other {k : Int} (n : Int) (hu : Bool) (h : k ≠ 1) : (last k hu < n ∨ n < 0) ↔ (n < 0 ∨ 4294967295 < n) := by
  unfold last; rw [if_neg (fun x => h x.1)]; omega
set_option maxHeartbeats 1000000 in
theorem renc_bad (k n : Int) (wr ac di hu : Bool) (w : World) (hk : ¬ (0 ≤ k ∧ k ≤ 4)) :
    Calls Try.prog 61 #[.agg #[.int .i64 k, .int .i64 n, .bool wr, .bool ac, .bool di, .bool hu]] w (Enc k n wr ac di hu w) := by
  have E := hide (err_1 (n := n) (wr := wr) (ac := ac) (di := di) (hu := hu) hk)
  by_cases h0 : k < 0
  · have hd : decide (k < 0) = true := decide_eq_true h0
    clear hk
    go_enter Try.func61, Try.ntmps61
    go_wp2
    go_ret2
    exact enc_end E.out (bal (brefl _) _)
  · have hd : decide (k < 0) = false := decide_eq_false h0
    have hd2 : decide (4 < k) = true := decide_eq_true (by omega)
    have h4 : 4 < k := by omega
    clear hk
    go_enter Try.func61, Try.ntmps61
    go_wp2
    go_ret2
    exact enc_end E.out (bal (brefl _) _)
set_option maxHeartbeats 1000000 in
theorem renc_far (k n : Int) (wr ac di hu : Bool) (w : World) (h0 : 0 ≤ k) (h4 : k ≤ 4) (hn : n < 0 ∨ last k hu < n) :
    Calls Try.prog 61 #[.agg #[.int .i64 k, .int .i64 n, .bool wr, .bool ac, .bool di, .bool hu]] w (Enc k n wr ac di hu w) := by
  have E := hide (err_2 (wr := wr) (ac := ac) (di := di) ⟨h0, h4⟩ hn)
  have hl := last_bd k hu
  by_cases n0 : n < 0
  · clear hn
    go_enter Try.func61, Try.ntmps61
    go_wp2
    go_ret2
    exact enc_end E.out (bal (brefl _) _)
  by_cases n1 : 4294967295 < n
  · clear hn
    go_enter Try.func61, Try.ntmps61
    go_wp2
    go_ret2
    exact enc_end E.out (bal (brefl _) _)
  have hx : k = 1 ∧ hu = true ∧ 4294967288 < n := by
    have h2 : last k hu < n := by omega
    unfold last at h2
    split at h2
    · rename_i h3; exact ⟨h3.1, h3.2, h2⟩
    · omega
  obtain ⟨rfl, rfl, n2⟩ := hx
  clear hn
  go_enter Try.func61, Try.ntmps61
  go_wp2
  go_ret2
  exact enc_end E.out (bal (brefl _) _)
set_option maxHeartbeats 1000000 in
theorem renc_in (k n : Int) (wr ac di hu : Bool) (w : World) (h0 : 0 ≤ k) (h4 : k ≤ 4) (hn : ¬ (n < 0 ∨ last k hu < n)) :
    Calls Try.prog 61 #[.agg #[.int .i64 k, .int .i64 n, .bool wr, .bool ac, .bool di, .bool hu]] w (Enc k n wr ac di hu w) := by
  have hl := last_bd k hu
  have n0 : 0 ≤ n := by omega
  have n1 : n ≤ 4294967295 := by omega
  have hg : ((k == 1) && hu && decide (4294967288 < n)) = false := by
    by_cases h : k = 1 ∧ hu = true
    · have : last k hu = 4294967288 := by unfold last; rw [if_pos h]
      have : ¬ 4294967288 < n := by omega
      simp [this]
    · simp; intro a b; exact absurd ⟨a, b⟩ h
  have X := hide (Ent.new w k n wr ac di hu)
  by_cases hs : suits k n wr ac di hu = true
  · have E := hide (err_0 ⟨h0, h4⟩ hn hs)
    have HS := hide hs
    clear hs
    have HK := hide (And.intro h0 h4)
    have HN := hide (And.intro n0 n1)
    by_cases hk : k = 1
    · subst hk
      cases hu
      · clear hn hg
        go_enter Try.func61, Try.ntmps61
        go_wp2_with fail
        refine (form_t 1 n wr ac di false _ HK.out HS.out).mono ?_
        rintro e w5 ⟨rfl, hb5⟩
        have K := hide hb5
        clear hb5
        have x0 := (X.out.below K.out).cells.1
        have x1 := (X.out.below K.out).cells.2.1
        have x2 := (X.out.below K.out).cells.2.2.1
        have x3 := (X.out.below K.out).cells.2.2.2.1
        have x4 := (X.out.below K.out).cells.2.2.2.2.1
        have x5 := (X.out.below K.out).cells.2.2.2.2.2
        go_wp2_with fail
        go_quiet ((go_at_call 67; exact quiet_left (bit_any _ _ _)))
        go_wp2
        go_ret2
        exact enc_end ⟨E.out.1, E.out.2.trans (pack_b 1 n wr ac di false HK.out.1 HK.out.2 HN.out.1 HN.out.2).symm⟩ (btrans (bal (brefl _) _) (below_drewN K.out _))
      · have n2 : n ≤ 4294967288 := by have e : last 1 true = 4294967288 := rfl; omega
        clear hn hg
        go_enter Try.func61, Try.ntmps61
        go_wp2_with fail
        refine (form_t 1 n wr ac di true _ HK.out HS.out).mono ?_
        rintro e w5 ⟨rfl, hb5⟩
        have K := hide hb5
        clear hb5
        have x0 := (X.out.below K.out).cells.1
        have x1 := (X.out.below K.out).cells.2.1
        have x2 := (X.out.below K.out).cells.2.2.1
        have x3 := (X.out.below K.out).cells.2.2.2.1
        have x4 := (X.out.below K.out).cells.2.2.2.2.1
        have x5 := (X.out.below K.out).cells.2.2.2.2.2
        go_wp2_with fail
        go_quiet ((go_at_call 67; exact quiet_left (bit_any _ _ _)))
        go_wp2
        go_ret2
        exact enc_end ⟨E.out.1, E.out.2.trans (pack_b 1 n wr ac di true HK.out.1 HK.out.2 HN.out.1 HN.out.2).symm⟩ (btrans (bal (brefl _) _) (below_drewN K.out _))
    · have hk' : (k == 1) = false := by simpa using hk
      clear hk hg hn
      go_enter Try.func61, Try.ntmps61
      go_wp2_with fail
      refine (form_t k n wr ac di hu _ HK.out HS.out).mono ?_
      rintro e w5 ⟨rfl, hb5⟩
      have K := hide hb5
      clear hb5
      have x0 := (X.out.below K.out).cells.1
      have x1 := (X.out.below K.out).cells.2.1
      have x2 := (X.out.below K.out).cells.2.2.1
      have x3 := (X.out.below K.out).cells.2.2.2.1
      have x4 := (X.out.below K.out).cells.2.2.2.2.1
      have x5 := (X.out.below K.out).cells.2.2.2.2.2
      go_wp2_with fail
      go_quiet ((go_at_call 67; exact quiet_left (bit_any _ _ _)))
      go_wp2
      go_ret2
      exact enc_end ⟨E.out.1, E.out.2.trans (pack_b k n wr ac di hu HK.out.1 HK.out.2 HN.out.1 HN.out.2).symm⟩ (btrans (bal (brefl _) _) (below_drewN K.out _))
  · have hs' : suits k n wr ac di hu = false := by simpa using hs
    have E := hide (err_3 ⟨h0, h4⟩ hn hs')
    have hk : k ≠ 1 := fun e => hs (by rw [e]; exact suits_page _ _ _ _ _)
    have hk' : (k == 1) = false := by simpa using hk
    have HS := hide hs'
    have HK := hide (And.intro h0 h4)
    clear hs hs' hk hg hn
    go_enter Try.func61, Try.ntmps61
    go_wp2_with fail
    refine (form_f k n wr ac di hu _ HK.out HS.out).mono ?_
    rintro e w5 ⟨rfl, hb5⟩
    have K := hide hb5
    clear hb5
    go_wp2_with fail
    go_ret2
    exact enc_end E.out (btrans (bal (brefl _) _) K.out)
theorem renc_any (k n : Int) (wr ac di hu : Bool) (w : World) :
    Calls Try.prog 61 #[.agg #[.int .i64 k, .int .i64 n, .bool wr, .bool ac, .bool di, .bool hu]] w (Enc k n wr ac di hu w) := by
  by_cases hk : 0 ≤ k ∧ k ≤ 4
  · by_cases hn : n < 0 ∨ last k hu < n
    · exact renc_far k n wr ac di hu w hk.1 hk.2 hn
    · exact renc_in k n wr ac di hu w hk.1 hk.2 hn
  · exact renc_bad k n wr ac di hu w hk
end Go.Proofs.Ythoeolaleeogbaa.Pt
