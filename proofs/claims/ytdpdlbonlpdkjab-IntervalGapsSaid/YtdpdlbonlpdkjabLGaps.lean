import Derived.Test.YtdpdlbonlpdkjabLEdits
namespace Go.Proofs.Ytdpdlbonlpdkjab.Iv
open Go Go.RowKit
set_option linter.unusedVariables false
theorem rgaps_err (A : Option Addr) (L : IL) (c : Nat) (lo hi er : Int) (w : World) (hr : Iv w A L) (hn : L.length ≤ 20) (he : (chk L = er ∧ er ≠ 0) ∨ (chk L = 0 ∧ hi < lo ∧ er = 2)) :
    Calls Try.prog 29 #[.slice A L.length c, .int .i64 lo, .int .i64 hi] w (SetErr er w) := by
  have H1 := hide (rcheck_any A L c w hr (by omega))
  clear hr
  rcases he with ⟨he, h0⟩ | ⟨he, h0, rfl⟩
  · have n1 : (er == 0) = false := by simpa using h0
    have n2 : (er != 0) = true := by rw [bne, n1]; rfl
    rw [he] at H1
    clear he h0
    go_enter Try.func29, Try.ntmps29
    go_wp2_with fail
    refine H1.out.mono ?_
    rintro e w1 ⟨rfl, hb1⟩
    go_wp2
    go_ret2
    exact ⟨rfl, hb1⟩
  · rw [he] at H1
    clear he
    have hd : decide (hi < lo) = true := decide_eq_true h0
    go_enter Try.func29, Try.ntmps29
    go_wp2_with fail
    refine H1.out.mono ?_
    rintro e w1 ⟨rfl, hb1⟩
    go_wp2
    go_ret2
    exact ⟨rfl, hb1⟩
theorem rgaps_ok (A : Option Addr) (L : IL) (c : Nat) (lo hi : Int) (w : World) (hr : Iv w A L) (hn : L.length ≤ 20) (h1 : chk L = 0) (h0 : lo ≤ hi) :
    Calls Try.prog 29 #[.slice A L.length c, .int .i64 lo, .int .i64 hi] w (SetOk (fun n => (decide (lo ≤ n) && decide (n < hi)) && !mem L n) w) := by
  obtain ⟨i0, hi0, hz0, hz1, hz2⟩ := info_parts info30
  have H1 := hide (rcheck_any A L c w hr (by omega))
  have H3 := hide (fun B d W (hb : Below w.heap.size w W) (hs : Iv W B (oneL lo hi)) => rcomb_any 2 (fun x y => x && !y) (.inr (.inr ⟨rfl, rfl⟩)) B A (oneL lo hi) L d c W hs (hr.below hb) (by unfold oneL; split <;> simp) hn (oneL_asc h0) (chk_ok.1 h1))
  rw [h1] at H1
  clear hr h1
  have hd : decide (hi < lo) = false := decide_eq_false (by omega)
  by_cases hft : lo = hi
  · subst hft
    have e1 : oneL lo lo = [] := by unfold oneL; rw [if_pos rfl]
    rw [e1] at H3
    have hd2 : decide (lo < lo) = false := decide_eq_false (by omega)
    go_enter Try.func29, Try.ntmps29
    go_wp2_with fail
    refine H1.out.mono ?_
    rintro e w1 ⟨rfl, hb1⟩
    have HB := hide hb1
    clear hb1
    go_wp2_with fail
    refine (H3.out _ _ _ HB.out (fun h => absurd rfl h)).mono ?_
    rintro e w3 ⟨A3, c3, R, rfl, ha, hmem, hl, hmine, hb3⟩
    have hmem2 : ∀ n, mem R n = ((decide (lo ≤ n) && decide (n < lo)) && !mem L n) := fun n => by
      have h := hmem n
      have h2 := oneL_mem lo lo n
      rw [e1] at h2
      rw [h, h2]
    have HE := hide (And.intro ha (And.intro hmem2 (And.intro hl (And.intro (hmine.mono HB.out.size) (btrans HB.out hb3)))))
    clear ha hmem hmem2 hl hmine hb3
    go_wp2
    go_ret2
    exact ⟨A3, c3, R, rfl, HE.out⟩
  · have e1 : oneL lo hi = [(lo, hi)] := by unfold oneL; rw [if_neg hft]
    rw [e1] at H3
    have hd2 : decide (lo < hi) = true := decide_eq_true (by omega)
    go_enter Try.func29, Try.ntmps29
    go_wp2_with fail
    refine H1.out.mono ?_
    rintro e w1 ⟨rfl, hb1⟩
    have HB := hide hb1
    clear hb1
    go_wp2_with (at_builtin; refine wpList_append_own _ rfl (.tmp 21) (.tmp 25) 22 rfl w1.heap.size 30 i0 _ 2 16 Try.underlying22 hi0 hz0 hz1 hz2 rfl (by omega) (.slice none 0 0) 0 [] rfl (World.ownsRow_nil _ _ _ _) ⟨w1.heap.size, 0, none⟩ 1 1 [ic lo, ic hi] rfl rfl (cell_two_new _ _ _ _) (by intro u hu; simp at hu; rcases hu with rfl | rfl <;> rfl) (by simp only [maxLen]; omega) (by omega) (by simp) ?_; intro v1 w2 hown1 hg1 _; obtain ⟨A2, n2, rfl⟩ := row_form hown1; have HB2 := hide (show Below w.heap.size w w2 from (bal HB.out _).trans (row_below (World.ownsRow_nil _ w1.heap.size _ _) hg1 HB.out.size (by have := HB.out.size; simp; omega))); have HR2 := hide (MineI.of_row (L := [(lo, hi)]) rfl hown1).iv; clear hown1 hg1)
    refine (H3.out A2 n2 _ HB2.out HR2.out).mono ?_
    rintro e w3 ⟨A3, c3, R, rfl, ha, hmem, hl, hmine, hb3⟩
    have hmem2 : ∀ n, mem R n = ((decide (lo ≤ n) && decide (n < hi)) && !mem L n) := fun n => by
      have h := hmem n
      have h2 := oneL_mem lo hi n
      rw [e1] at h2
      rw [h, h2]
    have HE := hide (And.intro ha (And.intro hmem2 (And.intro hl (And.intro (hmine.mono HB2.out.size) (btrans HB2.out hb3)))))
    clear ha hmem hmem2 hl hmine hb3
    go_wp2
    go_ret2
    exact ⟨A3, c3, R, rfl, HE.out⟩
theorem fits_any (f t n : Int) (b : Bool) (w : World) (h0 : f ≤ t) (h1 : -9223372036854775808 ≤ f) (h2 : t ≤ 9223372036854775807) (h3 : 1 ≤ n) (h4 : n ≤ 9223372036854775807) (h : decide (n ≤ t - f) = b) :
    Calls Try.prog 51 #[.agg #[.int .i64 f, .int .i64 t], .int .i64 n] w fun e w' => e = .returned (.bool b) ∧ Below w.heap.size w w' := by
  have hws := wrap_sub h0 h1 h2
  have hwn : IntKind.u64.wrap n = n := by rw [IntKind.wrap_u64]; omega
  go_enter Try.func51, Try.ntmps51
  go_wp2
  go_ret
  exact ⟨ret_bool (by rw [← h]), bal (brefl _) _⟩
theorem rfgap_err (A : Option Addr) (L : IL) (c : Nat) (lo hi n er : Int) (w : World) (hr : Iv w A L) (hn : L.length ≤ 20) (he : (chk L = er ∧ er ≠ 0) ∨ (chk L = 0 ∧ hi < lo ∧ er = 2)) :
    Calls Try.prog 31 #[.slice A L.length c, .int .i64 lo, .int .i64 hi, .int .i64 n] w fun e w' => e = .returned (.tuple #[.int .i64 0, .int .i64 er]) ∧ Below w.heap.size w w' := by
  have H := hide (rgaps_err A L c lo hi er w hr hn he)
  have h0 : er ≠ 0 := by rcases he with h | h; exact h.2; rw [h.2.2]; decide
  have n1 : (er == 0) = false := by simpa using h0
  have n2 : (er != 0) = true := by rw [bne, n1]; rfl
  clear hr he h0
  go_enter Try.func31, Try.ntmps31
  go_wp2_with fail
  refine H.out.mono ?_
  rintro e w1 ⟨rfl, hb1⟩
  go_wp2
  go_ret2
  exact ⟨rfl, hb1⟩
theorem rfgap_small (A : Option Addr) (L : IL) (c : Nat) (lo hi n : Int) (w : World) (hr : Iv w A L) (hn : L.length ≤ 20) (h1 : chk L = 0) (h0 : lo ≤ hi) (h2 : n < 1) :
    Calls Try.prog 31 #[.slice A L.length c, .int .i64 lo, .int .i64 hi, .int .i64 n] w fun e w' => e = .returned (.tuple #[.int .i64 0, .int .i64 2]) ∧ Below w.heap.size w w' := by
  have H := hide (rgaps_ok A L c lo hi w hr hn h1 h0)
  have hd : decide (n < 1) = true := decide_eq_true h2
  clear hr h1 h0
  go_enter Try.func31, Try.ntmps31
  go_wp2_with fail
  refine H.out.mono ?_
  rintro e w1 ⟨A3, c3, R, rfl, ha, hmem, hl, hmine, hb3⟩
  have HB := hide hb3
  clear ha hmem hl hmine hb3
  go_wp2
  go_ret2
  exact ⟨rfl, HB.out⟩
set_option maxHeartbeats 1000000 in
theorem rfgap_ok (A : Option Addr) (L : IL) (c : Nat) (lo hi n : Int) (w : World) (hr : Iv w A L) (hn : L.length ≤ 20) (h1 : chk L = 0) (h0 : lo ≤ hi) (h2 : 1 ≤ n) (hn2 : n ≤ 9223372036854775807) (hlo : -9223372036854775808 ≤ lo) (hhi : hi ≤ 9223372036854775807) :
    Calls Try.prog 31 #[.slice A L.length c, .int .i64 lo, .int .i64 hi, .int .i64 n] w (GapEnd lo hi n L w) := by
  have H := hide (rgaps_ok A L c lo hi w hr hn h1 h0)
  have hd : decide (n < 1) = false := decide_eq_false (by omega)
  have HLH := hide (And.intro hlo (And.intro hhi h0))
  clear hr h1 h0 hlo hhi
  go_enter Try.func31, Try.ntmps31
  go_wp2_with fail
  refine H.out.mono ?_
  rintro e w1 ⟨A3, c3, R, rfl, ha, hmem, hl, hmine, hb3⟩
  have HA := hide ha
  have HM := hide hmem
  have HI := hide hmine.iv
  have HB := hide hb3
  clear ha hmem hmine hb3 H
  go_wp2
  go_loopw [12] (fun i wr => ∃ k : Nat, k ≤ R.length ∧ i = .int .i64 k ∧ firstFit R n = firstFit (R.drop k) n ∧ Below w1.heap.size w1 wr) (fun i _ => R.length - (intOf i).toNat)
  case atStart => exact ⟨0, Nat.zero_le _, rfl, rfl, brefl _⟩
  case round =>
    obtain ⟨k, hk, rfl, hff, hb⟩ := hrel
    by_cases hlt : k < R.length
    · obtain ⟨b, off, rfl, hbl, hcs⟩ := HI.out.cells hb hlt
      obtain ⟨c0, c1⟩ := hcs k hlt
      have hbl2 : b < wr.heap.size := Nat.lt_of_lt_of_le hbl hb.size
      have HCS := hide (fun W (hW : Below wr.heap.size wr W) => (hW.cell (p := ⟨b, off + k * 2, none⟩) hbl2).trans c0)
      obtain ⟨p1, p2, p3, _⟩ := gap_in HA.out HM.out hlt
      rw [fit_drop hlt] at hff
      have HBB := hide hb
      have HFT := hide (fun W => fits_any (pairAt R k).1 (pairAt R k).2 n _ W (by omega) (by have := HLH.out.1; omega) (by have := HLH.out.2.1; omega) h2 hn2 rfl)
      clear p1 p2 p3 hcs hb
      by_cases t1 : n ≤ (pairAt R k).2 - (pairAt R k).1
      · rw [if_pos t1] at hff
        rw [decide_eq_true t1] at HFT
        have HF := hide hff
        generalize (pairAt R k).1 = f at *
        generalize (pairAt R k).2 = t at *
        clear hff t1
        go_wp2_with fail
        refine (HFT.out _).mono ?_
        rintro e w2 ⟨rfl, hb2⟩
        have c2 := HCS.out w2 hb2
        have hbl3 : b < w2.heap.size := Nat.lt_of_lt_of_le hbl2 hb2.size
        have HB2 := hide (btrans HBB.out hb2)
        clear hb2
        go_wp2
        go_ret2
        exact ⟨R, HA.out, HM.out, by rw [HF.out]; rfl, btrans HB.out HB2.out⟩
      · rw [if_neg t1] at hff
        rw [decide_eq_false t1] at HFT
        have HF := hide hff
        generalize (pairAt R k).1 = f at *
        generalize (pairAt R k).2 = t at *
        clear hff t1
        go_wp2_with fail
        refine (HFT.out _).mono ?_
        rintro e w2 ⟨rfl, hb2⟩
        have HB2 := hide (btrans HBB.out hb2)
        clear hb2
        go_wp2
        go_roundw
        case rel => exact ⟨k + 1, by omega, by go_num, HF.out, HB2.out⟩
        case measure => simp [intOf]; omega
    · have e1 : k = R.length := by omega
      rw [e1, List.drop_length] at hff
      have HF := hide hff
      clear hff e1
      go_wp2
      go_ret2
      exact ⟨R, HA.out, HM.out, by rw [HF.out]; rfl, btrans HB.out hb⟩
theorem gaps_both (A : Option Addr) (L : IL) (c : Nat) (lo hi : Int) (hn : L.length ≤ 12) : ∃ R : IL, R.length ≤ 2000 ∧
    (∀ W, Iv W A L → Calls Try.prog 28 #[.slice A L.length c, .int .i64 lo, .int .i64 hi] W (SetRes (oneE L lo hi) R W)) ∧
    (∀ W, Iv W A L → Calls Try.prog 29 #[.slice A L.length c, .int .i64 lo, .int .i64 hi] W (SetRes (oneE L lo hi) R W)) := by
  by_cases h : oneE L lo hi = 0
  · obtain ⟨h1, h2⟩ := oneE_ok h
    obtain ⟨R, ha, hmm⟩ := first_R (L := L) lo hi h1 h2
    rw [h]
    refine ⟨R, by have := gap_len h2 ha (chk_ok.1 h1) hmm; omega, fun W k1 => ?_, fun W k1 => ?_⟩
    · exact (gaps_ok A L c lo hi W k1 (by omega) h1 h2).mono fun e w' k => res_ok ha hmm k
    · exact (rgaps_ok A L c lo hi W k1 (by omega) h1 h2).mono fun e w' k => res_ok ha hmm k
  · have h3 := oneE_no h
    refine ⟨[], by simp, fun W k1 => ?_, fun W k1 => ?_⟩
    · exact (gaps_err A L c lo hi _ W k1 (by omega) h3).mono fun e w' k => res_err k
    · exact (rgaps_err A L c lo hi _ W k1 (by omega) h3).mono fun e w' k => res_err k
def TwoInts (v er : Int) (w : World) (e : Ending) (w' : World) : Prop := e = .returned (.tuple #[.int .i64 v, .int .i64 er]) ∧ Below w.heap.size w w'
theorem fgap_both (A : Option Addr) (L : IL) (c : Nat) (lo hi n : Int) (hn : L.length ≤ 12) (hn2 : n ≤ 9223372036854775807) (hlo : -9223372036854775808 ≤ lo) (hhi : hi ≤ 9223372036854775807) : ∃ v er : Int,
    (∀ W, Iv W A L → Calls Try.prog 30 #[.slice A L.length c, .int .i64 lo, .int .i64 hi, .int .i64 n] W (TwoInts v er W)) ∧
    (∀ W, Iv W A L → Calls Try.prog 31 #[.slice A L.length c, .int .i64 lo, .int .i64 hi, .int .i64 n] W (TwoInts v er W)) := by
  by_cases h : oneE L lo hi = 0
  · obtain ⟨h1, h2⟩ := oneE_ok h
    by_cases h3 : n < 1
    · exact ⟨0, 2, fun W k => fgap_small A L c lo hi n W k (by omega) h1 h2 h3, fun W k => rfgap_small A L c lo hi n W k (by omega) h1 h2 h3⟩
    · obtain ⟨R, ha, hmm⟩ := first_R (L := L) lo hi h1 h2
      refine ⟨gapAt (firstFit R n), gapEr (firstFit R n), fun W k => ?_, fun W k => ?_⟩
      · exact (fgap_ok A L c lo hi n W k (by omega) h1 h2 (by omega) hn2 hlo hhi).mono fun e w' ⟨S, a, m, he, hb⟩ => by
          obtain rfl : R = S := il_ext ha a fun x => by rw [hmm, m]
          exact ⟨he, hb⟩
      · exact (rfgap_ok A L c lo hi n W k (by omega) h1 h2 (by omega) hn2 hlo hhi).mono fun e w' ⟨S, a, m, he, hb⟩ => by
          obtain rfl : R = S := il_ext ha a fun x => by rw [hmm, m]
          exact ⟨he, hb⟩
  · have h3 := oneE_no h
    exact ⟨0, oneE L lo hi, fun W k => fgap_err A L c lo hi n _ W k (by omega) h3, fun W k => rfgap_err A L c lo hi n _ W k (by omega) h3⟩
set_option maxHeartbeats 4000000 in
theorem law_gaps (A : Option Addr) (L : IL) (c : Nat) (lo hi n : Int) (w : World) (hr : Iv w A L) (_ : ∀ x ∈ L, (-9223372036854775808 ≤ x.1 ∧ x.1 ≤ 9223372036854775807) ∧ (-9223372036854775808 ≤ x.2 ∧ x.2 ≤ 9223372036854775807)) (hl : L.length ≤ 9223372036854775807) (hlo : -9223372036854775808 ≤ lo ∧ lo ≤ 9223372036854775807) (hhi : -9223372036854775808 ≤ hi ∧ hi ≤ 9223372036854775807) (hn : -9223372036854775808 ≤ n ∧ n ≤ 9223372036854775807) :
    Calls Try.prog 6 #[.slice A L.length c, .agg #[.int .i64 lo, .int .i64 hi, .int .i64 n]] w fun e w' => e = .returned (.bool true) ∧ Below w.heap.size w w' := by
  have hb0 := bal (brefl w) (.cells #[.int .i64 lo, .int .i64 hi, .int .i64 n] 34)
  have X := hide (Box3.new w lo hi n)
  have QA := hide (hr.below hb0)
  have K := hide hb0
  clear hr hb0
  by_cases h : L.length ≤ 12
  · obtain ⟨R1, n1, F1, G1⟩ := gaps_both A L c lo hi h
    obtain ⟨v, ev, F2, G2⟩ := fgap_both A L c lo hi n h hn.2 hlo.1 hhi.2
    have HF := hide (fun W => few_lit A L.length c true W (by omega) (decide_eq_true h))
    generalize oneE L lo hi = er at *
    have r1 : (er == er) = true := by simp
    have r2 : (ev == ev) = true := by simp
    have r3 : (v == v) = true := by simp
    have X1 := hide F1
    have X2 := hide F2
    have Y1 := hide G1
    have Y2 := hide G2
    clear F1 F2 G1 G2 h hlo hhi hn
    go_enter Try.func6, Try.ntmps6
    go_wp2_with fail
    refine (HF.out _).mono ?_
    rintro e w' ⟨rfl, rfl⟩
    go_wp2_with fail
    refine (X1.out _ QA.out).mono ?_
    rintro e w1 ⟨Au, cu, rfl, hiu, hb1⟩
    replace K := hide (btrans K.out hb1)
    replace X := hide (X.out.below hb1)
    replace QA := hide (QA.out.below hb1)
    have Qu := hide hiu
    clear hb1 hiu
    have x0 := X.out.c0
    have x1 := X.out.c1
    go_wp2_with fail
    refine (Y1.out _ QA.out).mono ?_
    rintro e w2 ⟨Av, cv, rfl, hiv, hb2⟩
    replace K := hide (btrans K.out hb2)
    replace X := hide (X.out.below hb2)
    replace QA := hide (QA.out.below hb2)
    replace Qu := hide (Qu.out.below hb2)
    have Qv := hide hiv
    clear hb2 hiv x0 x1
    have x0 := X.out.c0
    have x1 := X.out.c1
    have x2 := X.out.c2
    go_wp2_with fail
    refine (X2.out _ QA.out).mono ?_
    rintro e w3 ⟨rfl, hb3⟩
    replace K := hide (btrans K.out hb3)
    replace X := hide (X.out.below hb3)
    replace QA := hide (QA.out.below hb3)
    replace Qu := hide (Qu.out.below hb3)
    replace Qv := hide (Qv.out.below hb3)
    clear hb3 x0 x1 x2
    have x0 := X.out.c0
    have x1 := X.out.c1
    have x2 := X.out.c2
    go_wp2_with fail
    refine (Y2.out _ QA.out).mono ?_
    rintro e w4 ⟨rfl, hb4⟩
    replace K := hide (btrans K.out hb4)
    replace Qu := hide (Qu.out.below hb4)
    replace Qv := hide (Qv.out.below hb4)
    clear hb4 x0 x1 x2
    go_wp2_with fail
    refine (same_is _ _ _ _ _ _ Qu.out Qv.out n1).mono ?_
    rintro e w5 ⟨rfl, hb5⟩
    replace K := hide (btrans K.out hb5)
    clear hb5
    go_wp2_with fail
    refine (awake _).mono ?_
    rintro e w6 ⟨rfl, hb6⟩
    replace K := hide (btrans K.out hb6)
    clear hb6
    go_wp2_with fail
    go_ret
    exact ⟨rfl, K.out⟩
  · have HF := hide (fun W => few_lit A L.length c false W (by omega) (decide_eq_false h))
    clear h
    go_enter Try.func6, Try.ntmps6
    go_wp2_with fail
    refine (HF.out _).mono ?_
    rintro e w' ⟨rfl, rfl⟩
    go_wp2_with fail
    refine (awake _).mono ?_
    rintro e w3 ⟨rfl, hb3⟩
    replace K := hide (btrans K.out hb3)
    clear hb3
    go_wp2_with fail
    go_ret
    exact ⟨rfl, K.out⟩
end Go.Proofs.Ytdpdlbonlpdkjab.Iv
