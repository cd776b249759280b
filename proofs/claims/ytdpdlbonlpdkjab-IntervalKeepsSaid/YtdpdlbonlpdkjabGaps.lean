import Derived.Test.YtdpdlbonlpdkjabOps
import Derived.Laws.Bits64
namespace Go.Proofs.Ytdpdlbonlpdkjab.Iv
open Go Go.RowKit
set_option linter.unusedVariables false
theorem gaps_err (A : Option Addr) (L : IL) (c : Nat) (lo hi er : Int) (w : World) (hr : Iv w A L) (hn : L.length ≤ 500) (he : (chk L = er ∧ er ≠ 0) ∨ (chk L = 0 ∧ hi < lo ∧ er = 2)) :
    Calls Try.prog 28 #[.slice A L.length c, .int .i64 lo, .int .i64 hi] w (SetErr er w) := by
  have H1 := hide (check_any A L c w hr (by omega))
  clear hr
  rcases he with ⟨he, h0⟩ | ⟨he, h0, rfl⟩
  · have n1 : (er == 0) = false := by simpa using h0
    have n2 : (er != 0) = true := by rw [bne, n1]; rfl
    rw [he] at H1
    clear he h0
    go_enter Try.func28, Try.ntmps28
    go_wp2_with fail
    refine H1.out.mono ?_
    rintro e w1 ⟨rfl, hb1⟩
    go_wp2
    go_ret2
    exact ⟨rfl, hb1⟩
  · rw [he] at H1
    clear he
    have hd : decide (hi < lo) = true := decide_eq_true h0
    go_enter Try.func28, Try.ntmps28
    go_wp2_with fail
    refine H1.out.mono ?_
    rintro e w1 ⟨rfl, hb1⟩
    go_wp2
    go_ret2
    exact ⟨rfl, hb1⟩
theorem gaps_ok (A : Option Addr) (L : IL) (c : Nat) (lo hi : Int) (w : World) (hr : Iv w A L) (hn : L.length ≤ 500) (h1 : chk L = 0) (h0 : lo ≤ hi) :
    Calls Try.prog 28 #[.slice A L.length c, .int .i64 lo, .int .i64 hi] w (SetOk (fun n => (decide (lo ≤ n) && decide (n < hi)) && !mem L n) w) := by
  have H1 := hide (check_any A L c w hr (by omega))
  have H3 := hide (fun B d W (hb : Below w.heap.size w W) (hs : Iv W B (oneL lo hi)) => merge_sub B A (oneL lo hi) L d c W hs (hr.below hb) (oneL_asc h0) (chk_ok.1 h1) (oneL_len lo hi) hn)
  rw [h1] at H1
  clear hr h1
  have hd : decide (hi < lo) = false := decide_eq_false (by omega)
  go_enter Try.func28, Try.ntmps28
  go_wp2_with fail
  refine H1.out.mono ?_
  rintro e w1 ⟨rfl, hb1⟩
  have HB := hide hb1
  clear hb1
  go_wp2_with fail
  refine (list_any lo hi _).mono ?_
  rintro e w2 ⟨A2, c2, rfl, hr2, hb2⟩
  have HB2 := hide (btrans HB.out hb2)
  have HR2 := hide hr2
  clear hb2 hr2 HB
  go_wp2_with fail
  refine (H3.out _ _ _ HB2.out HR2.out).mono ?_
  rintro e w3 ⟨A3, c3, R, rfl, ha, hmem, hl, hmine, hb3⟩
  simp only [oneL_mem] at hmem
  have HE := hide (And.intro ha (And.intro hmem (And.intro hl (And.intro (hmine.mono HB2.out.size) (btrans HB2.out hb3)))))
  clear ha hmem hl hmine hb3
  go_wp2
  go_ret2
  exact ⟨A3, c3, R, rfl, HE.out⟩
theorem length_any (f t : Int) (w : World) (h0 : f ≤ t) (h1 : -9223372036854775808 ≤ f) (h2 : t ≤ 9223372036854775807) :
    Calls Try.prog 50 #[.agg #[.int .i64 f, .int .i64 t]] w fun e w' => e = .returned (.int .u64 (t - f)) ∧ Below w.heap.size w w' := by
  go_enter Try.func50, Try.ntmps50
  go_wp2
  go_ret
  refine ⟨ret_int ?_, bal (brefl _) _⟩
  rw [IntKind.wrap_u64, IntKind.wrap_u64, IntKind.wrap_u64]
  omega
def firstFit : IL → Int → Option Int
  | [], _ => none
  | (f, t) :: l, n => if n ≤ t - f then some f else firstFit l n
def gapAt (o : Option Int) : Int := match o with | some f => f | none => 0
def gapEr (o : Option Int) : Int := match o with | some _ => 0 | none => 6
theorem fit_drop {L : IL} {k : Nat} (h : k < L.length) (n : Int) : firstFit (L.drop k) n = if n ≤ (pairAt L k).2 - (pairAt L k).1 then some (pairAt L k).1 else firstFit (L.drop (k + 1)) n := by
  rw [drop_pair h]; rfl
theorem pair_in {R : IL} (h : asc (edges R)) {k : Nat} (hk : k < R.length) : (pairAt R k).1 < (pairAt R k).2 ∧ ∀ n, (pairAt R k).1 ≤ n → n < (pairAt R k).2 → mem R n = true := by
  constructor
  · have := asc_getD h (j := 2 * k) (k := 2 * k + 1) (by omega) (by rw [edges_length]; omega)
    rwa [edges_even, edges_odd] at this
  · intro n h1 h2
    unfold mem
    rw [List.any_eq_true]
    refine ⟨pairAt R k, ?_, by simp [h1, h2]⟩
    unfold pairAt
    rw [List.getD_eq_getElem?_getD, List.getElem?_eq_getElem hk]
    exact List.getElem_mem hk
def GapEnd (lo hi n : Int) (L : IL) (w : World) (e : Ending) (w' : World) : Prop :=
  ∃ R, asc (edges R) ∧ (∀ m, mem R m = ((decide (lo ≤ m) && decide (m < hi)) && !mem L m)) ∧ e = .returned (.tuple #[.int .i64 (gapAt (firstFit R n)), .int .i64 (gapEr (firstFit R n))]) ∧ Below w.heap.size w w'
theorem fgap_err (A : Option Addr) (L : IL) (c : Nat) (lo hi n er : Int) (w : World) (hr : Iv w A L) (hn : L.length ≤ 500) (he : (chk L = er ∧ er ≠ 0) ∨ (chk L = 0 ∧ hi < lo ∧ er = 2)) :
    Calls Try.prog 30 #[.slice A L.length c, .int .i64 lo, .int .i64 hi, .int .i64 n] w fun e w' => e = .returned (.tuple #[.int .i64 0, .int .i64 er]) ∧ Below w.heap.size w w' := by
  have H := hide (gaps_err A L c lo hi er w hr hn he)
  have h0 : er ≠ 0 := by rcases he with h | h; exact h.2; rw [h.2.2]; decide
  have n1 : (er == 0) = false := by simpa using h0
  have n2 : (er != 0) = true := by rw [bne, n1]; rfl
  clear hr he h0
  go_enter Try.func30, Try.ntmps30
  go_wp2_with fail
  refine H.out.mono ?_
  rintro e w1 ⟨rfl, hb1⟩
  go_wp2
  go_ret2
  exact ⟨rfl, hb1⟩
theorem fgap_small (A : Option Addr) (L : IL) (c : Nat) (lo hi n : Int) (w : World) (hr : Iv w A L) (hn : L.length ≤ 500) (h1 : chk L = 0) (h0 : lo ≤ hi) (h2 : n < 1) :
    Calls Try.prog 30 #[.slice A L.length c, .int .i64 lo, .int .i64 hi, .int .i64 n] w fun e w' => e = .returned (.tuple #[.int .i64 0, .int .i64 2]) ∧ Below w.heap.size w w' := by
  have H := hide (gaps_ok A L c lo hi w hr hn h1 h0)
  have hd : decide (n < 1) = true := decide_eq_true h2
  clear hr h1 h0
  go_enter Try.func30, Try.ntmps30
  go_wp2_with fail
  refine H.out.mono ?_
  rintro e w1 ⟨A3, c3, R, rfl, ha, hmem, hl, hmine, hb3⟩
  have HB := hide hb3
  clear ha hmem hl hmine hb3
  go_wp2
  go_ret2
  exact ⟨rfl, HB.out⟩
set_option maxHeartbeats 1000000 in
theorem fgap_ok (A : Option Addr) (L : IL) (c : Nat) (lo hi n : Int) (w : World) (hr : Iv w A L) (hn : L.length ≤ 500) (h1 : chk L = 0) (h0 : lo ≤ hi) (h2 : 1 ≤ n) (hn2 : n ≤ 9223372036854775807) (hlo : -9223372036854775808 ≤ lo) (hhi : hi ≤ 9223372036854775807) :
    Calls Try.prog 30 #[.slice A L.length c, .int .i64 lo, .int .i64 hi, .int .i64 n] w (GapEnd lo hi n L w) := by
  have H := hide (gaps_ok A L c lo hi w hr hn h1 h0)
  have hd : decide (n < 1) = false := decide_eq_false (by omega)
  have hwn : IntKind.u64.wrap n = n := by rw [IntKind.wrap_u64]; omega
  have HLH := hide (And.intro hlo (And.intro hhi h0))
  clear hr h1 h0 hlo hhi
  go_enter Try.func30, Try.ntmps30
  go_wp2_with fail
  refine H.out.mono ?_
  rintro e w1 ⟨A3, c3, R, rfl, ha, hmem, hl, hmine, hb3⟩
  have HA := hide ha
  have HM := hide hmem
  have HI := hide hmine.iv
  have HB := hide hb3
  clear ha hmem hmine hb3 H
  go_wp2
  go_loopw [28] (fun i wr => ∃ k : Nat, k ≤ R.length ∧ i = .int .i64 k ∧ firstFit R n = firstFit (R.drop k) n ∧ Below w1.heap.size w1 wr) (fun i _ => R.length - (intOf i).toNat)
  case atStart => exact ⟨0, Nat.zero_le _, rfl, rfl, brefl _⟩
  case round =>
    obtain ⟨k, hk, rfl, hff, hb⟩ := hrel
    by_cases hlt : k < R.length
    · obtain ⟨b, off, rfl, hbl, hcs⟩ := HI.out.cells hb hlt
      obtain ⟨c0, c1⟩ := hcs k hlt
      have hbl2 : b < wr.heap.size := Nat.lt_of_lt_of_le hbl hb.size
      obtain ⟨p1, p2⟩ := pair_in HA.out hlt
      have q1 := p2 _ (Int.le_refl _) p1
      have q2 := p2 ((pairAt R k).2 - 1) (by omega) (by omega)
      rw [HM.out] at q1 q2
      simp at q1 q2
      have HLN := hide (fun W => length_any (pairAt R k).1 (pairAt R k).2 W (by omega) (by have := HLH.out.1; omega) (by have := HLH.out.2.1; omega))
      rw [fit_drop hlt] at hff
      have HBB := hide hb
      clear p1 p2 q1 q2 hcs hb
      by_cases t1 : n ≤ (pairAt R k).2 - (pairAt R k).1
      · rw [if_pos t1] at hff
        have HF := hide hff
        have hd2 : decide (n ≤ (pairAt R k).2 - (pairAt R k).1) = true := decide_eq_true t1
        generalize (pairAt R k).1 = f at *
        generalize (pairAt R k).2 = t at *
        clear hff t1
        go_wp2_with fail
        refine (HLN.out _).mono ?_
        rintro e w2 ⟨rfl, hb2⟩
        obtain ⟨hc2, hf2⟩ := bcell hb2
        have HB2 := hide (btrans (bal HBB.out _) hb2)
        clear hb2
        go_wp2
        go_ret2
        exact ⟨R, HA.out, HM.out, by rw [HF.out]; rfl, btrans HB.out HB2.out⟩
      · rw [if_neg t1] at hff
        have HF := hide hff
        have hd2 : decide (n ≤ (pairAt R k).2 - (pairAt R k).1) = false := decide_eq_false t1
        generalize (pairAt R k).1 = f at *
        generalize (pairAt R k).2 = t at *
        clear hff t1
        go_wp2_with fail
        refine (HLN.out _).mono ?_
        rintro e w2 ⟨rfl, hb2⟩
        have HB2 := hide (btrans (bal HBB.out _) hb2)
        clear hb2
        go_wp2
        go_roundw
        case rel => exact ⟨k + 1, by omega, by go_num, HF.out, HB2.out⟩
        case measure => simp [intOf]; omega
    · have e1 : k = R.length := by omega
      rw [e1, List.drop_length] at hff
      have HF := hide hff
      clear hff e1
      go_wp2
      go_ret2
      exact ⟨R, HA.out, HM.out, by rw [HF.out]; rfl, btrans HB.out hb⟩
end Go.Proofs.Ytdpdlbonlpdkjab.Iv
