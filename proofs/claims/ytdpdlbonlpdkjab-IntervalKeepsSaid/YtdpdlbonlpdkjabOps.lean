import Derived.Test.YtdpdlbonlpdkjabMergeOr
import Derived.Test.YtdpdlbonlpdkjabMergeAnd
import Derived.Test.YtdpdlbonlpdkjabMergeSub
namespace Go.Proofs.Ytdpdlbonlpdkjab.Iv
open Go Go.RowKit
set_option linter.unusedVariables false
/-- What a call that answers a list and an error answers, where all is well. -/
def SetOk (spec : Int → Bool) (w : World) (e : Ending) (w' : World) : Prop :=
  ∃ A' c' R, e = .returned (.tuple #[.slice A' (List.length R) c', .int .i64 0]) ∧ asc (edges R) ∧ (∀ n, mem R n = spec n) ∧ List.length R ≤ 2000 ∧ MineI w.heap.size w' A' R ∧ Below w.heap.size w w'
def SetErr (er : Int) (w : World) (e : Ending) (w' : World) : Prop := e = .returned (.tuple #[.slice none 0 0, .int .i64 er]) ∧ Below w.heap.size w w'
def bothI (L M : IL) : Int := if chk L = 0 then chk M else chk L
theorem MineI.mono {B B' : Nat} {w : World} {A : Option Addr} {L : IL} (h : MineI B w A L) (hB : B' ≤ B) : MineI B' w A L := fun hn => by
  obtain ⟨g, cur, e, hg, r⟩ := h hn
  exact ⟨g, cur, e, Nat.le_trans hB hg, r⟩
theorem MineI.below {B : Nat} {w w' : World} {A : Option Addr} {L : IL} (h : MineI B w A L) (hb : Below w.heap.size w w') : MineI B w' A L := fun hn => by
  obtain ⟨g, cur, e, hg, hh, ht⟩ := h hn
  have hlt : g < w.heap.size := by
    rcases Nat.lt_or_ge g w.heap.size with h1 | h1
    · exact h1
    · rw [Array.getElem?_eq_none h1] at hh; cases hh
  exact ⟨g, cur, e, hg, (hb.block g hlt).trans hh, ht⟩
theorem comb_or_err (A B : Option Addr) (L M : IL) (c d : Nat) (er : Int) (w : World) (hr : Iv w A L) (hs : Iv w B M) (hn : L.length ≤ 500) (hm : M.length ≤ 500) (he : bothI L M = er) (h0 : er ≠ 0) :
    Calls Try.prog 40 #[.slice A L.length c, .slice B M.length d, .func (Fn.func 41) #[] #[]] w (SetErr er w) := by
  have H1 := hide (check_any A L c w hr (by omega))
  have H2 := hide (fun W (hb : Below w.heap.size w W) => check_any B M d W (hs.below hb) (by omega))
  have n1 : (er == 0) = false := by simpa using h0
  have n2 : (er != 0) = true := by rw [bne, n1]; rfl
  clear hr hs h0
  unfold bothI at he
  by_cases c1 : chk L = 0
  · rw [if_pos c1] at he
    rw [c1] at H1
    rw [he] at H2
    clear c1 he
    go_enter Try.func40, Try.ntmps40
    go_wp2_with fail
    refine H1.out.mono ?_
    rintro e w1 ⟨rfl, hb1⟩
    have HB := hide hb1
    clear hb1
    go_wp2_with fail
    refine (H2.out _ HB.out).mono ?_
    rintro e w2 ⟨rfl, hb2⟩
    have HB2 := hide (btrans HB.out hb2)
    clear hb2
    go_wp2
    go_ret2
    exact ⟨rfl, HB2.out⟩
  · rw [if_neg c1] at he
    rw [he] at H1
    clear c1 he H2
    go_enter Try.func40, Try.ntmps40
    go_wp2_with fail
    refine H1.out.mono ?_
    rintro e w1 ⟨rfl, hb1⟩
    have HB := hide hb1
    clear hb1
    go_wp2
    go_ret2
    exact ⟨rfl, HB.out⟩
theorem comb_or_ok (A B : Option Addr) (L M : IL) (c d : Nat) (w : World) (hr : Iv w A L) (hs : Iv w B M) (hn : L.length ≤ 500) (hm : M.length ≤ 500) (h1 : chk L = 0) (h2 : chk M = 0) :
    Calls Try.prog 40 #[.slice A L.length c, .slice B M.length d, .func (Fn.func 41) #[] #[]] w (SetOk (fun n => mem L n || mem M n) w) := by
  have H1 := hide (check_any A L c w hr (by omega))
  have H2 := hide (fun W (hb : Below w.heap.size w W) => check_any B M d W (hs.below hb) (by omega))
  have H3 := hide (fun W (hb : Below w.heap.size w W) => merge_or A B L M c d W (hr.below hb) (hs.below hb) (chk_ok.1 h1) (chk_ok.1 h2) hn hm)
  rw [h1] at H1
  rw [h2] at H2
  clear hr hs h1 h2
  go_enter Try.func40, Try.ntmps40
  go_wp2_with fail
  refine H1.out.mono ?_
  rintro e w1 ⟨rfl, hb1⟩
  have HB := hide hb1
  clear hb1
  go_wp2_with fail
  refine (H2.out _ HB.out).mono ?_
  rintro e w2 ⟨rfl, hb2⟩
  have HB2 := hide (btrans HB.out hb2)
  clear hb2 HB
  go_wp2_with fail
  refine (H3.out _ HB2.out).mono ?_
  rintro e w3 ⟨A3, c3, R, rfl, ha, hmem, hl, hmine, hb3⟩
  have HE := hide (And.intro ha (And.intro hmem (And.intro hl (And.intro (hmine.mono HB2.out.size) (btrans HB2.out hb3)))))
  clear ha hmem hl hmine hb3
  go_wp2
  go_ret2
  exact ⟨A3, c3, R, rfl, HE.out⟩
theorem union_err (A B : Option Addr) (L M : IL) (c d : Nat) (er : Int) (w : World) (hr : Iv w A L) (hs : Iv w B M) (hn : L.length ≤ 500) (hm : M.length ≤ 500) (he : bothI L M = er) (h0 : er ≠ 0) :
    Calls Try.prog 17 #[.slice A L.length c, .slice B M.length d] w (SetErr er w) := by
  have H := hide (comb_or_err A B L M c d er w hr hs hn hm he h0)
  clear hr hs he h0
  go_enter Try.func17, Try.ntmps17
  go_wp2_with fail
  refine H.out.mono ?_
  rintro e w1 ⟨rfl, hb1⟩
  go_wp2
  go_ret2
  exact ⟨rfl, hb1⟩
theorem union_ok (A B : Option Addr) (L M : IL) (c d : Nat) (w : World) (hr : Iv w A L) (hs : Iv w B M) (hn : L.length ≤ 500) (hm : M.length ≤ 500) (h1 : chk L = 0) (h2 : chk M = 0) :
    Calls Try.prog 17 #[.slice A L.length c, .slice B M.length d] w (SetOk (fun n => mem L n || mem M n) w) := by
  have H := hide (comb_or_ok A B L M c d w hr hs hn hm h1 h2)
  clear hr hs h1 h2
  go_enter Try.func17, Try.ntmps17
  go_wp2_with fail
  refine H.out.mono ?_
  rintro e w1 ⟨A3, c3, R, rfl, hE⟩
  have HE := hide hE
  clear hE
  go_wp2
  go_ret2
  exact ⟨A3, c3, R, rfl, HE.out⟩
theorem comb_and_err (A B : Option Addr) (L M : IL) (c d : Nat) (er : Int) (w : World) (hr : Iv w A L) (hs : Iv w B M) (hn : L.length ≤ 500) (hm : M.length ≤ 500) (he : bothI L M = er) (h0 : er ≠ 0) :
    Calls Try.prog 40 #[.slice A L.length c, .slice B M.length d, .func (Fn.func 42) #[] #[]] w (SetErr er w) := by
  have H1 := hide (check_any A L c w hr (by omega))
  have H2 := hide (fun W (hb : Below w.heap.size w W) => check_any B M d W (hs.below hb) (by omega))
  have n1 : (er == 0) = false := by simpa using h0
  have n2 : (er != 0) = true := by rw [bne, n1]; rfl
  clear hr hs h0
  unfold bothI at he
  by_cases c1 : chk L = 0
  · rw [if_pos c1] at he
    rw [c1] at H1
    rw [he] at H2
    clear c1 he
    go_enter Try.func40, Try.ntmps40
    go_wp2_with fail
    refine H1.out.mono ?_
    rintro e w1 ⟨rfl, hb1⟩
    have HB := hide hb1
    clear hb1
    go_wp2_with fail
    refine (H2.out _ HB.out).mono ?_
    rintro e w2 ⟨rfl, hb2⟩
    have HB2 := hide (btrans HB.out hb2)
    clear hb2
    go_wp2
    go_ret2
    exact ⟨rfl, HB2.out⟩
  · rw [if_neg c1] at he
    rw [he] at H1
    clear c1 he H2
    go_enter Try.func40, Try.ntmps40
    go_wp2_with fail
    refine H1.out.mono ?_
    rintro e w1 ⟨rfl, hb1⟩
    have HB := hide hb1
    clear hb1
    go_wp2
    go_ret2
    exact ⟨rfl, HB.out⟩
theorem comb_and_ok (A B : Option Addr) (L M : IL) (c d : Nat) (w : World) (hr : Iv w A L) (hs : Iv w B M) (hn : L.length ≤ 500) (hm : M.length ≤ 500) (h1 : chk L = 0) (h2 : chk M = 0) :
    Calls Try.prog 40 #[.slice A L.length c, .slice B M.length d, .func (Fn.func 42) #[] #[]] w (SetOk (fun n => mem L n && mem M n) w) := by
  have H1 := hide (check_any A L c w hr (by omega))
  have H2 := hide (fun W (hb : Below w.heap.size w W) => check_any B M d W (hs.below hb) (by omega))
  have H3 := hide (fun W (hb : Below w.heap.size w W) => merge_and A B L M c d W (hr.below hb) (hs.below hb) (chk_ok.1 h1) (chk_ok.1 h2) hn hm)
  rw [h1] at H1
  rw [h2] at H2
  clear hr hs h1 h2
  go_enter Try.func40, Try.ntmps40
  go_wp2_with fail
  refine H1.out.mono ?_
  rintro e w1 ⟨rfl, hb1⟩
  have HB := hide hb1
  clear hb1
  go_wp2_with fail
  refine (H2.out _ HB.out).mono ?_
  rintro e w2 ⟨rfl, hb2⟩
  have HB2 := hide (btrans HB.out hb2)
  clear hb2 HB
  go_wp2_with fail
  refine (H3.out _ HB2.out).mono ?_
  rintro e w3 ⟨A3, c3, R, rfl, ha, hmem, hl, hmine, hb3⟩
  have HE := hide (And.intro ha (And.intro hmem (And.intro hl (And.intro (hmine.mono HB2.out.size) (btrans HB2.out hb3)))))
  clear ha hmem hl hmine hb3
  go_wp2
  go_ret2
  exact ⟨A3, c3, R, rfl, HE.out⟩
theorem inter_err (A B : Option Addr) (L M : IL) (c d : Nat) (er : Int) (w : World) (hr : Iv w A L) (hs : Iv w B M) (hn : L.length ≤ 500) (hm : M.length ≤ 500) (he : bothI L M = er) (h0 : er ≠ 0) :
    Calls Try.prog 18 #[.slice A L.length c, .slice B M.length d] w (SetErr er w) := by
  have H := hide (comb_and_err A B L M c d er w hr hs hn hm he h0)
  clear hr hs he h0
  go_enter Try.func18, Try.ntmps18
  go_wp2_with fail
  refine H.out.mono ?_
  rintro e w1 ⟨rfl, hb1⟩
  go_wp2
  go_ret2
  exact ⟨rfl, hb1⟩
theorem inter_ok (A B : Option Addr) (L M : IL) (c d : Nat) (w : World) (hr : Iv w A L) (hs : Iv w B M) (hn : L.length ≤ 500) (hm : M.length ≤ 500) (h1 : chk L = 0) (h2 : chk M = 0) :
    Calls Try.prog 18 #[.slice A L.length c, .slice B M.length d] w (SetOk (fun n => mem L n && mem M n) w) := by
  have H := hide (comb_and_ok A B L M c d w hr hs hn hm h1 h2)
  clear hr hs h1 h2
  go_enter Try.func18, Try.ntmps18
  go_wp2_with fail
  refine H.out.mono ?_
  rintro e w1 ⟨A3, c3, R, rfl, hE⟩
  have HE := hide hE
  clear hE
  go_wp2
  go_ret2
  exact ⟨A3, c3, R, rfl, HE.out⟩
theorem comb_sub_err (A B : Option Addr) (L M : IL) (c d : Nat) (er : Int) (w : World) (hr : Iv w A L) (hs : Iv w B M) (hn : L.length ≤ 500) (hm : M.length ≤ 500) (he : bothI L M = er) (h0 : er ≠ 0) :
    Calls Try.prog 40 #[.slice A L.length c, .slice B M.length d, .func (Fn.func 43) #[] #[]] w (SetErr er w) := by
  have H1 := hide (check_any A L c w hr (by omega))
  have H2 := hide (fun W (hb : Below w.heap.size w W) => check_any B M d W (hs.below hb) (by omega))
  have n1 : (er == 0) = false := by simpa using h0
  have n2 : (er != 0) = true := by rw [bne, n1]; rfl
  clear hr hs h0
  unfold bothI at he
  by_cases c1 : chk L = 0
  · rw [if_pos c1] at he
    rw [c1] at H1
    rw [he] at H2
    clear c1 he
    go_enter Try.func40, Try.ntmps40
    go_wp2_with fail
    refine H1.out.mono ?_
    rintro e w1 ⟨rfl, hb1⟩
    have HB := hide hb1
    clear hb1
    go_wp2_with fail
    refine (H2.out _ HB.out).mono ?_
    rintro e w2 ⟨rfl, hb2⟩
    have HB2 := hide (btrans HB.out hb2)
    clear hb2
    go_wp2
    go_ret2
    exact ⟨rfl, HB2.out⟩
  · rw [if_neg c1] at he
    rw [he] at H1
    clear c1 he H2
    go_enter Try.func40, Try.ntmps40
    go_wp2_with fail
    refine H1.out.mono ?_
    rintro e w1 ⟨rfl, hb1⟩
    have HB := hide hb1
    clear hb1
    go_wp2
    go_ret2
    exact ⟨rfl, HB.out⟩
theorem comb_sub_ok (A B : Option Addr) (L M : IL) (c d : Nat) (w : World) (hr : Iv w A L) (hs : Iv w B M) (hn : L.length ≤ 500) (hm : M.length ≤ 500) (h1 : chk L = 0) (h2 : chk M = 0) :
    Calls Try.prog 40 #[.slice A L.length c, .slice B M.length d, .func (Fn.func 43) #[] #[]] w (SetOk (fun n => mem L n && !mem M n) w) := by
  have H1 := hide (check_any A L c w hr (by omega))
  have H2 := hide (fun W (hb : Below w.heap.size w W) => check_any B M d W (hs.below hb) (by omega))
  have H3 := hide (fun W (hb : Below w.heap.size w W) => merge_sub A B L M c d W (hr.below hb) (hs.below hb) (chk_ok.1 h1) (chk_ok.1 h2) hn hm)
  rw [h1] at H1
  rw [h2] at H2
  clear hr hs h1 h2
  go_enter Try.func40, Try.ntmps40
  go_wp2_with fail
  refine H1.out.mono ?_
  rintro e w1 ⟨rfl, hb1⟩
  have HB := hide hb1
  clear hb1
  go_wp2_with fail
  refine (H2.out _ HB.out).mono ?_
  rintro e w2 ⟨rfl, hb2⟩
  have HB2 := hide (btrans HB.out hb2)
  clear hb2 HB
  go_wp2_with fail
  refine (H3.out _ HB2.out).mono ?_
  rintro e w3 ⟨A3, c3, R, rfl, ha, hmem, hl, hmine, hb3⟩
  have HE := hide (And.intro ha (And.intro hmem (And.intro hl (And.intro (hmine.mono HB2.out.size) (btrans HB2.out hb3)))))
  clear ha hmem hl hmine hb3
  go_wp2
  go_ret2
  exact ⟨A3, c3, R, rfl, HE.out⟩
theorem subtract_err (A B : Option Addr) (L M : IL) (c d : Nat) (er : Int) (w : World) (hr : Iv w A L) (hs : Iv w B M) (hn : L.length ≤ 500) (hm : M.length ≤ 500) (he : bothI L M = er) (h0 : er ≠ 0) :
    Calls Try.prog 19 #[.slice A L.length c, .slice B M.length d] w (SetErr er w) := by
  have H := hide (comb_sub_err A B L M c d er w hr hs hn hm he h0)
  clear hr hs he h0
  go_enter Try.func19, Try.ntmps19
  go_wp2_with fail
  refine H.out.mono ?_
  rintro e w1 ⟨rfl, hb1⟩
  go_wp2
  go_ret2
  exact ⟨rfl, hb1⟩
theorem subtract_ok (A B : Option Addr) (L M : IL) (c d : Nat) (w : World) (hr : Iv w A L) (hs : Iv w B M) (hn : L.length ≤ 500) (hm : M.length ≤ 500) (h1 : chk L = 0) (h2 : chk M = 0) :
    Calls Try.prog 19 #[.slice A L.length c, .slice B M.length d] w (SetOk (fun n => mem L n && !mem M n) w) := by
  have H := hide (comb_sub_ok A B L M c d w hr hs hn hm h1 h2)
  clear hr hs h1 h2
  go_enter Try.func19, Try.ntmps19
  go_wp2_with fail
  refine H.out.mono ?_
  rintro e w1 ⟨A3, c3, R, rfl, hE⟩
  have HE := hide hE
  clear hE
  go_wp2
  go_ret2
  exact ⟨A3, c3, R, rfl, HE.out⟩
/-- the list of one interval, which may be empty -/
def oneL (f t : Int) : IL := if f = t then [] else [(f, t)]
theorem oneL_asc {f t : Int} (h : f ≤ t) : asc (edges (oneL f t)) := by
  unfold oneL asc
  split
  · exact List.Pairwise.nil
  · simp [edges]; omega
theorem oneL_mem (f t n : Int) : mem (oneL f t) n = (decide (f ≤ n) && decide (n < t)) := by
  unfold oneL
  split
  · rename_i h
    subst h
    by_cases c : f ≤ n
    · rw [decide_eq_true c, decide_eq_false (by omega : ¬ n < f)]; rfl
    · rw [decide_eq_false c]; rfl
  · simp [mem]
theorem oneL_len (f t : Int) : (oneL f t).length ≤ 500 := by unfold oneL; split <;> simp
theorem list_any (f t : Int) (w : World) : Calls Try.prog 48 #[.agg #[.int .i64 f, .int .i64 t]] w fun e w' => ∃ A c, e = .returned (.slice A (oneL f t).length c) ∧ Iv w' A (oneL f t) ∧ Below w.heap.size w w' := by
  by_cases h : f = t
  · subst h
    refine (list_none f w).mono fun e w' ⟨he, hb⟩ => ⟨none, 0, ?_, ?_, hb⟩
    · rw [he]; unfold oneL; rw [if_pos rfl]; rfl
    · unfold oneL; rw [if_pos rfl]; exact fun h => absurd rfl h
  · refine (list_some f t w h).mono fun e w' ⟨A, c, he, hr, hb⟩ => ⟨A, c, ?_, ?_, hb⟩
    · rw [he]; unfold oneL; rw [if_neg h]; rfl
    · unfold oneL; rw [if_neg h]; exact hr
theorem chg_or_err (A : Option Addr) (L : IL) (c : Nat) (f t er : Int) (w : World) (hr : Iv w A L) (hn : L.length ≤ 500) (he : (chk L = er ∧ er ≠ 0) ∨ (chk L = 0 ∧ t < f ∧ er = 2)) :
    Calls Try.prog 45 #[.slice A L.length c, .agg #[.int .i64 f, .int .i64 t], .func (Fn.func 41) #[] #[]] w (SetErr er w) := by
  have H1 := hide (fun W (hb : Below w.heap.size w W) => check_any A L c W (hr.below hb) (by omega))
  clear hr
  rcases he with ⟨he, h0⟩ | ⟨he, h0, rfl⟩
  · have n1 : (er == 0) = false := by simpa using h0
    have n2 : (er != 0) = true := by rw [bne, n1]; rfl
    rw [he] at H1
    clear he h0
    go_enter Try.func45, Try.ntmps45
    go_wp2_with fail
    refine (H1.out _ (bal (brefl _) _)).mono ?_
    rintro e w1 ⟨rfl, hb1⟩
    have HB := hide (btrans (bal (brefl _) _) hb1)
    clear hb1
    go_wp2
    go_ret2
    exact ⟨rfl, HB.out⟩
  · rw [he] at H1
    clear he
    have hd : decide (t < f) = true := decide_eq_true h0
    go_enter Try.func45, Try.ntmps45
    go_wp2_with fail
    refine (H1.out _ (bal (brefl _) _)).mono ?_
    rintro e w1 ⟨rfl, hb1⟩
    obtain ⟨hc1, hf1⟩ := bcell hb1
    have HB := hide (btrans (bal (brefl w) _) hb1)
    clear hb1
    go_wp2
    go_ret2
    exact ⟨rfl, HB.out⟩
theorem chg_or_ok (A : Option Addr) (L : IL) (c : Nat) (f t : Int) (w : World) (hr : Iv w A L) (hn : L.length ≤ 500) (h1 : chk L = 0) (h0 : f ≤ t) :
    Calls Try.prog 45 #[.slice A L.length c, .agg #[.int .i64 f, .int .i64 t], .func (Fn.func 41) #[] #[]] w (SetOk (fun n => mem L n || (decide (f ≤ n) && decide (n < t))) w) := by
  have H1 := hide (fun W (hb : Below w.heap.size w W) => check_any A L c W (hr.below hb) (by omega))
  have H3 := hide (fun B d W (hb : Below w.heap.size w W) (hs : Iv W B (oneL f t)) => merge_or A B L (oneL f t) c d W (hr.below hb) hs (chk_ok.1 h1) (oneL_asc h0) hn (oneL_len f t))
  rw [h1] at H1
  clear hr h1
  have hd : decide (t < f) = false := decide_eq_false (by omega)
  go_enter Try.func45, Try.ntmps45
  go_wp2_with fail
  refine (H1.out _ (bal (brefl _) _)).mono ?_
  rintro e w1 ⟨rfl, hb1⟩
  obtain ⟨hc1, hf1⟩ := bcell hb1
  have HB := hide (btrans (bal (brefl w) _) hb1)
  clear hb1
  go_wp2_with fail
  refine (list_any f t _).mono ?_
  rintro e w2 ⟨A2, c2, rfl, hr2, hb2⟩
  have HB2 := hide (btrans HB.out hb2)
  have HR2 := hide hr2
  clear hb2 hr2 HB hc1 hf1
  go_wp2_with fail
  refine (H3.out _ _ _ HB2.out HR2.out).mono ?_
  rintro e w3 ⟨A3, c3, R, rfl, ha, hmem, hl, hmine, hb3⟩
  simp only [oneL_mem] at hmem
  have HE := hide (And.intro ha (And.intro hmem (And.intro hl (And.intro (hmine.mono HB2.out.size) (btrans HB2.out hb3)))))
  clear ha hmem hl hmine hb3
  go_wp2
  go_ret2
  exact ⟨A3, c3, R, rfl, HE.out⟩
theorem add_err (A : Option Addr) (L : IL) (c : Nat) (f t er : Int) (w : World) (hr : Iv w A L) (hn : L.length ≤ 500) (he : (chk L = er ∧ er ≠ 0) ∨ (chk L = 0 ∧ t < f ∧ er = 2)) :
    Calls Try.prog 24 #[.slice A L.length c, .agg #[.int .i64 f, .int .i64 t]] w (SetErr er w) := by
  have H := hide (fun W (hb : Below w.heap.size w W) => chg_or_err A L c f t er W (hr.below hb) hn he)
  clear hr he
  go_enter Try.func24, Try.ntmps24
  go_wp2_with fail
  refine (H.out _ (by first | exact brefl _ | exact bal (brefl _) _)).mono ?_
  rintro e w1 ⟨rfl, hb1⟩
  have HB := hide (show Below w.heap.size w w1 by first | exact hb1 | exact btrans (bal (brefl w) _) hb1)
  clear hb1
  go_wp2
  go_ret2
  exact ⟨rfl, HB.out⟩
theorem add_ok (A : Option Addr) (L : IL) (c : Nat) (f t : Int) (w : World) (hr : Iv w A L) (hn : L.length ≤ 500) (h1 : chk L = 0) (h0 : f ≤ t) :
    Calls Try.prog 24 #[.slice A L.length c, .agg #[.int .i64 f, .int .i64 t]] w (SetOk (fun n => mem L n || (decide (f ≤ n) && decide (n < t))) w) := by
  have H := hide (fun W (hb : Below w.heap.size w W) => chg_or_ok A L c f t W (hr.below hb) hn h1 h0)
  clear hr h1
  go_enter Try.func24, Try.ntmps24
  go_wp2_with fail
  refine (H.out _ (by first | exact brefl _ | exact bal (brefl _) _)).mono ?_
  rintro e w1 ⟨A3, c3, R, rfl, ha, hmem, hl, hmine, hb3⟩
  have HE := hide (show asc (edges R) ∧ (∀ n, mem R n = (mem L n || (decide (f ≤ n) && decide (n < t)))) ∧ List.length R ≤ 2000 ∧ MineI w.heap.size w1 A3 R ∧ Below w.heap.size w w1 from ⟨ha, hmem, hl, by first | exact hmine | exact hmine.mono (by simp), by first | exact hb3 | exact btrans (bal (brefl w) _) hb3⟩)
  clear ha hmem hl hmine hb3
  go_wp2
  go_ret2
  exact ⟨A3, c3, R, rfl, HE.out⟩
theorem chg_sub_err (A : Option Addr) (L : IL) (c : Nat) (f t er : Int) (w : World) (hr : Iv w A L) (hn : L.length ≤ 500) (he : (chk L = er ∧ er ≠ 0) ∨ (chk L = 0 ∧ t < f ∧ er = 2)) :
    Calls Try.prog 45 #[.slice A L.length c, .agg #[.int .i64 f, .int .i64 t], .func (Fn.func 43) #[] #[]] w (SetErr er w) := by
  have H1 := hide (fun W (hb : Below w.heap.size w W) => check_any A L c W (hr.below hb) (by omega))
  clear hr
  rcases he with ⟨he, h0⟩ | ⟨he, h0, rfl⟩
  · have n1 : (er == 0) = false := by simpa using h0
    have n2 : (er != 0) = true := by rw [bne, n1]; rfl
    rw [he] at H1
    clear he h0
    go_enter Try.func45, Try.ntmps45
    go_wp2_with fail
    refine (H1.out _ (bal (brefl _) _)).mono ?_
    rintro e w1 ⟨rfl, hb1⟩
    have HB := hide (btrans (bal (brefl _) _) hb1)
    clear hb1
    go_wp2
    go_ret2
    exact ⟨rfl, HB.out⟩
  · rw [he] at H1
    clear he
    have hd : decide (t < f) = true := decide_eq_true h0
    go_enter Try.func45, Try.ntmps45
    go_wp2_with fail
    refine (H1.out _ (bal (brefl _) _)).mono ?_
    rintro e w1 ⟨rfl, hb1⟩
    obtain ⟨hc1, hf1⟩ := bcell hb1
    have HB := hide (btrans (bal (brefl w) _) hb1)
    clear hb1
    go_wp2
    go_ret2
    exact ⟨rfl, HB.out⟩
theorem chg_sub_ok (A : Option Addr) (L : IL) (c : Nat) (f t : Int) (w : World) (hr : Iv w A L) (hn : L.length ≤ 500) (h1 : chk L = 0) (h0 : f ≤ t) :
    Calls Try.prog 45 #[.slice A L.length c, .agg #[.int .i64 f, .int .i64 t], .func (Fn.func 43) #[] #[]] w (SetOk (fun n => mem L n && !(decide (f ≤ n) && decide (n < t))) w) := by
  have H1 := hide (fun W (hb : Below w.heap.size w W) => check_any A L c W (hr.below hb) (by omega))
  have H3 := hide (fun B d W (hb : Below w.heap.size w W) (hs : Iv W B (oneL f t)) => merge_sub A B L (oneL f t) c d W (hr.below hb) hs (chk_ok.1 h1) (oneL_asc h0) hn (oneL_len f t))
  rw [h1] at H1
  clear hr h1
  have hd : decide (t < f) = false := decide_eq_false (by omega)
  go_enter Try.func45, Try.ntmps45
  go_wp2_with fail
  refine (H1.out _ (bal (brefl _) _)).mono ?_
  rintro e w1 ⟨rfl, hb1⟩
  obtain ⟨hc1, hf1⟩ := bcell hb1
  have HB := hide (btrans (bal (brefl w) _) hb1)
  clear hb1
  go_wp2_with fail
  refine (list_any f t _).mono ?_
  rintro e w2 ⟨A2, c2, rfl, hr2, hb2⟩
  have HB2 := hide (btrans HB.out hb2)
  have HR2 := hide hr2
  clear hb2 hr2 HB hc1 hf1
  go_wp2_with fail
  refine (H3.out _ _ _ HB2.out HR2.out).mono ?_
  rintro e w3 ⟨A3, c3, R, rfl, ha, hmem, hl, hmine, hb3⟩
  simp only [oneL_mem] at hmem
  have HE := hide (And.intro ha (And.intro hmem (And.intro hl (And.intro (hmine.mono HB2.out.size) (btrans HB2.out hb3)))))
  clear ha hmem hl hmine hb3
  go_wp2
  go_ret2
  exact ⟨A3, c3, R, rfl, HE.out⟩
theorem remove_err (A : Option Addr) (L : IL) (c : Nat) (f t er : Int) (w : World) (hr : Iv w A L) (hn : L.length ≤ 500) (he : (chk L = er ∧ er ≠ 0) ∨ (chk L = 0 ∧ t < f ∧ er = 2)) :
    Calls Try.prog 25 #[.slice A L.length c, .agg #[.int .i64 f, .int .i64 t]] w (SetErr er w) := by
  have H := hide (fun W (hb : Below w.heap.size w W) => chg_sub_err A L c f t er W (hr.below hb) hn he)
  clear hr he
  go_enter Try.func25, Try.ntmps25
  go_wp2_with fail
  refine (H.out _ (by first | exact brefl _ | exact bal (brefl _) _)).mono ?_
  rintro e w1 ⟨rfl, hb1⟩
  have HB := hide (show Below w.heap.size w w1 by first | exact hb1 | exact btrans (bal (brefl w) _) hb1)
  clear hb1
  go_wp2
  go_ret2
  exact ⟨rfl, HB.out⟩
theorem remove_ok (A : Option Addr) (L : IL) (c : Nat) (f t : Int) (w : World) (hr : Iv w A L) (hn : L.length ≤ 500) (h1 : chk L = 0) (h0 : f ≤ t) :
    Calls Try.prog 25 #[.slice A L.length c, .agg #[.int .i64 f, .int .i64 t]] w (SetOk (fun n => mem L n && !(decide (f ≤ n) && decide (n < t))) w) := by
  have H := hide (fun W (hb : Below w.heap.size w W) => chg_sub_ok A L c f t W (hr.below hb) hn h1 h0)
  clear hr h1
  go_enter Try.func25, Try.ntmps25
  go_wp2_with fail
  refine (H.out _ (by first | exact brefl _ | exact bal (brefl _) _)).mono ?_
  rintro e w1 ⟨A3, c3, R, rfl, ha, hmem, hl, hmine, hb3⟩
  have HE := hide (show asc (edges R) ∧ (∀ n, mem R n = (mem L n && !(decide (f ≤ n) && decide (n < t)))) ∧ List.length R ≤ 2000 ∧ MineI w.heap.size w1 A3 R ∧ Below w.heap.size w w1 from ⟨ha, hmem, hl, by first | exact hmine | exact hmine.mono (by simp), by first | exact hb3 | exact btrans (bal (brefl w) _) hb3⟩)
  clear ha hmem hl hmine hb3
  go_wp2
  go_ret2
  exact ⟨A3, c3, R, rfl, HE.out⟩
end Go.Proofs.Ytdpdlbonlpdkjab.Iv
