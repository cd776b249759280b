import Derived.Test.YtdpdlbonlpdkjabRComb
namespace Go.Proofs.Ytdpdlbonlpdkjab.Iv
open Go Go.RowKit
set_option linter.unusedVariables false
theorem two_or_err (A B : Option Addr) (L M : IL) (c d : Nat) (er : Int) (w : World) (hr : Iv w A L) (hs : Iv w B M) (hn : L.length ≤ 20) (hm : M.length ≤ 20) (he : bothI L M = er) (h0 : er ≠ 0) :
    Calls Try.prog 44 #[.slice A L.length c, .slice B M.length d, .int .i64 0] w (SetErr er w) := by
  have H1 := hide (rcheck_any A L c w hr (by omega))
  have H2 := hide (fun W (hb : Below w.heap.size w W) => rcheck_any B M d W (hs.below hb) (by omega))
  have n1 : (er == 0) = false := by simpa using h0
  have n2 : (er != 0) = true := by rw [bne, n1]; rfl
  clear hr hs h0
  unfold bothI at he
  by_cases c1 : chk L = 0
  · rw [if_pos c1] at he
    rw [c1] at H1
    rw [he] at H2
    clear c1 he
    go_enter Try.func44, Try.ntmps44
    go_wp2_with fail
    refine H1.out.mono ?_
    rintro e w1 ⟨rfl, hb1⟩
    have HB := hide hb1
    clear hb1
    go_wp2_with fail
    refine (H2.out _ HB.out).mono ?_
    rintro e w2 ⟨rfl, hb2⟩
    have HB2 := hide (btrans HB.out hb2)
    clear hb2
    go_wp2
    go_ret2
    exact ⟨rfl, HB2.out⟩
  · rw [if_neg c1] at he
    rw [he] at H1
    clear c1 he H2
    go_enter Try.func44, Try.ntmps44
    go_wp2_with fail
    refine H1.out.mono ?_
    rintro e w1 ⟨rfl, hb1⟩
    have HB := hide hb1
    clear hb1
    go_wp2
    go_ret2
    exact ⟨rfl, HB.out⟩
theorem two_or_ok (A B : Option Addr) (L M : IL) (c d : Nat) (w : World) (hr : Iv w A L) (hs : Iv w B M) (hn : L.length ≤ 20) (hm : M.length ≤ 20) (h1 : chk L = 0) (h2 : chk M = 0) :
    Calls Try.prog 44 #[.slice A L.length c, .slice B M.length d, .int .i64 0] w (SetOk (fun n => mem L n || mem M n) w) := by
  have H1 := hide (rcheck_any A L c w hr (by omega))
  have H2 := hide (fun W (hb : Below w.heap.size w W) => rcheck_any B M d W (hs.below hb) (by omega))
  have H3 := hide (fun W (hb : Below w.heap.size w W) => rcomb_any 0 (fun x y => x || y) (.inl ⟨rfl, rfl⟩) A B L M c d W (hr.below hb) (hs.below hb) hn hm (chk_ok.1 h1) (chk_ok.1 h2))
  rw [h1] at H1
  rw [h2] at H2
  clear hr hs h1 h2
  go_enter Try.func44, Try.ntmps44
  go_wp2_with fail
  refine H1.out.mono ?_
  rintro e w1 ⟨rfl, hb1⟩
  have HB := hide hb1
  clear hb1
  go_wp2_with fail
  refine (H2.out _ HB.out).mono ?_
  rintro e w2 ⟨rfl, hb2⟩
  have HB2 := hide (btrans HB.out hb2)
  clear hb2 HB
  go_wp2_with fail
  refine (H3.out _ HB2.out).mono ?_
  rintro e w3 ⟨A3, c3, R, rfl, ha, hmem, hl, hmine, hb3⟩
  have HE := hide (And.intro ha (And.intro hmem (And.intro hl (And.intro (hmine.mono HB2.out.size) (btrans HB2.out hb3)))))
  clear ha hmem hl hmine hb3
  go_wp2
  go_ret2
  exact ⟨A3, c3, R, rfl, HE.out⟩
theorem runion_err (A B : Option Addr) (L M : IL) (c d : Nat) (er : Int) (w : World) (hr : Iv w A L) (hs : Iv w B M) (hn : L.length ≤ 20) (hm : M.length ≤ 20) (he : bothI L M = er) (h0 : er ≠ 0) :
    Calls Try.prog 20 #[.slice A L.length c, .slice B M.length d] w (SetErr er w) := by
  have H := hide (two_or_err A B L M c d er w hr hs hn hm he h0)
  clear hr hs he h0
  go_enter Try.func20, Try.ntmps20
  go_wp2_with fail
  refine H.out.mono ?_
  rintro e w1 ⟨rfl, hb1⟩
  go_wp2
  go_ret2
  exact ⟨rfl, hb1⟩
theorem runion_ok (A B : Option Addr) (L M : IL) (c d : Nat) (w : World) (hr : Iv w A L) (hs : Iv w B M) (hn : L.length ≤ 20) (hm : M.length ≤ 20) (h1 : chk L = 0) (h2 : chk M = 0) :
    Calls Try.prog 20 #[.slice A L.length c, .slice B M.length d] w (SetOk (fun n => mem L n || mem M n) w) := by
  have H := hide (two_or_ok A B L M c d w hr hs hn hm h1 h2)
  clear hr hs h1 h2
  go_enter Try.func20, Try.ntmps20
  go_wp2_with fail
  refine H.out.mono ?_
  rintro e w1 ⟨A3, c3, R, rfl, hE⟩
  have HE := hide hE
  clear hE
  go_wp2
  go_ret2
  exact ⟨A3, c3, R, rfl, HE.out⟩
theorem two_and_err (A B : Option Addr) (L M : IL) (c d : Nat) (er : Int) (w : World) (hr : Iv w A L) (hs : Iv w B M) (hn : L.length ≤ 20) (hm : M.length ≤ 20) (he : bothI L M = er) (h0 : er ≠ 0) :
    Calls Try.prog 44 #[.slice A L.length c, .slice B M.length d, .int .i64 1] w (SetErr er w) := by
  have H1 := hide (rcheck_any A L c w hr (by omega))
  have H2 := hide (fun W (hb : Below w.heap.size w W) => rcheck_any B M d W (hs.below hb) (by omega))
  have n1 : (er == 0) = false := by simpa using h0
  have n2 : (er != 0) = true := by rw [bne, n1]; rfl
  clear hr hs h0
  unfold bothI at he
  by_cases c1 : chk L = 0
  · rw [if_pos c1] at he
    rw [c1] at H1
    rw [he] at H2
    clear c1 he
    go_enter Try.func44, Try.ntmps44
    go_wp2_with fail
    refine H1.out.mono ?_
    rintro e w1 ⟨rfl, hb1⟩
    have HB := hide hb1
    clear hb1
    go_wp2_with fail
    refine (H2.out _ HB.out).mono ?_
    rintro e w2 ⟨rfl, hb2⟩
    have HB2 := hide (btrans HB.out hb2)
    clear hb2
    go_wp2
    go_ret2
    exact ⟨rfl, HB2.out⟩
  · rw [if_neg c1] at he
    rw [he] at H1
    clear c1 he H2
    go_enter Try.func44, Try.ntmps44
    go_wp2_with fail
    refine H1.out.mono ?_
    rintro e w1 ⟨rfl, hb1⟩
    have HB := hide hb1
    clear hb1
    go_wp2
    go_ret2
    exact ⟨rfl, HB.out⟩
theorem two_and_ok (A B : Option Addr) (L M : IL) (c d : Nat) (w : World) (hr : Iv w A L) (hs : Iv w B M) (hn : L.length ≤ 20) (hm : M.length ≤ 20) (h1 : chk L = 0) (h2 : chk M = 0) :
    Calls Try.prog 44 #[.slice A L.length c, .slice B M.length d, .int .i64 1] w (SetOk (fun n => mem L n && mem M n) w) := by
  have H1 := hide (rcheck_any A L c w hr (by omega))
  have H2 := hide (fun W (hb : Below w.heap.size w W) => rcheck_any B M d W (hs.below hb) (by omega))
  have H3 := hide (fun W (hb : Below w.heap.size w W) => rcomb_any 1 (fun x y => x && y) (.inr (.inl ⟨rfl, rfl⟩)) A B L M c d W (hr.below hb) (hs.below hb) hn hm (chk_ok.1 h1) (chk_ok.1 h2))
  rw [h1] at H1
  rw [h2] at H2
  clear hr hs h1 h2
  go_enter Try.func44, Try.ntmps44
  go_wp2_with fail
  refine H1.out.mono ?_
  rintro e w1 ⟨rfl, hb1⟩
  have HB := hide hb1
  clear hb1
  go_wp2_with fail
  refine (H2.out _ HB.out).mono ?_
  rintro e w2 ⟨rfl, hb2⟩
  have HB2 := hide (btrans HB.out hb2)
  clear hb2 HB
  go_wp2_with fail
  refine (H3.out _ HB2.out).mono ?_
  rintro e w3 ⟨A3, c3, R, rfl, ha, hmem, hl, hmine, hb3⟩
  have HE := hide (And.intro ha (And.intro hmem (And.intro hl (And.intro (hmine.mono HB2.out.size) (btrans HB2.out hb3)))))
  clear ha hmem hl hmine hb3
  go_wp2
  go_ret2
  exact ⟨A3, c3, R, rfl, HE.out⟩
theorem rinter_err (A B : Option Addr) (L M : IL) (c d : Nat) (er : Int) (w : World) (hr : Iv w A L) (hs : Iv w B M) (hn : L.length ≤ 20) (hm : M.length ≤ 20) (he : bothI L M = er) (h0 : er ≠ 0) :
    Calls Try.prog 21 #[.slice A L.length c, .slice B M.length d] w (SetErr er w) := by
  have H := hide (two_and_err A B L M c d er w hr hs hn hm he h0)
  clear hr hs he h0
  go_enter Try.func21, Try.ntmps21
  go_wp2_with fail
  refine H.out.mono ?_
  rintro e w1 ⟨rfl, hb1⟩
  go_wp2
  go_ret2
  exact ⟨rfl, hb1⟩
theorem rinter_ok (A B : Option Addr) (L M : IL) (c d : Nat) (w : World) (hr : Iv w A L) (hs : Iv w B M) (hn : L.length ≤ 20) (hm : M.length ≤ 20) (h1 : chk L = 0) (h2 : chk M = 0) :
    Calls Try.prog 21 #[.slice A L.length c, .slice B M.length d] w (SetOk (fun n => mem L n && mem M n) w) := by
  have H := hide (two_and_ok A B L M c d w hr hs hn hm h1 h2)
  clear hr hs h1 h2
  go_enter Try.func21, Try.ntmps21
  go_wp2_with fail
  refine H.out.mono ?_
  rintro e w1 ⟨A3, c3, R, rfl, hE⟩
  have HE := hide hE
  clear hE
  go_wp2
  go_ret2
  exact ⟨A3, c3, R, rfl, HE.out⟩
theorem two_sub_err (A B : Option Addr) (L M : IL) (c d : Nat) (er : Int) (w : World) (hr : Iv w A L) (hs : Iv w B M) (hn : L.length ≤ 20) (hm : M.length ≤ 20) (he : bothI L M = er) (h0 : er ≠ 0) :
    Calls Try.prog 44 #[.slice A L.length c, .slice B M.length d, .int .i64 2] w (SetErr er w) := by
  have H1 := hide (rcheck_any A L c w hr (by omega))
  have H2 := hide (fun W (hb : Below w.heap.size w W) => rcheck_any B M d W (hs.below hb) (by omega))
  have n1 : (er == 0) = false := by simpa using h0
  have n2 : (er != 0) = true := by rw [bne, n1]; rfl
  clear hr hs h0
  unfold bothI at he
  by_cases c1 : chk L = 0
  · rw [if_pos c1] at he
    rw [c1] at H1
    rw [he] at H2
    clear c1 he
    go_enter Try.func44, Try.ntmps44
    go_wp2_with fail
    refine H1.out.mono ?_
    rintro e w1 ⟨rfl, hb1⟩
    have HB := hide hb1
    clear hb1
    go_wp2_with fail
    refine (H2.out _ HB.out).mono ?_
    rintro e w2 ⟨rfl, hb2⟩
    have HB2 := hide (btrans HB.out hb2)
    clear hb2
    go_wp2
    go_ret2
    exact ⟨rfl, HB2.out⟩
  · rw [if_neg c1] at he
    rw [he] at H1
    clear c1 he H2
    go_enter Try.func44, Try.ntmps44
    go_wp2_with fail
    refine H1.out.mono ?_
    rintro e w1 ⟨rfl, hb1⟩
    have HB := hide hb1
    clear hb1
    go_wp2
    go_ret2
    exact ⟨rfl, HB.out⟩
theorem two_sub_ok (A B : Option Addr) (L M : IL) (c d : Nat) (w : World) (hr : Iv w A L) (hs : Iv w B M) (hn : L.length ≤ 20) (hm : M.length ≤ 20) (h1 : chk L = 0) (h2 : chk M = 0) :
    Calls Try.prog 44 #[.slice A L.length c, .slice B M.length d, .int .i64 2] w (SetOk (fun n => mem L n && !mem M n) w) := by
  have H1 := hide (rcheck_any A L c w hr (by omega))
  have H2 := hide (fun W (hb : Below w.heap.size w W) => rcheck_any B M d W (hs.below hb) (by omega))
  have H3 := hide (fun W (hb : Below w.heap.size w W) => rcomb_any 2 (fun x y => x && !y) (.inr (.inr ⟨rfl, rfl⟩)) A B L M c d W (hr.below hb) (hs.below hb) hn hm (chk_ok.1 h1) (chk_ok.1 h2))
  rw [h1] at H1
  rw [h2] at H2
  clear hr hs h1 h2
  go_enter Try.func44, Try.ntmps44
  go_wp2_with fail
  refine H1.out.mono ?_
  rintro e w1 ⟨rfl, hb1⟩
  have HB := hide hb1
  clear hb1
  go_wp2_with fail
  refine (H2.out _ HB.out).mono ?_
  rintro e w2 ⟨rfl, hb2⟩
  have HB2 := hide (btrans HB.out hb2)
  clear hb2 HB
  go_wp2_with fail
  refine (H3.out _ HB2.out).mono ?_
  rintro e w3 ⟨A3, c3, R, rfl, ha, hmem, hl, hmine, hb3⟩
  have HE := hide (And.intro ha (And.intro hmem (And.intro hl (And.intro (hmine.mono HB2.out.size) (btrans HB2.out hb3)))))
  clear ha hmem hl hmine hb3
  go_wp2
  go_ret2
  exact ⟨A3, c3, R, rfl, HE.out⟩
theorem rsubtract_err (A B : Option Addr) (L M : IL) (c d : Nat) (er : Int) (w : World) (hr : Iv w A L) (hs : Iv w B M) (hn : L.length ≤ 20) (hm : M.length ≤ 20) (he : bothI L M = er) (h0 : er ≠ 0) :
    Calls Try.prog 22 #[.slice A L.length c, .slice B M.length d] w (SetErr er w) := by
  have H := hide (two_sub_err A B L M c d er w hr hs hn hm he h0)
  clear hr hs he h0
  go_enter Try.func22, Try.ntmps22
  go_wp2_with fail
  refine H.out.mono ?_
  rintro e w1 ⟨rfl, hb1⟩
  go_wp2
  go_ret2
  exact ⟨rfl, hb1⟩
theorem rsubtract_ok (A B : Option Addr) (L M : IL) (c d : Nat) (w : World) (hr : Iv w A L) (hs : Iv w B M) (hn : L.length ≤ 20) (hm : M.length ≤ 20) (h1 : chk L = 0) (h2 : chk M = 0) :
    Calls Try.prog 22 #[.slice A L.length c, .slice B M.length d] w (SetOk (fun n => mem L n && !mem M n) w) := by
  have H := hide (two_sub_ok A B L M c d w hr hs hn hm h1 h2)
  clear hr hs h1 h2
  go_enter Try.func22, Try.ntmps22
  go_wp2_with fail
  refine H.out.mono ?_
  rintro e w1 ⟨A3, c3, R, rfl, hE⟩
  have HE := hide hE
  clear hE
  go_wp2
  go_ret2
  exact ⟨A3, c3, R, rfl, HE.out⟩
end Go.Proofs.Ytdpdlbonlpdkjab.Iv
