import Derived.Test.YtdpdlbonlpdkjabLOperations
namespace Go.Proofs.Ytdpdlbonlpdkjab.Iv
open Go Go.RowKit
set_option linter.unusedVariables false
theorem one_or_err (A : Option Addr) (L : IL) (c : Nat) (f t er : Int) (w : World) (hr : Iv w A L) (hn : L.length ≤ 20) (he : (chk L = er ∧ er ≠ 0) ∨ (chk L = 0 ∧ t < f ∧ er = 2)) :
    Calls Try.prog 46 #[.slice A L.length c, .agg #[.int .i64 f, .int .i64 t], .int .i64 0] w (SetErr er w) := by
  have H1 := hide (fun W (hb : Below w.heap.size w W) => rcheck_any A L c W (hr.below hb) (by omega))
  clear hr
  rcases he with ⟨he, h0⟩ | ⟨he, h0, rfl⟩
  · have n1 : (er == 0) = false := by simpa using h0
    have n2 : (er != 0) = true := by rw [bne, n1]; rfl
    rw [he] at H1
    clear he h0
    go_enter Try.func46, Try.ntmps46
    go_wp2_with fail
    refine (H1.out _ (bal (brefl _) _)).mono ?_
    rintro e w1 ⟨rfl, hb1⟩
    have HB := hide (btrans (bal (brefl _) _) hb1)
    clear hb1
    go_wp2
    go_ret2
    exact ⟨rfl, HB.out⟩
  · rw [he] at H1
    clear he
    have hd : decide (t < f) = true := decide_eq_true h0
    go_enter Try.func46, Try.ntmps46
    go_wp2_with fail
    refine (H1.out _ (bal (brefl _) _)).mono ?_
    rintro e w1 ⟨rfl, hb1⟩
    obtain ⟨hc1, hf1⟩ := bcell hb1
    have HB := hide (btrans (bal (brefl w) _) hb1)
    clear hb1
    go_wp2
    go_ret2
    exact ⟨rfl, HB.out⟩
theorem one_or_ok (A : Option Addr) (L : IL) (c : Nat) (f t : Int) (w : World) (hr : Iv w A L) (hn : L.length ≤ 20) (h1 : chk L = 0) (h0 : f ≤ t) :
    Calls Try.prog 46 #[.slice A L.length c, .agg #[.int .i64 f, .int .i64 t], .int .i64 0] w (SetOk (fun n => mem L n || (decide (f ≤ n) && decide (n < t))) w) := by
  obtain ⟨i0, hi0, hz0, hz1, hz2⟩ := info_parts info30
  have H1 := hide (fun W (hb : Below w.heap.size w W) => rcheck_any A L c W (hr.below hb) (by omega))
  have H3 := hide (fun B d W (hb : Below w.heap.size w W) (hs : Iv W B (oneL f t)) => rcomb_any 0 (fun x y => x || y) (.inl ⟨rfl, rfl⟩) A B L (oneL f t) c d W (hr.below hb) hs hn (by unfold oneL; split <;> simp) (chk_ok.1 h1) (oneL_asc h0))
  rw [h1] at H1
  clear hr h1
  have hd : decide (t < f) = false := decide_eq_false (by omega)
  by_cases hft : f = t
  · subst hft
    have e1 : oneL f f = [] := by unfold oneL; rw [if_pos rfl]
    rw [e1] at H3
    have hd2 : decide (f < f) = false := decide_eq_false (by omega)
    go_enter Try.func46, Try.ntmps46
    go_wp2_with fail
    refine (H1.out _ (bal (brefl _) _)).mono ?_
    rintro e w1 ⟨rfl, hb1⟩
    obtain ⟨hc1, hf1⟩ := bcell hb1
    have HB := hide (btrans (bal (brefl w) _) hb1)
    clear hb1
    go_wp2_with fail
    refine (H3.out _ _ _ HB.out (fun h => absurd rfl h)).mono ?_
    rintro e w3 ⟨A3, c3, R, rfl, ha, hmem, hl, hmine, hb3⟩
    have hmem2 : ∀ n, mem R n = (mem L n || (decide (f ≤ n) && decide (n < f))) := fun n => by
      have h := hmem n
      have h2 := oneL_mem f f n
      rw [e1] at h2
      rw [h, h2]
    have HE := hide (And.intro ha (And.intro hmem2 (And.intro hl (And.intro (hmine.mono HB.out.size) (btrans HB.out hb3)))))
    clear ha hmem hmem2 hl hmine hb3 hc1 hf1
    go_wp2
    go_ret2
    exact ⟨A3, c3, R, rfl, HE.out⟩
  · have e1 : oneL f t = [(f, t)] := by unfold oneL; rw [if_neg hft]
    rw [e1] at H3
    have hd2 : decide (f < t) = true := decide_eq_true (by omega)
    go_enter Try.func46, Try.ntmps46
    go_wp2_with fail
    refine (H1.out _ (bal (brefl _) _)).mono ?_
    rintro e w1 ⟨rfl, hb1⟩
    obtain ⟨hc1, hf1⟩ := bcell hb1
    have HB := hide (btrans (bal (brefl w) _) hb1)
    clear hb1
    go_wp2_with (at_builtin; refine wpList_append_own _ rfl (.tmp 25) (.tmp 27) 22 rfl w1.heap.size 30 i0 _ 2 16 Try.underlying22 hi0 hz0 hz1 hz2 rfl (by omega) (.slice none 0 0) 0 [] rfl (World.ownsRow_nil _ _ _ _) ⟨w1.heap.size, 0, none⟩ 1 1 [ic f, ic t] rfl rfl (cell_two_new _ _ _ _) (by intro u hu; simp at hu; rcases hu with rfl | rfl <;> rfl) (by simp only [maxLen]; omega) (by omega) (by simp) ?_; intro v1 w2 hown1 hg1 _; obtain ⟨A2, n2, rfl⟩ := row_form hown1; have HB2 := hide (show Below w.heap.size w w2 from (bal HB.out _).trans (row_below (World.ownsRow_nil _ w1.heap.size _ _) hg1 HB.out.size (by have := HB.out.size; simp; omega))); have HR2 := hide (MineI.of_row (L := [(f, t)]) rfl hown1).iv; clear hown1 hg1)
    refine (H3.out A2 n2 _ HB2.out HR2.out).mono ?_
    rintro e w3 ⟨A3, c3, R, rfl, ha, hmem, hl, hmine, hb3⟩
    have hmem2 : ∀ n, mem R n = (mem L n || (decide (f ≤ n) && decide (n < t))) := fun n => by
      have h := hmem n
      have h2 := oneL_mem f t n
      rw [e1] at h2
      rw [h, h2]
    have HE := hide (And.intro ha (And.intro hmem2 (And.intro hl (And.intro (hmine.mono HB2.out.size) (btrans HB2.out hb3)))))
    clear ha hmem hmem2 hl hmine hb3 hc1 hf1
    go_wp2
    go_ret2
    exact ⟨A3, c3, R, rfl, HE.out⟩
theorem radd_err (A : Option Addr) (L : IL) (c : Nat) (f t er : Int) (w : World) (hr : Iv w A L) (hn : L.length ≤ 20) (he : (chk L = er ∧ er ≠ 0) ∨ (chk L = 0 ∧ t < f ∧ er = 2)) :
    Calls Try.prog 26 #[.slice A L.length c, .agg #[.int .i64 f, .int .i64 t]] w (SetErr er w) := by
  have H := hide (fun W (hb : Below w.heap.size w W) => one_or_err A L c f t er W (hr.below hb) hn he)
  clear hr he
  go_enter Try.func26, Try.ntmps26
  go_wp2_with fail
  refine (H.out _ (by first | exact brefl _ | exact bal (brefl _) _)).mono ?_
  rintro e w1 ⟨rfl, hb1⟩
  have HB := hide (show Below w.heap.size w w1 by first | exact hb1 | exact btrans (bal (brefl w) _) hb1)
  clear hb1
  go_wp2
  go_ret2
  exact ⟨rfl, HB.out⟩
theorem radd_ok (A : Option Addr) (L : IL) (c : Nat) (f t : Int) (w : World) (hr : Iv w A L) (hn : L.length ≤ 20) (h1 : chk L = 0) (h0 : f ≤ t) :
    Calls Try.prog 26 #[.slice A L.length c, .agg #[.int .i64 f, .int .i64 t]] w (SetOk (fun n => mem L n || (decide (f ≤ n) && decide (n < t))) w) := by
  have H := hide (fun W (hb : Below w.heap.size w W) => one_or_ok A L c f t W (hr.below hb) hn h1 h0)
  clear hr h1
  go_enter Try.func26, Try.ntmps26
  go_wp2_with fail
  refine (H.out _ (by first | exact brefl _ | exact bal (brefl _) _)).mono ?_
  rintro e w1 ⟨A3, c3, R, rfl, ha, hmem, hl, hmine, hb3⟩
  have HE := hide (show asc (edges R) ∧ (∀ n, mem R n = (mem L n || (decide (f ≤ n) && decide (n < t)))) ∧ List.length R ≤ 2000 ∧ MineI w.heap.size w1 A3 R ∧ Below w.heap.size w w1 from ⟨ha, hmem, hl, by first | exact hmine | exact hmine.mono (by simp), by first | exact hb3 | exact btrans (bal (brefl w) _) hb3⟩)
  clear ha hmem hl hmine hb3
  go_wp2
  go_ret2
  exact ⟨A3, c3, R, rfl, HE.out⟩
theorem one_sub_err (A : Option Addr) (L : IL) (c : Nat) (f t er : Int) (w : World) (hr : Iv w A L) (hn : L.length ≤ 20) (he : (chk L = er ∧ er ≠ 0) ∨ (chk L = 0 ∧ t < f ∧ er = 2)) :
    Calls Try.prog 46 #[.slice A L.length c, .agg #[.int .i64 f, .int .i64 t], .int .i64 2] w (SetErr er w) := by
  have H1 := hide (fun W (hb : Below w.heap.size w W) => rcheck_any A L c W (hr.below hb) (by omega))
  clear hr
  rcases he with ⟨he, h0⟩ | ⟨he, h0, rfl⟩
  · have n1 : (er == 0) = false := by simpa using h0
    have n2 : (er != 0) = true := by rw [bne, n1]; rfl
    rw [he] at H1
    clear he h0
    go_enter Try.func46, Try.ntmps46
    go_wp2_with fail
    refine (H1.out _ (bal (brefl _) _)).mono ?_
    rintro e w1 ⟨rfl, hb1⟩
    have HB := hide (btrans (bal (brefl _) _) hb1)
    clear hb1
    go_wp2
    go_ret2
    exact ⟨rfl, HB.out⟩
  · rw [he] at H1
    clear he
    have hd : decide (t < f) = true := decide_eq_true h0
    go_enter Try.func46, Try.ntmps46
    go_wp2_with fail
    refine (H1.out _ (bal (brefl _) _)).mono ?_
    rintro e w1 ⟨rfl, hb1⟩
    obtain ⟨hc1, hf1⟩ := bcell hb1
    have HB := hide (btrans (bal (brefl w) _) hb1)
    clear hb1
    go_wp2
    go_ret2
    exact ⟨rfl, HB.out⟩
theorem one_sub_ok (A : Option Addr) (L : IL) (c : Nat) (f t : Int) (w : World) (hr : Iv w A L) (hn : L.length ≤ 20) (h1 : chk L = 0) (h0 : f ≤ t) :
    Calls Try.prog 46 #[.slice A L.length c, .agg #[.int .i64 f, .int .i64 t], .int .i64 2] w (SetOk (fun n => mem L n && !(decide (f ≤ n) && decide (n < t))) w) := by
  obtain ⟨i0, hi0, hz0, hz1, hz2⟩ := info_parts info30
  have H1 := hide (fun W (hb : Below w.heap.size w W) => rcheck_any A L c W (hr.below hb) (by omega))
  have H3 := hide (fun B d W (hb : Below w.heap.size w W) (hs : Iv W B (oneL f t)) => rcomb_any 2 (fun x y => x && !y) (.inr (.inr ⟨rfl, rfl⟩)) A B L (oneL f t) c d W (hr.below hb) hs hn (by unfold oneL; split <;> simp) (chk_ok.1 h1) (oneL_asc h0))
  rw [h1] at H1
  clear hr h1
  have hd : decide (t < f) = false := decide_eq_false (by omega)
  by_cases hft : f = t
  · subst hft
    have e1 : oneL f f = [] := by unfold oneL; rw [if_pos rfl]
    rw [e1] at H3
    have hd2 : decide (f < f) = false := decide_eq_false (by omega)
    go_enter Try.func46, Try.ntmps46
    go_wp2_with fail
    refine (H1.out _ (bal (brefl _) _)).mono ?_
    rintro e w1 ⟨rfl, hb1⟩
    obtain ⟨hc1, hf1⟩ := bcell hb1
    have HB := hide (btrans (bal (brefl w) _) hb1)
    clear hb1
    go_wp2_with fail
    refine (H3.out _ _ _ HB.out (fun h => absurd rfl h)).mono ?_
    rintro e w3 ⟨A3, c3, R, rfl, ha, hmem, hl, hmine, hb3⟩
    have hmem2 : ∀ n, mem R n = (mem L n && !(decide (f ≤ n) && decide (n < f))) := fun n => by
      have h := hmem n
      have h2 := oneL_mem f f n
      rw [e1] at h2
      rw [h, h2]
    have HE := hide (And.intro ha (And.intro hmem2 (And.intro hl (And.intro (hmine.mono HB.out.size) (btrans HB.out hb3)))))
    clear ha hmem hmem2 hl hmine hb3 hc1 hf1
    go_wp2
    go_ret2
    exact ⟨A3, c3, R, rfl, HE.out⟩
  · have e1 : oneL f t = [(f, t)] := by unfold oneL; rw [if_neg hft]
    rw [e1] at H3
    have hd2 : decide (f < t) = true := decide_eq_true (by omega)
    go_enter Try.func46, Try.ntmps46
    go_wp2_with fail
    refine (H1.out _ (bal (brefl _) _)).mono ?_
    rintro e w1 ⟨rfl, hb1⟩
    obtain ⟨hc1, hf1⟩ := bcell hb1
    have HB := hide (btrans (bal (brefl w) _) hb1)
    clear hb1
    go_wp2_with (at_builtin; refine wpList_append_own _ rfl (.tmp 25) (.tmp 27) 22 rfl w1.heap.size 30 i0 _ 2 16 Try.underlying22 hi0 hz0 hz1 hz2 rfl (by omega) (.slice none 0 0) 0 [] rfl (World.ownsRow_nil _ _ _ _) ⟨w1.heap.size, 0, none⟩ 1 1 [ic f, ic t] rfl rfl (cell_two_new _ _ _ _) (by intro u hu; simp at hu; rcases hu with rfl | rfl <;> rfl) (by simp only [maxLen]; omega) (by omega) (by simp) ?_; intro v1 w2 hown1 hg1 _; obtain ⟨A2, n2, rfl⟩ := row_form hown1; have HB2 := hide (show Below w.heap.size w w2 from (bal HB.out _).trans (row_below (World.ownsRow_nil _ w1.heap.size _ _) hg1 HB.out.size (by have := HB.out.size; simp; omega))); have HR2 := hide (MineI.of_row (L := [(f, t)]) rfl hown1).iv; clear hown1 hg1)
    refine (H3.out A2 n2 _ HB2.out HR2.out).mono ?_
    rintro e w3 ⟨A3, c3, R, rfl, ha, hmem, hl, hmine, hb3⟩
    have hmem2 : ∀ n, mem R n = (mem L n && !(decide (f ≤ n) && decide (n < t))) := fun n => by
      have h := hmem n
      have h2 := oneL_mem f t n
      rw [e1] at h2
      rw [h, h2]
    have HE := hide (And.intro ha (And.intro hmem2 (And.intro hl (And.intro (hmine.mono HB2.out.size) (btrans HB2.out hb3)))))
    clear ha hmem hmem2 hl hmine hb3 hc1 hf1
    go_wp2
    go_ret2
    exact ⟨A3, c3, R, rfl, HE.out⟩
theorem rremove_err (A : Option Addr) (L : IL) (c : Nat) (f t er : Int) (w : World) (hr : Iv w A L) (hn : L.length ≤ 20) (he : (chk L = er ∧ er ≠ 0) ∨ (chk L = 0 ∧ t < f ∧ er = 2)) :
    Calls Try.prog 27 #[.slice A L.length c, .agg #[.int .i64 f, .int .i64 t]] w (SetErr er w) := by
  have H := hide (fun W (hb : Below w.heap.size w W) => one_sub_err A L c f t er W (hr.below hb) hn he)
  clear hr he
  go_enter Try.func27, Try.ntmps27
  go_wp2_with fail
  refine (H.out _ (by first | exact brefl _ | exact bal (brefl _) _)).mono ?_
  rintro e w1 ⟨rfl, hb1⟩
  have HB := hide (show Below w.heap.size w w1 by first | exact hb1 | exact btrans (bal (brefl w) _) hb1)
  clear hb1
  go_wp2
  go_ret2
  exact ⟨rfl, HB.out⟩
theorem rremove_ok (A : Option Addr) (L : IL) (c : Nat) (f t : Int) (w : World) (hr : Iv w A L) (hn : L.length ≤ 20) (h1 : chk L = 0) (h0 : f ≤ t) :
    Calls Try.prog 27 #[.slice A L.length c, .agg #[.int .i64 f, .int .i64 t]] w (SetOk (fun n => mem L n && !(decide (f ≤ n) && decide (n < t))) w) := by
  have H := hide (fun W (hb : Below w.heap.size w W) => one_sub_ok A L c f t W (hr.below hb) hn h1 h0)
  clear hr h1
  go_enter Try.func27, Try.ntmps27
  go_wp2_with fail
  refine (H.out _ (by first | exact brefl _ | exact bal (brefl _) _)).mono ?_
  rintro e w1 ⟨A3, c3, R, rfl, ha, hmem, hl, hmine, hb3⟩
  have HE := hide (show asc (edges R) ∧ (∀ n, mem R n = (mem L n && !(decide (f ≤ n) && decide (n < t)))) ∧ List.length R ≤ 2000 ∧ MineI w.heap.size w1 A3 R ∧ Below w.heap.size w w1 from ⟨ha, hmem, hl, by first | exact hmine | exact hmine.mono (by simp), by first | exact hb3 | exact btrans (bal (brefl w) _) hb3⟩)
  clear ha hmem hl hmine hb3
  go_wp2
  go_ret2
  exact ⟨A3, c3, R, rfl, HE.out⟩
def oneE (L : IL) (f t : Int) : Int := if chk L = 0 then (if t < f then 2 else 0) else chk L
theorem oneE_ok {L : IL} {f t : Int} (h : oneE L f t = 0) : chk L = 0 ∧ f ≤ t := by
  unfold oneE at h
  split at h
  · split at h
    · cases h
    · exact ⟨by assumption, by omega⟩
  · exact absurd h (by assumption)
theorem oneE_no {L : IL} {f t : Int} (h : ¬ oneE L f t = 0) : (chk L = oneE L f t ∧ oneE L f t ≠ 0) ∨ (chk L = 0 ∧ t < f ∧ oneE L f t = 2) := by
  by_cases h1 : chk L = 0
  · by_cases h2 : t < f
    · exact .inr ⟨h1, h2, by unfold oneE; rw [if_pos h1, if_pos h2]⟩
    · exfalso; apply h; unfold oneE; rw [if_pos h1, if_neg h2]
  · exact .inl ⟨by unfold oneE; rw [if_neg h1], h⟩
theorem add_both (A : Option Addr) (L : IL) (c : Nat) (f t er : Int) (hn : L.length ≤ 12) (he : er = oneE L f t) : ∃ R : IL, R.length ≤ 2000 ∧
    (∀ W, Iv W A L → Calls Try.prog 24 #[.slice A L.length c, .agg #[.int .i64 f, .int .i64 t]] W (SetRes er R W)) ∧
    (∀ W, Iv W A L → Calls Try.prog 26 #[.slice A L.length c, .agg #[.int .i64 f, .int .i64 t]] W (SetRes er R W)) := by
  by_cases h : oneE L f t = 0
  · obtain ⟨h1, h2⟩ := oneE_ok h
    obtain ⟨R, ha, hmm0⟩ := exists_op (fun x y => x || y) rfl L (oneL f t) (chk_ok.1 h1) (oneL_asc h2)
    have hmm : ∀ n, mem R n = (mem L n || (decide (f ≤ n) && decide (n < t))) := fun n => by rw [hmm0, oneL_mem]
    rw [he, h]
    refine ⟨R, by have := len_le (fun x y => x || y) ha (chk_ok.1 h1) (oneL_asc h2) hmm0; have := oneL_len f t; omega, fun W k1 => ?_, fun W k1 => ?_⟩
    · exact (add_ok A L c f t W k1 (by omega) h1 h2).mono fun e w' k => res_ok ha hmm k
    · exact (radd_ok A L c f t W k1 (by omega) h1 h2).mono fun e w' k => res_ok ha hmm k
  · have h3 := oneE_no h
    rw [he]
    refine ⟨[], by simp, fun W k1 => ?_, fun W k1 => ?_⟩
    · exact (add_err A L c f t _ W k1 (by omega) h3).mono fun e w' k => res_err k
    · exact (radd_err A L c f t _ W k1 (by omega) h3).mono fun e w' k => res_err k
theorem remove_both (A : Option Addr) (L : IL) (c : Nat) (f t er : Int) (hn : L.length ≤ 12) (he : er = oneE L f t) : ∃ R : IL, R.length ≤ 2000 ∧
    (∀ W, Iv W A L → Calls Try.prog 25 #[.slice A L.length c, .agg #[.int .i64 f, .int .i64 t]] W (SetRes er R W)) ∧
    (∀ W, Iv W A L → Calls Try.prog 27 #[.slice A L.length c, .agg #[.int .i64 f, .int .i64 t]] W (SetRes er R W)) := by
  by_cases h : oneE L f t = 0
  · obtain ⟨h1, h2⟩ := oneE_ok h
    obtain ⟨R, ha, hmm0⟩ := exists_op (fun x y => x && !y) rfl L (oneL f t) (chk_ok.1 h1) (oneL_asc h2)
    have hmm : ∀ n, mem R n = (mem L n && !(decide (f ≤ n) && decide (n < t))) := fun n => by rw [hmm0, oneL_mem]
    rw [he, h]
    refine ⟨R, by have := len_le (fun x y => x && !y) ha (chk_ok.1 h1) (oneL_asc h2) hmm0; have := oneL_len f t; omega, fun W k1 => ?_, fun W k1 => ?_⟩
    · exact (remove_ok A L c f t W k1 (by omega) h1 h2).mono fun e w' k => res_ok ha hmm k
    · exact (rremove_ok A L c f t W k1 (by omega) h1 h2).mono fun e w' k => res_ok ha hmm k
  · have h3 := oneE_no h
    rw [he]
    refine ⟨[], by simp, fun W k1 => ?_, fun W k1 => ?_⟩
    · exact (remove_err A L c f t _ W k1 (by omega) h3).mono fun e w' k => res_err k
    · exact (rremove_err A L c f t _ W k1 (by omega) h3).mono fun e w' k => res_err k
/-- A box of an interval of the call's own. -/
def Box2 (w : World) (g : Nat) (x y : Int) : Prop := w.heap[g]? = some (.cells #[.int .i64 x, .int .i64 y] 30 (0, 0))
theorem Box2.c0 {w : World} {g : Nat} {x y : Int} (h : Box2 w g x y) : w.cell? ⟨g, 0, none⟩ = some (.int .i64 x) := by unfold Box2 at h; simp [World.cell?, h]
theorem Box2.c1 {w : World} {g : Nat} {x y : Int} (h : Box2 w g x y) : w.cell? ⟨g, 1, none⟩ = some (.int .i64 y) := by unfold Box2 at h; simp [World.cell?, h]
theorem Box2.lt {w : World} {g : Nat} {x y : Int} (h : Box2 w g x y) : g < w.heap.size := by
  rcases Nat.lt_or_ge g w.heap.size with h1 | h1
  · exact h1
  · unfold Box2 at h; rw [Array.getElem?_eq_none h1] at h; cases h
theorem Box2.below {w w' : World} {g : Nat} {x y : Int} (h : Box2 w g x y) (hb : Below w.heap.size w w') : Box2 w' g x y := (hb.block g h.lt).trans h
theorem Box2.new (w : World) (x y : Int) : Box2 (w.alloc (.cells #[.int .i64 x, .int .i64 y] 30)) w.heap.size x y := by
  unfold Box2
  show (w.heap.push _)[w.heap.size]? = _
  simp
set_option maxHeartbeats 4000000 in
theorem law_edits (A : Option Addr) (L : IL) (c : Nat) (f t : Int) (w : World) (hr : Iv w A L) (_ : ∀ x ∈ L, (-9223372036854775808 ≤ x.1 ∧ x.1 ≤ 9223372036854775807) ∧ (-9223372036854775808 ≤ x.2 ∧ x.2 ≤ 9223372036854775807)) (hl : L.length ≤ 9223372036854775807) :
    Calls Try.prog 5 #[.slice A L.length c, .agg #[.int .i64 f, .int .i64 t]] w fun e w' => e = .returned (.bool true) ∧ Below w.heap.size w w' := by
  have hb0 := bal (brefl w) (.cells #[.int .i64 f, .int .i64 t] 30)
  have X := hide (Box2.new w f t)
  have QA := hide (hr.below hb0)
  have K := hide hb0
  clear hr hb0
  by_cases h : L.length ≤ 12
  · obtain ⟨er, her⟩ : ∃ x, x = oneE L f t := ⟨_, rfl⟩
    obtain ⟨R1, n1, F1, G1⟩ := add_both A L c f t er h her
    obtain ⟨R2, n2, F2, G2⟩ := remove_both A L c f t er h her
    have HF := hide (fun W => few_lit A L.length c true W (by omega) (decide_eq_true h))
    have r1 : (er == er) = true := by simp
    have X1 := hide F1
    have X2 := hide F2
    have Y1 := hide G1
    have Y2 := hide G2
    clear F1 F2 G1 G2 h her
    go_enter Try.func5, Try.ntmps5
    go_wp2_with fail
    refine (HF.out _).mono ?_
    rintro e w' ⟨rfl, rfl⟩
    go_wp2_with fail
    refine (X1.out _ QA.out).mono ?_
    rintro e w1 ⟨Au, cu, rfl, hiu, hb1⟩
    replace K := hide (btrans K.out hb1)
    replace X := hide (X.out.below hb1)
    replace QA := hide (QA.out.below hb1)
    have Qu := hide hiu
    clear hb1 hiu
    have x0 := X.out.c0
    have x1 := X.out.c1
    go_wp2_with fail
    refine (X2.out _ QA.out).mono ?_
    rintro e w2 ⟨Ai, ci, rfl, hii, hb2⟩
    replace K := hide (btrans K.out hb2)
    replace X := hide (X.out.below hb2)
    replace QA := hide (QA.out.below hb2)
    replace Qu := hide (Qu.out.below hb2)
    have Qi := hide hii
    clear hb2 hii x0 x1
    have x0 := X.out.c0
    have x1 := X.out.c1
    go_wp2_with fail
    refine (Y1.out _ QA.out).mono ?_
    rintro e w3 ⟨Av, cv, rfl, hiv, hb3⟩
    replace K := hide (btrans K.out hb3)
    replace X := hide (X.out.below hb3)
    replace QA := hide (QA.out.below hb3)
    replace Qu := hide (Qu.out.below hb3)
    replace Qi := hide (Qi.out.below hb3)
    have Qv := hide hiv
    clear hb3 hiv x0 x1
    have x0 := X.out.c0
    have x1 := X.out.c1
    go_wp2_with fail
    refine (Y2.out _ QA.out).mono ?_
    rintro e w4 ⟨Aj, cj, rfl, hij, hb4⟩
    replace K := hide (btrans K.out hb4)
    replace X := hide (X.out.below hb4)
    replace QA := hide (QA.out.below hb4)
    replace Qu := hide (Qu.out.below hb4)
    replace Qi := hide (Qi.out.below hb4)
    replace Qv := hide (Qv.out.below hb4)
    have Qj := hide hij
    clear hb4 hij x0 x1
    have x0 := X.out.c0
    have x1 := X.out.c1
    clear x0 x1
    go_wp2_with fail
    refine (same_is _ _ _ _ _ _ Qu.out Qv.out n1).mono ?_
    rintro e w5 ⟨rfl, hb5⟩
    replace K := hide (btrans K.out hb5)
    replace QA := hide (QA.out.below hb5)
    replace Qu := hide (Qu.out.below hb5)
    replace Qi := hide (Qi.out.below hb5)
    replace Qv := hide (Qv.out.below hb5)
    replace Qj := hide (Qj.out.below hb5)
    clear hb5
    go_wp2_with fail
    refine (same_is _ _ _ _ _ _ Qi.out Qj.out n2).mono ?_
    rintro e w6 ⟨rfl, hb6⟩
    replace K := hide (btrans K.out hb6)
    replace QA := hide (QA.out.below hb6)
    replace Qu := hide (Qu.out.below hb6)
    replace Qi := hide (Qi.out.below hb6)
    replace Qv := hide (Qv.out.below hb6)
    replace Qj := hide (Qj.out.below hb6)
    clear hb6
    go_wp2_with fail
    refine (awake _).mono ?_
    rintro e w7 ⟨rfl, hb7⟩
    replace K := hide (btrans K.out hb7)
    replace QA := hide (QA.out.below hb7)
    replace Qu := hide (Qu.out.below hb7)
    replace Qi := hide (Qi.out.below hb7)
    replace Qv := hide (Qv.out.below hb7)
    replace Qj := hide (Qj.out.below hb7)
    clear hb7
    go_wp2_with fail
    go_ret
    exact ⟨rfl, K.out⟩
  · have HF := hide (fun W => few_lit A L.length c false W (by omega) (decide_eq_false h))
    clear h
    go_enter Try.func5, Try.ntmps5
    go_wp2_with fail
    refine (HF.out _).mono ?_
    rintro e w' ⟨rfl, rfl⟩
    go_wp2_with fail
    refine (awake _).mono ?_
    rintro e w3 ⟨rfl, hb3⟩
    replace K := hide (btrans K.out hb3)
    clear hb3
    go_wp2_with fail
    go_ret
    exact ⟨rfl, K.out⟩
end Go.Proofs.Ytdpdlbonlpdkjab.Iv
