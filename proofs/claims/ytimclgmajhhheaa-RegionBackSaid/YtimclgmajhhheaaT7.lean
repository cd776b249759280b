import Derived.Test.YtimclgmajhhheaaT6
import Derived.Test.YtimclgmajhhheaaRow
import Derived.Maps.AppendAt
import Derived.Deep.DeepCutAuto
namespace Go.Proofs.Ytimclgmajhhheaa.Rg
open Go Go.RowKit Ac
set_option linter.unusedVariables false
set_option linter.unusedSimpArgs false
-- LISTS OF REGIONS
def rgC (r : R6) : List Value := [.int .i64 r.st, .int .i64 r.pg, .int .i64 r.pr, .int .i64 r.fl, .int .i64 r.fi, .int .i64 r.ix]
def rgs : List R6 → List Value
  | [] => []
  | r :: l => rgC r ++ rgs l
def rAt (L : List R6) (k : Nat) : R6 := L.getD k r0
theorem rgC_len (r : R6) : (rgC r).length = 6 := rfl
theorem rgs_length : ∀ L : List R6, (rgs L).length = L.length * 6
  | [] => rfl
  | r :: l => by simp only [rgs, List.length_append, rgC_len, List.length_cons, rgs_length l]; omega
theorem rgs_append : ∀ L M : List R6, rgs (L ++ M) = rgs L ++ rgs M
  | [], _ => rfl
  | r :: l, M => by simp only [rgs, List.cons_append, rgs_append l M, List.append_assoc]
theorem rgs_at : ∀ {L : List R6} {k : Nat}, k < L.length → ∀ j, j < 6 → (rgs L)[k * 6 + j]? = (rgC (rAt L k))[j]?
  | r :: l, 0, _, j, hj => by
    have e0 : rAt (r :: l) 0 = r := rfl
    rw [e0, Nat.zero_mul, Nat.zero_add]
    exact List.getElem?_append_left (by rw [rgC_len]; exact hj)
  | r :: l, k + 1, h, j, hj => by
    have ih := rgs_at (L := l) (k := k) (by simpa using h) j hj
    have e0 : rAt (r :: l) (k + 1) = rAt l k := rfl
    rw [e0, ← ih]
    show (rgC r ++ rgs l)[(k + 1) * 6 + j]? = _
    rw [List.getElem?_append_right (by rw [rgC_len]; omega), rgC_len]
    congr 1; omega
theorem rgC_one (r : R6) : ∀ u ∈ rgC r, u.oneCell' = true := by
  intro u h
  simp only [rgC, List.mem_cons, List.not_mem_nil, or_false] at h
  rcases h with rfl | rfl | rfl | rfl | rfl | rfl <;> rfl
/-- a slice that reads as regions -/
def Rs (w : World) (A : Option Addr) (L : List R6) : Prop := L ≠ [] → ∃ b off, A = some ⟨b, off, none⟩ ∧ b < w.heap.size ∧ ∀ k, k < L.length → ∀ j, j < 6 → w.cell? ⟨b, off + k * 6 + j, none⟩ = (rgC (rAt L k))[j]?
theorem Rs.below {w w' : World} {A : Option Addr} {L : List R6} (h : Rs w A L) (hb : Below w.heap.size w w') : Rs w' A L := fun hn => by
  obtain ⟨b, off, e, hlt, hc⟩ := h hn
  exact ⟨b, off, e, Nat.lt_of_lt_of_le hlt hb.size, fun k hk j hj => (hb.cell (p := ⟨b, _, none⟩) hlt).trans (hc k hk j hj)⟩
theorem Rs.cells {w w' : World} {A : Option Addr} {L : List R6} (h : Rs w A L) (hb : Below w.heap.size w w') {k : Nat} (hk : k < L.length) : ∃ b off, A = some ⟨b, off, none⟩ ∧ b < w.heap.size ∧
    w'.cell? ⟨b, off + k * 6, none⟩ = some (.int .i64 (rAt L k).st) ∧ w'.cell? ⟨b, off + k * 6 + 1, none⟩ = some (.int .i64 (rAt L k).pg) ∧ w'.cell? ⟨b, off + k * 6 + 2, none⟩ = some (.int .i64 (rAt L k).pr) ∧ w'.cell? ⟨b, off + k * 6 + 3, none⟩ = some (.int .i64 (rAt L k).fl) ∧ w'.cell? ⟨b, off + k * 6 + 4, none⟩ = some (.int .i64 (rAt L k).fi) ∧ w'.cell? ⟨b, off + k * 6 + 5, none⟩ = some (.int .i64 (rAt L k).ix) := by
  obtain ⟨b, off, e, hl, hc⟩ := h (by rintro rfl; simp at hk)
  have c := fun j hj => (hb.cell (p := ⟨b, off + k * 6 + j, none⟩) hl).trans (hc k hk j hj)
  exact ⟨b, off, e, hl, c 0 (by omega), c 1 (by omega), c 2 (by omega), c 3 (by omega), c 4 (by omega), c 5 (by omega)⟩
theorem Rs.nil (w : World) (A : Option Addr) : Rs w A [] := fun h => absurd rfl h
abbrev OwR (B : Nat) (w : World) (v : Value) (L : List R6) : Prop := w.ownsRow B 58 6 v L.length (rgs L)
theorem OwR.rs {B c : Nat} {w : World} {A : Option Addr} {L : List R6} (h : OwR B w (.slice A L.length c) L) : Rs w A L := fun hn => by
  obtain ⟨hl, h | ⟨g, cap, cur, e, hg, hh, h4, h5, h6, ht⟩⟩ := h
  · exact absurd (List.eq_nil_of_length_eq_zero h.2) hn
  · injection e with e1 _ e2
    refine ⟨g, 0, e1, blk_lt hh, fun k hk j hj => ?_⟩
    have hu := rgs_at hk j hj
    rw [← ht, List.getElem?_take_of_lt (by omega)] at hu
    rw [Nat.zero_add, cell_of_row w g _ cur 58 (0, 0) hh, ← hu]
    simp
theorem owr_nil (B : Nat) (w : World) : OwR B w (.slice none 0 0) [] := ⟨rfl, .inl ⟨rfl, rfl⟩⟩
theorem info58 : (Try.prog.info? 58).map (fun i => (i.zero, i.size, i.bytes)) = some (some (.agg #[.int .i64 0, .int .i64 0, .int .i64 0, .int .i64 0, .int .i64 0, .int .i64 0]), 6, 48) := by kernel_rfl
theorem cell6_new (w : World) (r : R6) : ∀ j u, (rgC r)[j]? = some u → (w.alloc (.cells #[.int .i64 r.st, .int .i64 r.pg, .int .i64 r.pr, .int .i64 r.fl, .int .i64 r.fi, .int .i64 r.ix] 58)).cell? ((⟨w.heap.size, 0, none⟩ : Addr).add j) = some u := by
  intro j u hu
  have hj : j < 6 := by
    rcases Nat.lt_or_ge j 6 with h | h
    · exact h
    · rw [List.getElem?_eq_none (by rw [rgC_len]; exact h)] at hu; cases hu
  have hadd : (⟨w.heap.size, 0, none⟩ : Addr).add j = ⟨w.heap.size, j, none⟩ := by unfold Addr.add; split <;> simp_all
  rw [hadd, Box.cell (Box.new w 58 #[.int .i64 r.st, .int .i64 r.pg, .int .i64 r.pr, .int .i64 r.fl, .int .i64 r.fi, .int .i64 r.ix]) j, ← hu]
  rcases (show j = 0 ∨ j = 1 ∨ j = 2 ∨ j = 3 ∨ j = 4 ∨ j = 5 by omega) with rfl | rfl | rfl | rfl | rfl | rfl <;> rfl
theorem rs_one {w : World} {g : Nat} {r : R6} (h : RB w g r) : Rs w (some ⟨g, 0, none⟩) [r] := fun _ => ⟨g, 0, rfl, h.lt, fun k hk j hj => by
  obtain rfl : k = 0 := by simpa using hk
  rw [Nat.zero_mul, Nat.zero_add]
  refine (Box.cell h j).trans ?_
  rcases (show j = 0 ∨ j = 1 ∨ j = 2 ∨ j = 3 ∨ j = 4 ∨ j = 5 by omega) with rfl | rfl | rfl | rfl | rfl | rfl <;> rfl⟩
theorem RB.belowB {w w' : World} {g B : Nat} {r : R6} (h : RB w g r) (hb : Below B w w') (hg : g < B) : RB w' g r := (hb.block g hg).trans h
/-- what Cut answers -/
def CuR (L : List R6) (er : Int) (w : World) (e : Ending) (w' : World) : Prop := ∃ A c, e = .returned (.tuple #[.slice A L.length c, .int .i64 er]) ∧ Rs w' A L ∧ Below w.heap.size w w'
theorem cu_bad {r : R6} {p n : Int} {e : Int} (h : cuE r p n = e) (h0 : e ≠ 0) : cuL r p n = [] := if_neg (by omega)
theorem cu_1 {r : R6} {p n : Int} (h : ckE r ≠ 0) : cuE r p n = ckE r := if_neg h
theorem cu_2 {r : R6} {p n : Int} (h : ckE r = 0) (h1 : n < 1) : cuE r p n = 1 := by unfold cuE; rw [if_pos h, if_pos h1]
theorem cu_3 {r : R6} {p n : Int} (h : ckE r = 0) (h1 : ¬ n < 1) (h2 : p < 0 ∨ 512 - n < p) : cuE r p n = 2 := by unfold cuE; rw [if_pos h, if_neg h1, if_pos h2]
theorem cu_0 {r : R6} {p n : Int} (h : ckE r = 0) (h1 : ¬ n < 1) (h2 : ¬ (p < 0 ∨ 512 - n < p)) : cuE r p n = 0 := by unfold cuE; rw [if_pos h, if_neg h1, if_neg h2]
theorem cu_out {r : R6} {p n : Int} (h : cuE r p n = 0) (h1 : r.st + r.pg ≤ p ∨ p + n ≤ r.st) : cuL r p n = [r] := by unfold cuL; rw [if_pos h, if_pos h1]
theorem cu_in {r : R6} {p n : Int} (h : cuE r p n = 0) (h1 : ¬ (r.st + r.pg ≤ p ∨ p + n ≤ r.st)) : cuL r p n = (if r.st < p then [lowR r p] else []) ++ (if p + n < r.st + r.pg then [uppR r (p + n)] else []) := by unfold cuL; rw [if_pos h, if_neg h1]
set_option maxRecDepth 100000 in
set_option maxHeartbeats 8000000 in
theorem cut_any (st pg pr fl fi ix : Int) (w : World) (hp : pg ≤ 9223372036854775807) (p n : Int) (hn : n ≤ 9223372036854775807) : Calls Try.prog 57 #[.agg #[.int .i64 st, .int .i64 pg, .int .i64 pr, .int .i64 fl, .int .i64 fi, .int .i64 ix], .int .i64 p, .int .i64 n] w (CuR (cuL ⟨st, pg, pr, fl, fi, ix⟩ p n) (cuE ⟨st, pg, pr, fl, fi, ix⟩ p n) w) := by
  unfold CuR
  have K := hide (bal (brefl w) (.cells #[.int .i64 st, .int .i64 pg, .int .i64 pr, .int .i64 fl, .int .i64 fi, .int .i64 ix] 58))
  have X := hide (RB.new w st pg pr fl fi ix)
  have CK := hide (fun w => check_any st pg pr fl fi ix w hp)
  have EN := hide (fun w => end_any st pg pr fl fi ix w hp)
  by_cases hc : ckE ⟨st, pg, pr, fl, fi, ix⟩ = 0
  rotate_left 1
  · have E := cu_1 (p := p) (n := n) hc
    rw [E, cu_bad E hc]
    clear E
    have hc2 := ne_bool hc
    generalize ckE ⟨st, pg, pr, fl, fi, ix⟩ = ca at *
    clear hc
    go_enter Try.func57, Try.ntmps57
    go_wp2_with fail
    refine (CK.out _).mono ?_
    rintro e w2 ⟨rfl, hb⟩
    replace K := hide (btrans K.out hb)
    replace X := hide (X.out.below hb)
    clear hb
    try clear x0 x1 x2 x3 x4 x5
    obtain ⟨x0, x1, x2, x3, x4, x5⟩ := X.out.cells
    go_wp2
    go_ret2
    exact ⟨none, 0, rfl, Rs.nil _ _, K.out⟩
  have C0 := hide hc
  rw [hc] at CK
  clear hc
  by_cases h1 : n < 1
  · have E := cu_2 (p := p) C0.out h1
    rw [E, cu_bad E (by omega)]
    clear E C0
    go_enter Try.func57, Try.ntmps57
    go_wp2_with fail
    refine (CK.out _).mono ?_
    rintro e w2 ⟨rfl, hb⟩
    replace K := hide (btrans K.out hb)
    replace X := hide (X.out.below hb)
    clear hb
    try clear x0 x1 x2 x3 x4 x5
    obtain ⟨x0, x1, x2, x3, x4, x5⟩ := X.out.cells
    go_wp2
    go_ret2
    exact ⟨none, 0, rfl, Rs.nil _ _, K.out⟩
  by_cases h2 : p < 0
  · have E := cu_3 C0.out h1 (.inl h2)
    rw [E, cu_bad E (by omega)]
    clear E C0
    go_enter Try.func57, Try.ntmps57
    go_wp2_with fail
    refine (CK.out _).mono ?_
    rintro e w2 ⟨rfl, hb⟩
    replace K := hide (btrans K.out hb)
    replace X := hide (X.out.below hb)
    clear hb
    try clear x0 x1 x2 x3 x4 x5
    obtain ⟨x0, x1, x2, x3, x4, x5⟩ := X.out.cells
    go_wp2
    go_ret2
    exact ⟨none, 0, rfl, Rs.nil _ _, K.out⟩
  by_cases h3 : 512 - n < p
  · have E := cu_3 C0.out h1 (.inr h3)
    rw [E, cu_bad E (by omega)]
    clear E C0
    go_enter Try.func57, Try.ntmps57
    go_wp2_with fail
    refine (CK.out _).mono ?_
    rintro e w2 ⟨rfl, hb⟩
    replace K := hide (btrans K.out hb)
    replace X := hide (X.out.below hb)
    clear hb
    try clear x0 x1 x2 x3 x4 x5
    obtain ⟨x0, x1, x2, x3, x4, x5⟩ := X.out.cells
    go_wp2
    go_ret2
    exact ⟨none, 0, rfl, Rs.nil _ _, K.out⟩
  have E := cu_0 (p := p) C0.out h1 (by omega)
  have hk := ok_iff.1 C0.out
  have o1 := hk.1.1
  have o2 := hk.2.1
  have o3 := hk.2.2.1
  dsimp only at o1 o2 o3
  have ea : enD ⟨st, pg, pr, fl, fi, ix⟩ = st + pg := if_pos hk
  rw [ea] at EN
  clear ea
  have s1 : p + n ≤ 512 := by omega
  have s2 : 0 ≤ p + n := by omega
  by_cases h4 : st + pg ≤ p
  · rw [cu_out E (.inl h4), E]
    clear E C0 hk
    go_enter Try.func57, Try.ntmps57
    go_wp2_with fail
    refine (CK.out _).mono ?_
    rintro e w2 ⟨rfl, hb⟩
    replace K := hide (btrans K.out hb)
    replace X := hide (X.out.below hb)
    clear hb
    try clear x0 x1 x2 x3 x4 x5
    obtain ⟨x0, x1, x2, x3, x4, x5⟩ := X.out.cells
    go_wp2_with fail
    refine (EN.out _).mono ?_
    rintro e w3 ⟨rfl, hb⟩
    replace K := hide (btrans K.out hb)
    replace X := hide (X.out.below hb)
    clear hb
    try clear x0 x1 x2 x3 x4 x5
    obtain ⟨x0, x1, x2, x3, x4, x5⟩ := X.out.cells
    go_wp2
    go_ret2
    exact ⟨some ⟨_, 0, none⟩, 1, rfl, rs_one (RB.new _ st pg pr fl fi ix), bal K.out _⟩
  by_cases h5 : p + n ≤ st
  · rw [cu_out E (.inr h5), E]
    clear E C0 hk
    go_enter Try.func57, Try.ntmps57
    go_wp2_with fail
    refine (CK.out _).mono ?_
    rintro e w2 ⟨rfl, hb⟩
    replace K := hide (btrans K.out hb)
    replace X := hide (X.out.below hb)
    clear hb
    try clear x0 x1 x2 x3 x4 x5
    obtain ⟨x0, x1, x2, x3, x4, x5⟩ := X.out.cells
    go_wp2_with fail
    refine (EN.out _).mono ?_
    rintro e w3 ⟨rfl, hb⟩
    replace K := hide (btrans K.out hb)
    replace X := hide (X.out.below hb)
    clear hb
    try clear x0 x1 x2 x3 x4 x5
    obtain ⟨x0, x1, x2, x3, x4, x5⟩ := X.out.cells
    go_wp2
    go_ret2
    exact ⟨some ⟨_, 0, none⟩, 1, rfl, rs_one (RB.new _ st pg pr fl fi ix), bal K.out _⟩
  rw [cu_in E (by dsimp only; omega), E]
  have HSZ := hide (show w.heap.size + 1 ≤ (w.alloc (.cells #[.int .i64 st, .int .i64 pg, .int .i64 pr, .int .i64 fl, .int .i64 fi, .int .i64 ix] 58)).heap.size by simp)
  have D1 := hide (fun w => div_any st pg pr fl fi ix w hp p hk)
  have D2 := hide (fun w => div_any st pg pr fl fi ix w hp (p + n) hk)
  unfold dvB at D1 D2
  obtain ⟨i0, hi0, hz0, hz1, hz2⟩ := info_parts info58
  have UP := fun (h : p + n < st + pg) w => upp_any st pg pr fl fi ix (p + n) w hk (by omega) (by omega)
  have LO := fun (h : st < p) w => low_any st pg pr fl fi ix p w o2 h (by omega) o3
  unfold lowR uppR
  obtain ⟨up, hup⟩ : ∃ q, q = pg - (p + n - st) := ⟨_, rfl⟩
  obtain ⟨nf, hnf⟩ : ∃ q, q = nog fl := ⟨_, rfl⟩
  obtain ⟨ui, hui⟩ : ∃ q, q = if fi = -1 then ix else ix + (p + n - st) := ⟨_, rfl⟩
  dsimp only
  rw [← hup, ← hnf, ← hui]
  rw [← hup, ← hnf, ← hui] at UP
  clear E C0 hup hnf hui
  by_cases ha : st < p
  · replace LO := hide (LO ha)
    rw [if_pos ha]
    rw [decide_eq_true (show _ ∧ _ from ⟨ha, by dsimp only; omega⟩)] at D1
    by_cases hb2 : p + n < st + pg
    · replace UP := hide (UP hb2)
      rw [if_pos hb2]
      rw [decide_eq_true (show _ ∧ _ from ⟨by dsimp only; omega, hb2⟩)] at D2
      clear hk
      go_enter Try.func57, Try.ntmps57
      go_wp2_with fail
      refine (CK.out _).mono ?_
      rintro e w2 ⟨rfl, hb⟩
      replace K := hide (btrans K.out hb)
      replace X := hide (X.out.below hb)
      replace HSZ := hide (Nat.le_trans HSZ.out hb.size)
      clear hb
      try clear x0 x1 x2 x3 x4 x5
      obtain ⟨x0, x1, x2, x3, x4, x5⟩ := X.out.cells
      go_wp2_with fail
      refine (EN.out _).mono ?_
      rintro e w3 ⟨rfl, hb⟩
      replace K := hide (btrans K.out hb)
      replace X := hide (X.out.below hb)
      replace HSZ := hide (Nat.le_trans HSZ.out hb.size)
      clear hb
      try clear x0 x1 x2 x3 x4 x5
      obtain ⟨x0, x1, x2, x3, x4, x5⟩ := X.out.cells
      go_wp2_with fail
      refine (D1.out _).mono ?_
      rintro e w4 ⟨rfl, hb⟩
      replace K := hide (btrans K.out hb)
      replace X := hide (X.out.below hb)
      replace HSZ := hide (Nat.le_trans HSZ.out hb.size)
      clear hb
      try clear x0 x1 x2 x3 x4 x5
      obtain ⟨x0, x1, x2, x3, x4, x5⟩ := X.out.cells
      go_wp2_with fail
      refine (LO.out _).mono ?_
      rintro e w5 ⟨rfl, hb⟩
      replace K := hide (btrans K.out hb)
      replace X := hide (X.out.below hb)
      replace HSZ := hide (Nat.le_trans HSZ.out hb.size)
      clear hb
      try clear x0 x1 x2 x3 x4 x5
      obtain ⟨x0, x1, x2, x3, x4, x5⟩ := X.out.cells
      have M := bal (brefl w5) (.cells #[.int .i64 st, .int .i64 (p - st), .int .i64 pr, .int .i64 fl, .int .i64 fi, .int .i64 ix] 58)
      have OA := hide (row_below (show OwR (w.heap.size + 1) w5 (.slice none 0 0) [] from owr_nil _ _) M)
      have NB := hide (cell6_new w5 ⟨st, (p - st), pr, fl, fi, ix⟩)
      unfold rgC at NB
      dsimp only at NB
      have SB := hide (show w.heap.size + 1 ≤ (w5.alloc (.cells #[.int .i64 st, .int .i64 (p - st), .int .i64 pr, .int .i64 fl, .int .i64 fi, .int .i64 ix] 58)).heap.size by rw [alloc_size']; have := HSZ.out; omega)
      have KA := hide (btrans K.out M)
      replace X := hide (X.out.below M)
      clear M
      go_upto_region 13 with (at_builtin; refine wpList_append_own_at _ rfl (.tmp 46) (.tmp 50) 70 rfl (w.heap.size + 1) 58 i0 _ 6 48 Try.underlying70 hi0 hz0 hz1 hz2 rfl (by omega) (.slice none 0 0) 0 ([]) rfl OA.out ⟨w5.heap.size, 0, none⟩ 1 1 [.int .i64 st, .int .i64 (p - st), .int .i64 pr, .int .i64 fl, .int .i64 fi, .int .i64 ix] rfl rfl NB.out (by intro u hu; simp only [List.mem_cons, List.not_mem_nil, or_false] at hu; rcases hu with rfl | rfl | rfl | rfl | rfl | rfl <;> rfl) (by simp only [maxLen]; omega) (by omega) SB.out ?_; intro v4 w6 hown4 hg4 _ hat4; obtain ⟨Aw6, cw6, ev4, _⟩ := row_form hown4; subst ev4)
      have Ow6 := hide (show OwR (w.heap.size + 1) w6 (.slice Aw6 1 cw6) ([⟨st, p - st, pr, fl, fi, ix⟩]) from hown4)
      have BG := below_grown (B := 0) OA.out hg4 SB.out
      replace X := hide (X.out.belowB BG (Nat.lt_succ_self _))
      replace K := hide (KA.out.trans (BG.mono (Nat.le_succ _)))
      have HSZ2 := Nat.le_trans SB.out BG.size
      replace HSZ := hide HSZ2
      clear BG hown4 hg4 hat4 OA NB SB KA HSZ2
      clear x0 x1 x2 x3 x4 x5
      obtain ⟨x0, x1, x2, x3, x4, x5⟩ := X.out.cells
      go_wp2_with fail
      refine (D2.out _).mono ?_
      rintro e w7 ⟨rfl, hb⟩
      have HB7 := hb
      replace K := hide (btrans K.out hb)
      replace X := hide (X.out.below hb)
      replace HSZ := hide (Nat.le_trans HSZ.out hb.size)
      clear hb
      try clear x0 x1 x2 x3 x4 x5
      obtain ⟨x0, x1, x2, x3, x4, x5⟩ := X.out.cells
      replace Ow6 := hide (row_below Ow6.out HB7)
      clear HB7
      go_wp2_with fail
      refine (UP.out _).mono ?_
      rintro e w8 ⟨rfl, hb⟩
      have HB8 := hb
      replace K := hide (btrans K.out hb)
      replace X := hide (X.out.below hb)
      replace HSZ := hide (Nat.le_trans HSZ.out hb.size)
      clear hb
      try clear x0 x1 x2 x3 x4 x5
      obtain ⟨x0, x1, x2, x3, x4, x5⟩ := X.out.cells
      replace Ow6 := hide (row_below Ow6.out HB8)
      clear HB8
      have M := bal (brefl w8) (.cells #[.int .i64 (p + n), .int .i64 up, .int .i64 pr, .int .i64 nf, .int .i64 fi, .int .i64 ui] 58)
      have OA := hide (row_below Ow6.out M)
      have NB := hide (cell6_new w8 ⟨(p + n), up, pr, nf, fi, ui⟩)
      unfold rgC at NB
      dsimp only at NB
      have SB := hide (show w.heap.size + 1 ≤ (w8.alloc (.cells #[.int .i64 (p + n), .int .i64 up, .int .i64 pr, .int .i64 nf, .int .i64 fi, .int .i64 ui] 58)).heap.size by rw [alloc_size']; have := HSZ.out; omega)
      have KA := hide (btrans K.out M)
      replace X := hide (X.out.below M)
      clear M
      go_upto_region 15 with (at_builtin; refine wpList_append_own_at _ rfl (.tmp 57) (.tmp 63) 70 rfl (w.heap.size + 1) 58 i0 _ 6 48 Try.underlying70 hi0 hz0 hz1 hz2 rfl (by omega) (.slice Aw6 1 cw6) 1 (rgs [⟨st, p - st, pr, fl, fi, ix⟩]) rfl OA.out ⟨w8.heap.size, 0, none⟩ 1 1 [.int .i64 (p + n), .int .i64 up, .int .i64 pr, .int .i64 nf, .int .i64 fi, .int .i64 ui] rfl rfl NB.out (by intro u hu; simp only [List.mem_cons, List.not_mem_nil, or_false] at hu; rcases hu with rfl | rfl | rfl | rfl | rfl | rfl <;> rfl) (by simp only [maxLen]; omega) (by omega) SB.out ?_; intro v4 w9 hown4 hg4 _ hat4; obtain ⟨Aw9, cw9, ev4, _⟩ := row_form hown4; subst ev4)
      have Ow9 := hide (show OwR (w.heap.size + 1) w9 (.slice Aw9 2 cw9) ([⟨st, p - st, pr, fl, fi, ix⟩, ⟨p + n, up, pr, nf, fi, ui⟩]) from hown4)
      have BG := below_grown (B := 0) OA.out hg4 SB.out
      replace X := hide (X.out.belowB BG (Nat.lt_succ_self _))
      replace K := hide (KA.out.trans (BG.mono (Nat.le_succ _)))
      have HSZ2 := Nat.le_trans SB.out BG.size
      replace HSZ := hide HSZ2
      clear BG hown4 hg4 hat4 OA NB SB KA HSZ2
      go_wp2
      go_ret2
      first | exact ⟨Aw9, cw9, rfl, OwR.rs Ow9.out, K.out⟩ | exact ⟨Aw9, ⟨cw9, rfl⟩, OwR.rs Ow9.out, K.out⟩
    · clear UP
      rw [if_neg hb2]
      rw [decide_eq_false (show ¬ (_ ∧ _) from fun h => hb2 h.2)] at D2
      clear hk
      go_enter Try.func57, Try.ntmps57
      go_wp2_with fail
      refine (CK.out _).mono ?_
      rintro e w2 ⟨rfl, hb⟩
      replace K := hide (btrans K.out hb)
      replace X := hide (X.out.below hb)
      replace HSZ := hide (Nat.le_trans HSZ.out hb.size)
      clear hb
      try clear x0 x1 x2 x3 x4 x5
      obtain ⟨x0, x1, x2, x3, x4, x5⟩ := X.out.cells
      go_wp2_with fail
      refine (EN.out _).mono ?_
      rintro e w3 ⟨rfl, hb⟩
      replace K := hide (btrans K.out hb)
      replace X := hide (X.out.below hb)
      replace HSZ := hide (Nat.le_trans HSZ.out hb.size)
      clear hb
      try clear x0 x1 x2 x3 x4 x5
      obtain ⟨x0, x1, x2, x3, x4, x5⟩ := X.out.cells
      go_wp2_with fail
      refine (D1.out _).mono ?_
      rintro e w4 ⟨rfl, hb⟩
      replace K := hide (btrans K.out hb)
      replace X := hide (X.out.below hb)
      replace HSZ := hide (Nat.le_trans HSZ.out hb.size)
      clear hb
      try clear x0 x1 x2 x3 x4 x5
      obtain ⟨x0, x1, x2, x3, x4, x5⟩ := X.out.cells
      go_wp2_with fail
      refine (LO.out _).mono ?_
      rintro e w5 ⟨rfl, hb⟩
      replace K := hide (btrans K.out hb)
      replace X := hide (X.out.below hb)
      replace HSZ := hide (Nat.le_trans HSZ.out hb.size)
      clear hb
      try clear x0 x1 x2 x3 x4 x5
      obtain ⟨x0, x1, x2, x3, x4, x5⟩ := X.out.cells
      have M := bal (brefl w5) (.cells #[.int .i64 st, .int .i64 (p - st), .int .i64 pr, .int .i64 fl, .int .i64 fi, .int .i64 ix] 58)
      have OA := hide (row_below (show OwR (w.heap.size + 1) w5 (.slice none 0 0) [] from owr_nil _ _) M)
      have NB := hide (cell6_new w5 ⟨st, (p - st), pr, fl, fi, ix⟩)
      unfold rgC at NB
      dsimp only at NB
      have SB := hide (show w.heap.size + 1 ≤ (w5.alloc (.cells #[.int .i64 st, .int .i64 (p - st), .int .i64 pr, .int .i64 fl, .int .i64 fi, .int .i64 ix] 58)).heap.size by rw [alloc_size']; have := HSZ.out; omega)
      have KA := hide (btrans K.out M)
      replace X := hide (X.out.below M)
      clear M
      go_upto_region 13 with (at_builtin; refine wpList_append_own_at _ rfl (.tmp 46) (.tmp 50) 70 rfl (w.heap.size + 1) 58 i0 _ 6 48 Try.underlying70 hi0 hz0 hz1 hz2 rfl (by omega) (.slice none 0 0) 0 ([]) rfl OA.out ⟨w5.heap.size, 0, none⟩ 1 1 [.int .i64 st, .int .i64 (p - st), .int .i64 pr, .int .i64 fl, .int .i64 fi, .int .i64 ix] rfl rfl NB.out (by intro u hu; simp only [List.mem_cons, List.not_mem_nil, or_false] at hu; rcases hu with rfl | rfl | rfl | rfl | rfl | rfl <;> rfl) (by simp only [maxLen]; omega) (by omega) SB.out ?_; intro v4 w6 hown4 hg4 _ hat4; obtain ⟨Aw6, cw6, ev4, _⟩ := row_form hown4; subst ev4)
      have Ow6 := hide (show OwR (w.heap.size + 1) w6 (.slice Aw6 1 cw6) ([⟨st, p - st, pr, fl, fi, ix⟩]) from hown4)
      have BG := below_grown (B := 0) OA.out hg4 SB.out
      replace X := hide (X.out.belowB BG (Nat.lt_succ_self _))
      replace K := hide (KA.out.trans (BG.mono (Nat.le_succ _)))
      have HSZ2 := Nat.le_trans SB.out BG.size
      replace HSZ := hide HSZ2
      clear BG hown4 hg4 hat4 OA NB SB KA HSZ2
      clear x0 x1 x2 x3 x4 x5
      obtain ⟨x0, x1, x2, x3, x4, x5⟩ := X.out.cells
      go_wp2_with fail
      refine (D2.out _).mono ?_
      rintro e w7 ⟨rfl, hb⟩
      have HB7 := hb
      replace K := hide (btrans K.out hb)
      replace X := hide (X.out.below hb)
      replace HSZ := hide (Nat.le_trans HSZ.out hb.size)
      clear hb
      try clear x0 x1 x2 x3 x4 x5
      obtain ⟨x0, x1, x2, x3, x4, x5⟩ := X.out.cells
      replace Ow6 := hide (row_below Ow6.out HB7)
      clear HB7
      go_wp2
      go_ret2
      exact ⟨Aw6, cw6, rfl, OwR.rs Ow6.out, K.out⟩
  · clear LO
    rw [if_neg ha]
    rw [decide_eq_false (show ¬ (_ ∧ _) from fun h => ha h.1)] at D1
    by_cases hb2 : p + n < st + pg
    · replace UP := hide (UP hb2)
      rw [if_pos hb2]
      rw [decide_eq_true (show _ ∧ _ from ⟨by dsimp only; omega, hb2⟩)] at D2
      clear hk
      go_enter Try.func57, Try.ntmps57
      go_wp2_with fail
      refine (CK.out _).mono ?_
      rintro e w2 ⟨rfl, hb⟩
      replace K := hide (btrans K.out hb)
      replace X := hide (X.out.below hb)
      replace HSZ := hide (Nat.le_trans HSZ.out hb.size)
      clear hb
      try clear x0 x1 x2 x3 x4 x5
      obtain ⟨x0, x1, x2, x3, x4, x5⟩ := X.out.cells
      go_wp2_with fail
      refine (EN.out _).mono ?_
      rintro e w3 ⟨rfl, hb⟩
      replace K := hide (btrans K.out hb)
      replace X := hide (X.out.below hb)
      replace HSZ := hide (Nat.le_trans HSZ.out hb.size)
      clear hb
      try clear x0 x1 x2 x3 x4 x5
      obtain ⟨x0, x1, x2, x3, x4, x5⟩ := X.out.cells
      go_wp2_with fail
      refine (D1.out _).mono ?_
      rintro e w4 ⟨rfl, hb⟩
      replace K := hide (btrans K.out hb)
      replace X := hide (X.out.below hb)
      replace HSZ := hide (Nat.le_trans HSZ.out hb.size)
      clear hb
      try clear x0 x1 x2 x3 x4 x5
      obtain ⟨x0, x1, x2, x3, x4, x5⟩ := X.out.cells
      go_wp2_with fail
      refine (D2.out _).mono ?_
      rintro e w7 ⟨rfl, hb⟩
      replace K := hide (btrans K.out hb)
      replace X := hide (X.out.below hb)
      replace HSZ := hide (Nat.le_trans HSZ.out hb.size)
      clear hb
      try clear x0 x1 x2 x3 x4 x5
      obtain ⟨x0, x1, x2, x3, x4, x5⟩ := X.out.cells
      go_wp2_with fail
      refine (UP.out _).mono ?_
      rintro e w8 ⟨rfl, hb⟩
      replace K := hide (btrans K.out hb)
      replace X := hide (X.out.below hb)
      replace HSZ := hide (Nat.le_trans HSZ.out hb.size)
      clear hb
      try clear x0 x1 x2 x3 x4 x5
      obtain ⟨x0, x1, x2, x3, x4, x5⟩ := X.out.cells
      have M := bal (brefl w8) (.cells #[.int .i64 (p + n), .int .i64 up, .int .i64 pr, .int .i64 nf, .int .i64 fi, .int .i64 ui] 58)
      have OA := hide (row_below (show OwR (w.heap.size + 1) w8 (.slice none 0 0) [] from owr_nil _ _) M)
      have NB := hide (cell6_new w8 ⟨(p + n), up, pr, nf, fi, ui⟩)
      unfold rgC at NB
      dsimp only at NB
      have SB := hide (show w.heap.size + 1 ≤ (w8.alloc (.cells #[.int .i64 (p + n), .int .i64 up, .int .i64 pr, .int .i64 nf, .int .i64 fi, .int .i64 ui] 58)).heap.size by rw [alloc_size']; have := HSZ.out; omega)
      have KA := hide (btrans K.out M)
      replace X := hide (X.out.below M)
      clear M
      go_upto_region 15 with (at_builtin; refine wpList_append_own_at _ rfl (.tmp 57) (.tmp 63) 70 rfl (w.heap.size + 1) 58 i0 _ 6 48 Try.underlying70 hi0 hz0 hz1 hz2 rfl (by omega) (.slice none 0 0) 0 ([]) rfl OA.out ⟨w8.heap.size, 0, none⟩ 1 1 [.int .i64 (p + n), .int .i64 up, .int .i64 pr, .int .i64 nf, .int .i64 fi, .int .i64 ui] rfl rfl NB.out (by intro u hu; simp only [List.mem_cons, List.not_mem_nil, or_false] at hu; rcases hu with rfl | rfl | rfl | rfl | rfl | rfl <;> rfl) (by simp only [maxLen]; omega) (by omega) SB.out ?_; intro v4 w9 hown4 hg4 _ hat4; obtain ⟨Aw9, cw9, ev4, _⟩ := row_form hown4; subst ev4)
      have Ow9 := hide (show OwR (w.heap.size + 1) w9 (.slice Aw9 1 cw9) ([⟨p + n, up, pr, nf, fi, ui⟩]) from hown4)
      have BG := below_grown (B := 0) OA.out hg4 SB.out
      replace X := hide (X.out.belowB BG (Nat.lt_succ_self _))
      replace K := hide (KA.out.trans (BG.mono (Nat.le_succ _)))
      have HSZ2 := Nat.le_trans SB.out BG.size
      replace HSZ := hide HSZ2
      clear BG hown4 hg4 hat4 OA NB SB KA HSZ2
      go_wp2
      go_ret2
      first | exact ⟨Aw9, cw9, rfl, OwR.rs Ow9.out, K.out⟩ | exact ⟨Aw9, ⟨cw9, rfl⟩, OwR.rs Ow9.out, K.out⟩
    · clear UP
      rw [if_neg hb2]
      rw [decide_eq_false (show ¬ (_ ∧ _) from fun h => hb2 h.2)] at D2
      clear hk
      go_enter Try.func57, Try.ntmps57
      go_wp2_with fail
      refine (CK.out _).mono ?_
      rintro e w2 ⟨rfl, hb⟩
      replace K := hide (btrans K.out hb)
      replace X := hide (X.out.below hb)
      replace HSZ := hide (Nat.le_trans HSZ.out hb.size)
      clear hb
      try clear x0 x1 x2 x3 x4 x5
      obtain ⟨x0, x1, x2, x3, x4, x5⟩ := X.out.cells
      go_wp2_with fail
      refine (EN.out _).mono ?_
      rintro e w3 ⟨rfl, hb⟩
      replace K := hide (btrans K.out hb)
      replace X := hide (X.out.below hb)
      replace HSZ := hide (Nat.le_trans HSZ.out hb.size)
      clear hb
      try clear x0 x1 x2 x3 x4 x5
      obtain ⟨x0, x1, x2, x3, x4, x5⟩ := X.out.cells
      go_wp2_with fail
      refine (D1.out _).mono ?_
      rintro e w4 ⟨rfl, hb⟩
      replace K := hide (btrans K.out hb)
      replace X := hide (X.out.below hb)
      replace HSZ := hide (Nat.le_trans HSZ.out hb.size)
      clear hb
      try clear x0 x1 x2 x3 x4 x5
      obtain ⟨x0, x1, x2, x3, x4, x5⟩ := X.out.cells
      go_wp2_with fail
      refine (D2.out _).mono ?_
      rintro e w7 ⟨rfl, hb⟩
      replace K := hide (btrans K.out hb)
      replace X := hide (X.out.below hb)
      replace HSZ := hide (Nat.le_trans HSZ.out hb.size)
      clear hb
      try clear x0 x1 x2 x3 x4 x5
      obtain ⟨x0, x1, x2, x3, x4, x5⟩ := X.out.cells
      go_wp2
      go_ret2
      exact ⟨none, 0, rfl, Rs.nil _ _, K.out⟩
end Go.Proofs.Ytimclgmajhhheaa.Rg
