import Derived.Test.YtncdilkcblakhaaL1
namespace Go.Proofs.Ytncdilkcblakhaa.In
open Go Go.RowKit
set_option linter.unusedVariables false
set_option linter.unusedSimpArgs false
theorem empty_ownB (w : World) (B : Nat) (hB : B ≤ w.heap.size) : (w.alloc (.cells #[] 5)).ownsRow B 5 1 (.slice (some ⟨w.heap.size, 0, none⟩) 0 0) 0 (([] : By).map bc) :=
  ⟨rfl, .inr ⟨w.heap.size, 0, #[], rfl, hB, heap_alloc_new w _, Nat.le_refl _, by unfold maxLen; omega, rfl, rfl⟩⟩
theorem xor_u8 {x z : Int} (hx : 0 ≤ x ∧ x < 256) (hz : 1 ≤ z ∧ z < 256) : bits .xor .u8 x z ≠ x ∧ 0 ≤ bits .xor .u8 x z ∧ bits .xor .u8 x z < 256 := by
  obtain ⟨X, rfl⟩ := Int.eq_ofNat_of_zero_le hx.1
  obtain ⟨Z, rfl⟩ := Int.eq_ofNat_of_zero_le (show 0 ≤ z by omega)
  rw [u8_xor_nat X Z (by omega) (by omega)]
  have h1 : X ^^^ Z < 2 ^ 8 := Nat.xor_lt_two_pow (by omega) (by omega)
  have h2 : X ^^^ Z ≠ X := fun e => by
    have h3 : X ^^^ (X ^^^ Z) = X ^^^ X := by rw [e]
    rw [← Nat.xor_assoc, Nat.xor_self, Nat.zero_xor] at h3
    omega
  omega
/-- a byte stored into a row of one's own -/
theorem OwB.put {B : Nat} {w : World} {A : Option Addr} {c n : Nat} {l : By} (h : OwB B w (.slice A n c) l) {p : Nat} (hp : p < l.length) : ∃ g, A = some ⟨g, 0, none⟩ ∧ g < w.heap.size ∧ B ≤ g ∧ w.cell? ⟨g, p, none⟩ = some (.int .u8 (l.getD p 0)) ∧ w.frozen? ⟨g, p, none⟩ = false ∧ ∀ v, BsB (w.setCell ⟨g, p, none⟩ (.int .u8 v)) (some ⟨g, 0, none⟩) (l.set p v) := by
  have h0 : l.length ≠ 0 := by omega
  obtain ⟨A', c', e, _⟩ := row_form h
  injection e with e1 e2 e3
  subst e1 e2 e3
  obtain ⟨hl, h | ⟨g, cap, cur, e, hg, hh, h4, h5, h6, ht⟩⟩ := h
  · exact absurd h.2 h0
  · injection e with e1 _ e2
    have at' : ∀ k, k < l.length → cur[k]? = some (bc (l.getD k 0)) := fun k hk => by
      have e4 : (l.map bc)[k]? = some (bc (l.getD k 0)) := by rw [List.getElem?_map, List.getElem?_eq_getElem hk, List.getD_eq_getElem?_getD, List.getElem?_eq_getElem hk]; rfl
      rw [← ht, List.getElem?_take_of_lt (by omega)] at e4
      simpa using e4
    have X : Box w g 5 cur := hh
    refine ⟨g, e1, X.lt, hg, by rw [X.cell]; exact at' p hp, X.frozen p, fun v hn => ⟨g, 0, rfl, (X.put p (.int .u8 v)).lt, fun k hk => ?_⟩⟩
    rw [List.length_set] at hk
    rw [Nat.zero_add, (X.put p (.int .u8 v)).cell, Array.getElem?_setIfInBounds]
    have hc : k < cur.size := by
      have := at' k hk
      rcases Nat.lt_or_ge k cur.size with h | h
      · exact h
      · rw [Array.getElem?_eq_none h] at this; cases this
    by_cases e : p = k
    · subst e
      rw [if_pos rfl, if_pos hc]
      simp [List.getD, hp]
    · rw [if_neg e, at' k hk]
      simp [bc, List.getD, List.getElem?_set, e]
theorem set_ne {l : By} {p : Nat} {v : Int} (hp : p < l.length) (h : v ≠ l.getD p 0) : l.set p v ≠ l := fun e => h (by
  have := congrArg (fun x : By => x.getD p 0) e
  simp [List.getD, hp] at this
  rw [List.getD_eq_getElem?_getD, List.getElem?_eq_getElem hp]
  exact this)
theorem set_byt {l : By} {p : Nat} {v : Int} (hl : Byt l) (hv : 0 ≤ v ∧ v < 256) : Byt (l.set p v) := fun x hx => by
  rcases List.mem_or_eq_of_mem_set hx with h | h
  · exact hl x h
  · rw [h]; exact hv
theorem bc_one (l : By) : ∀ u ∈ l.map bc, u.oneCell' = true := fun u hu => by
  obtain ⟨x, _, rfl⟩ := List.mem_map.1 hu
  rfl
set_option maxRecDepth 100000 in
set_option maxHeartbeats 8000000 in
theorem law_notices (x y c0 c1 : Int) (w : World) (hx : 0 ≤ x ∧ x < 256) (hy : 0 ≤ y ∧ y < 65536) (hc0 : 0 ≤ c0 ∧ c0 < 256) (hc1 : 0 ≤ c1 ∧ c1 < 256) : Calls Try.prog 8 #[.int .u8 x, .int .u16 y, .agg #[.int .u8 c0, .int .u8 c1]] w (LawR w) := by
  obtain ⟨i0, hi0, hz0, hz1, hz2⟩ := info_parts info5
  have AW := hide (fun w => awake_any w)
  obtain ⟨h1, h2, h3, h4, h5⟩ := reduced hx hy
  have t1 : x.tmod 17 = x % 17 := Int.tmod_eq_emod_of_nonneg hx.1
  obtain ⟨s, hs⟩ : ∃ s, s = x % 17 := ⟨_, rfl⟩
  rw [← hs] at h1 h2 h3 h4 h5 t1
  have v1 : IntKind.u8.wrap s = s := by rw [IntKind.wrap_u8']; omega
  have v2 : IntKind.i64.wrap s = s := by rw [IntKind.wrap_i64]; omega
  have v3 : IntKind.i64.wrap y = y := by rw [IntKind.wrap_i64]; omega
  have v4 : IntKind.u64.wrap s = s := by rw [IntKind.wrap_u64]; omega
  have v5 : s ≤ 64 := by omega
  obtain ⟨p, hp⟩ : ∃ p : Int, p = 2 ^ s.toNat := ⟨_, rfl⟩
  have hp2 := hp.symm
  rw [← hp] at h3 h4 h5
  have v6 : IntKind.i64.wrap p = p := by rw [IntKind.wrap_i64]; omega
  have t2 : y.tmod p = y % p := Int.tmod_eq_emod_of_nonneg hy.1
  obtain ⟨m, hm⟩ : ∃ m, m = y % p := ⟨_, rfl⟩
  have hm1 : 0 ≤ y % p ∧ y % p < p := ⟨Int.emod_nonneg _ (by omega), Int.emod_lt_of_pos _ (by omega)⟩
  rw [← hm] at h5 t2 hm1
  have v7 : IntKind.i64.wrap m = m := by rw [IntKind.wrap_i64]; omega
  have pn : p ≠ 0 := by omega
  have C1 := hide (fun w => enc_any s m w)
  unfold EnR at C1
  rw [show eB s m = blk s m from if_pos h5, h5, blk_len] at C1
  have HY := hide (blk_byt h5)
  have NT := hide (fun (c : By) (hl : c.length = 32) (hne : c ≠ blk s m) => notices h5 (c := c) hl hne)
  have HL := hide (blk_len s m)
  -- the place
  obtain ⟨q, hq⟩ : ∃ q : Nat, (q : Int) = c0 % 32 := ⟨(c0 % 32).toNat, by omega⟩
  have hq32 : q < 32 := by omega
  have hq32i : (q : Int) < 32 := by omega
  have hq0 : (0 : Int) ≤ (q : Int) := by omega
  have t3 : c0.tmod 32 = (q : Int) := by rw [Int.tmod_eq_emod_of_nonneg hc0.1]; exact hq.symm
  have v8 : IntKind.i64.wrap c0 = c0 := by rw [IntKind.wrap_i64]; omega
  have v9 : IntKind.i64.wrap (q : Int) = (q : Int) := by rw [IntKind.wrap_i64]; omega
  -- the change
  obtain ⟨z, hz, hz1'⟩ : ∃ z : Int, (if 1 < c1 then c1 else 1) = z ∧ (1 ≤ z ∧ z < 256) := ⟨_, rfl, by split <;> omega⟩
  have XR := hide (fun x (h : 0 ≤ x ∧ x < 256) => xor_u8 h hz1')
  unfold LawR
  have X := hide (Box.new w 46 #[.int .u8 c0, .int .u8 c1])
  have K0 := hide (bal (brefl w) (.cells #[.int .u8 c0, .int .u8 c1] 46))
  clear hs hp hm h5 hq
  go_enter Try.func8, Try.ntmps8
  go_upto_region 1 with fail
  obtain ⟨g, hg⟩ : ∃ g, g = w.heap.size := ⟨_, rfl⟩
  rw [← hg] at X ⊢
  have HG := hide hg
  clear hg
  generalize w.alloc (.cells #[.int .u8 c0, .int .u8 c1] 46) = w0 at *
  go_wp2_with fail
  refine (AW.out _).mono ?_
  rintro e w1 ⟨rfl, hb⟩
  have K := hide (btrans K0.out hb)
  replace X := hide (X.out.below hb)
  clear hb AW K0
  go_wp2_with fail
  refine (C1.out _).mono ?_
  rintro e w2 ⟨A1, cp1, rfl, hO, hb⟩
  replace K := hide (btrans K.out hb)
  replace X := hide (X.out.below hb)
  have R1 := hide (show BsB w2 A1 (blk s m) from OwB.bs hO)
  clear hb hO C1
  obtain ⟨b, off, rfl, hb, hcell⟩ := R1.out (by intro e; have := HL.out; rw [e] at this; simp at this)
  have NEWS := hide (show ∀ (j : Nat) (u : Value), ((blk s m).map bc)[j]? = some u → (w2.alloc (.cells #[] 5)).cell? ((⟨b, off, none⟩ : Addr).add j) = some u from fun j u hu => by
    have hj : j < (blk s m).length := by
      rcases Nat.lt_or_ge j (blk s m).length with h | h
      · exact h
      · rw [List.getElem?_eq_none (by rw [List.length_map]; exact h)] at hu; cases hu
    rw [addr_add, (bal (brefl w2) (.cells #[] 5)).cell (p := ⟨b, off + j, none⟩) hb, hcell j hj]
    rw [List.getElem?_map, List.getElem?_eq_getElem hj] at hu
    rw [List.getD_eq_getElem?_getD, List.getElem?_eq_getElem hj]
    exact hu)
  have OA := hide (empty_ownB w2 w2.heap.size (Nat.le_refl _))
  have SA := hide (show w2.heap.size ≤ (w2.alloc (.cells #[] 5)).heap.size by rw [alloc_size']; omega)
  have HL2 := hide (show ((blk s m).map bc).length = 32 * 1 by rw [List.length_map, blk_len])
  have M := hide (bal (brefl w2) (.cells #[] 5))
  clear R1 hcell
  go_upto_region 9 with (at_builtin; refine wpList_append_own_at _ rfl (.tmp 38) (.tmp 39) 23 rfl w2.heap.size 5 i0 _ 1 1 Try.underlying23 hi0 hz0 hz1 hz2 rfl (by omega) (.slice (some ⟨w2.heap.size, 0, none⟩) 0 0) 0 (([] : By).map bc) rfl OA.out ⟨b, off, none⟩ 32 cp1 ((blk s m).map bc) rfl HL2.out NEWS.out (bc_one _) (by simp only [maxLen]; omega) (by omega) SA.out ?_; intro v4 w4 hown4 hg4 _ hat4; obtain ⟨A4, cp4, ev4, _⟩ := row_form hown4; subst ev4)
  have B4 := M.out.trans (below_grown OA.out hg4 SA.out)
  have KS := hide K.out.size
  replace K := hide (btrans K.out B4)
  replace X := hide (X.out.below B4)
  have O := hide (show OwB w2.heap.size w4 (.slice A4 32 cp4) (blk s m) by
    unfold OwB
    rw [blk_len]
    exact hown4)
  clear hown4 hg4 hat4 OA SA NEWS HL2 M B4 hb
  obtain ⟨g2, rfl, hgl, hgB, xq, fq, PT⟩ := O.out.put (p := q) (by rw [blk_len]; exact hq32)
  have yq := HY.out.at (k := q) (by rw [blk_len]; exact hq32)
  have x0 := X.out.cell 0
  have x1 := X.out.cell 1
  simp at x0 x1
  have XV := hide (XR.out _ yq)
  obtain ⟨xv, hxv⟩ : ∃ xv, xv = (blk s m).getD q 0 := ⟨_, rfl⟩
  have HXV := hide hxv
  rw [← hxv] at xq yq XV
  obtain ⟨nv, hnv⟩ : ∃ nv, nv = bits .xor .u8 xv z := ⟨_, rfl⟩
  have hnv2 := hnv.symm
  rw [hnv2] at XV
  have HC := hide (PT nv)
  have K5 := hide (K.out.setCell (p := ⟨g2, q, none⟩) (show w.heap.size ≤ g2 from Nat.le_trans KS.out hgB) (.int .u8 nv))
  clear hxv hnv PT O
  by_cases hc : 1 < c1
  · rw [if_pos hc] at hz
    subst hz
    go_region
    have K6 := hide (show Below w.heap.size w (w4.setCell ⟨g2, q, none⟩ (.int .u8 nv)).drew from below_drewN K5.out 1)
    have H6 := hide (show BsB (w4.setCell ⟨g2, q, none⟩ (.int .u8 nv)).drew (some ⟨g2, 0, none⟩) ((blk s m).set q nv) from HC.out.below (below_drewN (brefl _) 1))
    have LL : ((blk s m).set q nv).length = 32 := by rw [List.length_set, blk_len]
    have NE := NT.out _ LL (set_ne (by rw [blk_len]; exact hq32) (by rw [← HXV.out]; exact XV.out.1))
    have YY := set_byt (p := q) HY.out (show 0 ≤ nv ∧ nv < 256 from XV.out.2)
    clear K5 HC x0 x1 xq fq hgl
    generalize (w4.setCell ⟨g2, q, none⟩ (.int .u8 nv)).drew = w5 at *
    have CD := hide (dec_any (some ⟨g2, 0, none⟩) cp4 ((blk s m).set q nv) w5 H6.out YY (by omega))
    unfold DeR at CD
    rw [LL] at CD
    clear YY LL H6
    obtain ⟨r1, hr1⟩ : ∃ r, r = (dR ((blk s m).set q nv)).1 := ⟨_, rfl⟩
    obtain ⟨r2, hr2⟩ : ∃ r, r = (dR ((blk s m).set q nv)).2 := ⟨_, rfl⟩
    have hne : dE ((blk s m).set q nv) = 0 → ¬ (r1 = s ∧ r2 = m) := fun h0 h => by
      rcases NE with h | ⟨_, h'⟩
      · omega
      · exact h' (Prod.ext (hr1.symm.trans h.1) (hr2.symm.trans h.2))
    have hee : dE ((blk s m).set q nv) = 22 ∨ dE ((blk s m).set q nv) = 0 := NE.imp id (fun h => h.1)
    rw [← hr1, ← hr2] at CD
    clear NE hr1 hr2
    generalize dE ((blk s m).set q nv) = er at *
    rcases hee with rfl | rfl
    · clear hne
      go_wp2_with fail
      refine CD.out.mono ?_
      rintro e w6 ⟨rfl, hb⟩
      replace K6 := hide (btrans K6.out hb)
      clear hb
      go_wp2
      go_ret
      exact ⟨rfl, K6.out⟩
    · by_cases e1 : r1 = s
      · have e2 : (r2 != m) = true := by simpa using fun h => hne rfl ⟨e1, h⟩
        subst e1
        clear hne
        go_wp2_with fail
        refine CD.out.mono ?_
        rintro e w6 ⟨rfl, hb⟩
        replace K6 := hide (btrans K6.out hb)
        clear hb
        go_wp2
        go_ret
        exact ⟨rfl, K6.out⟩
      · have e2 : (r1 != s) = true := by simpa using e1
        clear hne e1
        go_wp2_with fail
        refine CD.out.mono ?_
        rintro e w6 ⟨rfl, hb⟩
        replace K6 := hide (btrans K6.out hb)
        clear hb
        go_wp2
        go_ret
        exact ⟨rfl, K6.out⟩
  · rw [if_neg hc] at hz
    subst hz
    go_region
    have K6 := hide (show Below w.heap.size w (w4.setCell ⟨g2, q, none⟩ (.int .u8 nv)).drew from below_drewN K5.out 1)
    have H6 := hide (show BsB (w4.setCell ⟨g2, q, none⟩ (.int .u8 nv)).drew (some ⟨g2, 0, none⟩) ((blk s m).set q nv) from HC.out.below (below_drewN (brefl _) 1))
    have LL : ((blk s m).set q nv).length = 32 := by rw [List.length_set, blk_len]
    have NE := NT.out _ LL (set_ne (by rw [blk_len]; exact hq32) (by rw [← HXV.out]; exact XV.out.1))
    have YY := set_byt (p := q) HY.out (show 0 ≤ nv ∧ nv < 256 from XV.out.2)
    clear K5 HC x0 x1 xq fq hgl
    generalize (w4.setCell ⟨g2, q, none⟩ (.int .u8 nv)).drew = w5 at *
    have CD := hide (dec_any (some ⟨g2, 0, none⟩) cp4 ((blk s m).set q nv) w5 H6.out YY (by omega))
    unfold DeR at CD
    rw [LL] at CD
    clear YY LL H6
    obtain ⟨r1, hr1⟩ : ∃ r, r = (dR ((blk s m).set q nv)).1 := ⟨_, rfl⟩
    obtain ⟨r2, hr2⟩ : ∃ r, r = (dR ((blk s m).set q nv)).2 := ⟨_, rfl⟩
    have hne : dE ((blk s m).set q nv) = 0 → ¬ (r1 = s ∧ r2 = m) := fun h0 h => by
      rcases NE with h | ⟨_, h'⟩
      · omega
      · exact h' (Prod.ext (hr1.symm.trans h.1) (hr2.symm.trans h.2))
    have hee : dE ((blk s m).set q nv) = 22 ∨ dE ((blk s m).set q nv) = 0 := NE.imp id (fun h => h.1)
    rw [← hr1, ← hr2] at CD
    clear NE hr1 hr2
    generalize dE ((blk s m).set q nv) = er at *
    rcases hee with rfl | rfl
    · clear hne
      go_wp2_with fail
      refine CD.out.mono ?_
      rintro e w6 ⟨rfl, hb⟩
      replace K6 := hide (btrans K6.out hb)
      clear hb
      go_wp2
      go_ret
      exact ⟨rfl, K6.out⟩
    · by_cases e1 : r1 = s
      · have e2 : (r2 != m) = true := by simpa using fun h => hne rfl ⟨e1, h⟩
        subst e1
        clear hne
        go_wp2_with fail
        refine CD.out.mono ?_
        rintro e w6 ⟨rfl, hb⟩
        replace K6 := hide (btrans K6.out hb)
        clear hb
        go_wp2
        go_ret
        exact ⟨rfl, K6.out⟩
      · have e2 : (r1 != s) = true := by simpa using e1
        clear hne e1
        go_wp2_with fail
        refine CD.out.mono ?_
        rintro e w6 ⟨rfl, hb⟩
        replace K6 := hide (btrans K6.out hb)
        clear hb
        go_wp2
        go_ret
        exact ⟨rfl, K6.out⟩
end Go.Proofs.Ytncdilkcblakhaa.In
