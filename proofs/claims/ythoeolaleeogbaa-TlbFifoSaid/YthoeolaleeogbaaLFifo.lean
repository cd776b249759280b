import Derived.Test.YthoeolaleeogbaaLOnce
import Derived.Test.YthoeolaleeogbaaFifo0
import Derived.IntWalk
import Derived.Deep.RegionHeld3
import Derived.Deep.QuietTactic
import Derived.BigQuiet
import Derived.Laws.StructEq
namespace Go.Proofs.Ythoeolaleeogbaa.Tb
open Go Go.RowKit Go.Proofs.Ythoeolaleeogbaa.Pt
set_option linter.unusedVariables false
def ic (z : Int) : Value := .int .i64 z
/-- a slice that reads as a list of ints -/
def Ints (w : World) (A : Option Addr) (l : List Int) : Prop :=
  l ≠ [] → ∃ b off, A = some ⟨b, off, none⟩ ∧ b < w.heap.size ∧ ∀ k, k < l.length → w.cell? ⟨b, off + k, none⟩ = some (.int .i64 (l.getD k 0))
theorem Ints.below {w w' : World} {A : Option Addr} {l : List Int} (h : Ints w A l) (hb : Below w.heap.size w w') : Ints w' A l := fun hn => by
  obtain ⟨b, off, e, hlt, hc⟩ := h hn
  exact ⟨b, off, e, Nat.lt_of_lt_of_le hlt hb.size, fun k hk => (hb.cell (p := ⟨b, off + k, none⟩) hlt).trans (hc k hk)⟩
theorem row_ints {w : World} {base n : Nat} {A : Option Addr} {c : Nat} {l : List Int} (hn : n = l.length) (h : w.ownsRow base 3 1 (.slice A n c) n (l.map ic)) : Ints w A l := fun hne => by
  obtain ⟨hl, h | ⟨g, cap, cur, e, hg, hh, _, _, _, ht⟩⟩ := h
  · exfalso
    exact hne (List.eq_nil_of_length_eq_zero (by rw [← hn]; exact h.2))
  · have hA : A = some ⟨g, 0, none⟩ := by injection e
    subst hA
    refine ⟨g, 0, rfl, blk_lt hh, fun k hk => ?_⟩
    have e : (cur.toList.take (n * 1))[k]? = (l.map ic)[k]? := by rw [ht]
    rw [List.getElem?_take_of_lt (by omega), List.getElem?_map, List.getElem?_eq_getElem hk] at e
    have e2 : cur[k]? = some (ic (l[k]'hk)) := by simpa using e
    simp only [World.cell?, hh, Nat.zero_add, e2]
    simp [ic, List.getD_eq_getElem?_getD, List.getElem?_eq_getElem hk]
theorem info3 : (Try.prog.info? 3).map (fun i => (i.zero, i.size, i.bytes)) = some (some (.int .i64 0), 1, 8) := by kernel_rfl
theorem row_form3 {w : World} {base n : Nat} {v : Value} {xs : List Value} (h : w.ownsRow base 3 1 v n xs) : ∃ A c, v = .slice A n c := by
  obtain ⟨_, ⟨rfl, rfl⟩ | ⟨g, cap, cur, rfl, _⟩⟩ := h
  · exact ⟨none, 0, rfl⟩
  · exact ⟨_, _, rfl⟩
theorem row_below3 {w w' : World} {base n B : Nat} {v : Value} {xs : List Value} (h : w.ownsRow base 3 1 v n xs) (hg : w.grownBy w' v.ownBlock) (hB : B ≤ base) (hs : B ≤ w.heap.size) : Below B w w' := by
  refine ⟨hg.os, hg.tape, hg.output, hg.size, fun k hk => hg.block k (by omega) ?_⟩
  obtain ⟨_, ⟨rfl, rfl⟩ | ⟨g, cap, cur, rfl, hgb, _⟩⟩ := h
  · exact Option.some_ne_none _
  · intro e
    have : k = g := by simpa [Value.ownBlock] using e
    omega
theorem cell_one_new (w : World) (x : Value) (t : TypeId) : ∀ j u, [x][j]? = some u → (w.alloc (.cells #[x] t)).cell? ((⟨w.heap.size, 0, none⟩ : Addr).add j) = some u := by
  intro j u h
  match j, h with
  | 0, h => simp at h; subst h; simp [go_sem, Addr.add]
/-- a slice that reads as a list of numbers of two bytes -/
def Pgs16 (w : World) (A : Option Addr) (L : List Int) : Prop :=
  L ≠ [] → ∃ b off, A = some ⟨b, off, none⟩ ∧ b < w.heap.size ∧ ∀ k, k < L.length → w.cell? ⟨b, off + k, none⟩ = some (.int .u16 (L.getD k 0))
def in16 (L : List Int) : Prop := ∀ x ∈ L, 0 ≤ x ∧ x ≤ 65535
theorem in16.at_ {L : List Int} (h : in16 L) {k : Nat} (hk : k < L.length) : 0 ≤ L.getD k 0 ∧ L.getD k 0 ≤ 65535 := by
  rw [List.getD_eq_getElem?_getD, List.getElem?_eq_getElem hk]; exact h _ (List.getElem_mem hk)
theorem fifo_many (sz : Int) (A : Option Addr) (L : List Int) (c : Nat) (w : World) (h : 40 < L.length) (hn : L.length ≤ 9223372036854775807) :
    Calls Try.prog 10 #[.int .u8 sz, .slice A L.length c] w fun e w' => e = .returned (.bool true) ∧ Below w.heap.size w w' := by
  have hd : decide (40 < (L.length : Int)) = true := decide_eq_true (by omega)
  clear h
  go_enter Try.func10, Try.ntmps10
  go_wp2_with fail
  refine (awake _).mono ?_
  rintro e w1 ⟨rfl, hb⟩
  have K := hide hb
  clear hb
  go_wp2
  go_ret
  exact ⟨rfl, K.out⟩
set_option maxHeartbeats 8000000 in
set_option maxRecDepth 100000 in
theorem fifo_few (sz : Int) (A : Option Addr) (L : List Int) (c : Nat) (w : World) (h : L.length ≤ 40) (hr : Pgs16 w A L) (hi : in16 L) (h0 : 0 ≤ sz) (h1 : sz ≤ 255) :
    Calls Try.prog 10 #[.int .u8 sz, .slice A L.length c] w fun e w' => e = .returned (.bool true) ∧ Below w.heap.size w w' := by
  obtain ⟨i0, hi0, hz0, hz1, hz2⟩ := info_parts info3
  have HR := hide hr
  have HI := hide hi
  have hd : decide (40 < (L.length : Int)) = false := decide_eq_false (by omega)
  obtain ⟨nn, hnn⟩ : ∃ nn : Nat, (nn : Int) = 1 + sz % 16 := ⟨(1 + sz % 16).toNat, by omega⟩
  have HN := hide hnn
  have HN1 := hide (show 1 ≤ nn ∧ nn ≤ 16 by omega)
  clear hr hi hnn
  go_enter Try.func10, Try.ntmps10
  go_wp2
  go_loopw [6, 7] (fun v i wr => ∃ (k : Nat) (P : List Int), k ≤ L.length ∧ i = .int .i64 k ∧ P.length = k ∧ Hid (Pgs P) ∧ Hid (wr.ownsRow w.heap.size 3 1 v P.length (P.map ic)) ∧ Hid (Below w.heap.size w wr)) (fun _ i _ => L.length - (intOf i).toNat)
  case atStart => exact ⟨0, [], Nat.zero_le _, rfl, rfl, hide Pgs.nil, hide ⟨rfl, .inl ⟨rfl, rfl⟩⟩, hide (brefl _)⟩
  case round =>
    obtain ⟨k, P, hk, rfl, hPk, HP, HO, KB⟩ := hrel
    obtain ⟨A1, n1, rfl⟩ := row_form3 HO.out
    by_cases hlt : k < L.length
    · obtain ⟨b, off, rfl, hbl, hcs⟩ := HR.out (by rintro rfl; simp at hlt)
      have c0 : wr.cell? ⟨b, off + k, none⟩ = some (.int .u16 (L.getD k 0)) := (KB.out.cell (p := ⟨b, off + k, none⟩) hbl).trans (hcs k hlt)
      have hbl2 : b < wr.heap.size := Nat.lt_of_lt_of_le hbl KB.out.size
      have hx := HI.out.at_ hlt
      generalize L.getD k 0 = x at *
      clear hcs
      go_wp2
      go_loop [9] (fun i => ∃ j : Nat, j ≤ P.length ∧ i = .int .i64 j ∧ Hid (∀ t, t < j → P.getD t 0 ≠ x % 512)) (fun i => P.length - (intOf i).toNat)
      case atStart => exact ⟨0, Nat.zero_le _, rfl, hide fun t ht => absurd ht (Nat.not_lt_zero _)⟩
      case round =>
        obtain ⟨j, hj, rfl, HJ⟩ := hrel
        by_cases hjl : j < P.length
        · obtain ⟨bp, offp, rfl, hbp, hcp⟩ := row_ints rfl HO.out (by rintro rfl; simp at hjl)
          have p0 := hcp j hjl
          clear hcp
          by_cases hq : P.getD j 0 = x % 512
          · rw [hq] at p0
            go_wp2_with fail
            refine (awake _).mono ?_
            rintro e w9 ⟨rfl, hb9⟩
            have K9 := hide (btrans KB.out hb9)
            clear hb9
            go_wp2
            go_ret
            exact ⟨rfl, K9.out⟩
          · have HJ2 := hide (show ∀ t, t < j + 1 → P.getD t 0 ≠ x % 512 from fun t ht => by
              by_cases e : t = j
              · rw [e]; exact hq
              · exact HJ.out t (by omega))
            generalize P.getD j 0 = y at *
            go_wp2
            go_round
            case rel => exact ⟨j + 1, by omega, by go_num, HJ2⟩
            case measure => simp [intOf]; omega
        · have HP2 := hide (HP.out.snoc (p := x % 512) (by omega) (by omega) (fun t ht => HJ.out t (by omega)))
          have hjn : ¬ (j : Int) < (P.length : Int) := by omega
          go_wp2_with (at_builtin; refine wpList_append_own _ rfl (.tmp 50) (.tmp 52) 49 rfl w.heap.size 3 i0 _ 1 8 Try.underlying49 hi0 hz0 hz1 hz2 rfl (by omega) (.slice A1 P.length n1) (P.length) (P.map ic) rfl (HO.out.alloc _) ⟨wr.heap.size, 0, none⟩ 1 1 [ic (x % 512)] rfl rfl (cell_one_new _ _ _) (by intro u hu; simp at hu; subst hu; rfl) (by simp only [maxLen]; omega) (by omega) (by have := KB.out.size; simp; omega) ?_; intro v1 w1 hown1 hg1 _; obtain ⟨A2, n2, rfl⟩ := row_form3 hown1; have HO1 := hide hown1; have HG1 := hide hg1; clear hown1 hg1)
          go_wp2
          go_roundw
          case rel => exact ⟨k + 1, P ++ [x % 512], by omega, by go_num, by rw [List.length_append, hPk]; rfl, HP2, hide (by rw [List.length_append, List.map_append]; have q := HO1.out; rw [hPk] at q ⊢; exact q), hide ((bal KB.out _).trans (row_below3 (HO.out.alloc _) HG1.out (Nat.le_refl _) (by have := KB.out.size; simp; omega)))⟩
          case measure => simp [intOf]; omega
    · have hkl : ¬ (k : Int) < (L.length : Int) := by omega
      have hPl : P.length ≤ 40 := by omega
      have HIN := hide (row_ints rfl HO.out)
      have CN := hide (new_any (nn : Int))
      rw [show szB (nn : Int) = true by unfold szB; rw [decide_eq_true_eq]; have := HN1.out; omega, if_pos rfl, if_pos rfl] at CN
      have HZ := hide (show chkT (nn : Int) [] = 0 from chkT_ok.2 ⟨by have := HN1.out; omega, by simp, ⟨fun e he => by simp at he, List.Pairwise.nil⟩⟩)
      rw [HN.out] at CN
      clear hk hPk
      obtain ⟨wv, hwv⟩ : ∃ wv : World, wv = wr := ⟨_, rfl⟩
      rw [← hwv] at HIN KB ⊢
      clear hwv HO
      go_wp2_with fail
      refine (CN.out _).mono ?_
      rintro e w1 ⟨A5, c1, rfl, hown, hb⟩
      obtain ⟨w2, hw2⟩ : ∃ w2, w2 = w1.alloc (.cells #[.int .i64 (1 + sz % 16), .slice A5 0 c1] 24) := ⟨_, rfl⟩
      have V2 := hide (show Below wv.heap.size wv w2 by rw [hw2]; exact bal hb _)
      have B2 := hide (show Box w2 w1.heap.size 24 #[.int .i64 (1 + sz % 16), .slice A5 0 c1] by rw [hw2]; exact Box.new _ _ _)
      have T2 := hide (show TlbIn w2 A5 [] c1 from (TlbIn.of_own (L := []) hown (by simp) inw_nil).below (by rw [hw2]; exact bal (brefl _) _))
      have HG2 := hide (show wv.heap.size ≤ w1.heap.size from hb.size)
      have HW2 := hide hw2
      clear hw2 hown hb hkl hlt
      go_wp2
      rw [← HW2.out]
      have HZ0 := hide (show ef P nn 0 = [] by simp [ef, en])
      go_loopw [12] (fun i wr => ∃ (k : Nat) (A' : Option Addr) (c' : Nat), k ≤ P.length ∧ i = .int .i64 k ∧ Hid (Box wr w1.heap.size 24 #[.int .i64 (1 + sz % 16), .slice A' (ef P nn k).length c']) ∧ Hid (TlbIn wr A' (ef P nn k) c') ∧ Hid (Own47 wr A' (ef P nn k)) ∧ Hid (Below wv.heap.size wv wr)) (fun i _ => P.length - (intOf i).toNat)
      case atStart => exact ⟨0, A5, c1, Nat.zero_le _, rfl, hide (by rw [HZ0.out]; exact B2.out), hide (by rw [HZ0.out]; exact T2.out), hide (by rw [HZ0.out]; exact fun h => absurd rfl h), V2⟩
      case round =>
        obtain ⟨k, A', c', hk, rfl, BX, TX, OX, KX⟩ := hrel
        have IX := hide (HIN.out.below KX.out)
        have x0 := BX.out.cell 0
        have x1 := BX.out.cell 1
        have xf0 := BX.out.frozen 0
        have xf1 := BX.out.frozen 1
        simp at x0 x1
        by_cases hlt : k < P.length
        · obtain ⟨bp, offp, rfl, hbp, hcp⟩ := IX.out (by rintro rfl; simp at hlt)
          have p0 := hcp k hlt
          have FE := hide (ef_fillE HP.out HN1.out.1 HN1.out.2 hlt hPl)
          have FL := hide (ef_fill HP.out HN1.out.1 hlt hPl)
          have CK := hide (ef_ok HP.out HN1.out.1 HN1.out.2 hPl (k + 1) hlt)
          have hgp := HP.out.at_ hlt
          have IW := hide (show ∀ o ∈ ef P nn (k + 1), inW o.2.2 from ef_inw (by omega))
          have D := hide (fun (W : World) (hW : Below wr.heap.size wr W) => fill_any (nn : Int) A' (ef P nn k) c' 2 (P.getD k 0) (1 + 256 * (k : Int)) W (TX.out.below hW) (by unfold inW; omega))
          rw [FE.out, FL.out] at D
          have e1 : resS (nn : Int) 0 = (nn : Int) := rfl
          have e2 : resM (ef P nn (k + 1)) 0 = ef P nn (k + 1) := rfl
          rw [e1, e2, HN.out] at D
          have NX := hide (show (ef P nn (k + 1)).length ≤ 40 by rw [ef_length]; omega)
          obtain ⟨M2, hM2⟩ : ∃ M2, M2 = ef P nn (k + 1) := ⟨_, rfl⟩
          rw [← hM2] at D CK IW NX
          have HM2 := hide hM2.symm
          clear hM2 FL FE
          generalize ef P nn k = M at *
          have HPD := hide (show ∀ W, Below wr.heap.size wr W → W.cell? ⟨bp, offp + k, none⟩ = some (.int .i64 (P.getD k 0)) from fun W hW => (hW.cell (p := ⟨bp, offp + k, none⟩) hbp).trans p0)
          generalize P.getD k 0 = y at *
          have hk0 : (0 : Int) ≤ (k : Int) := by omega
          have hkl : (k : Int) < (P.length : Int) := by omega
          have hk40 : (k : Int) < 40 := by omega
          obtain ⟨U, hU⟩ : ∃ U, U = 256 * (k : Int) := ⟨_, rfl⟩
          obtain ⟨V, hV⟩ : ∃ V, V = 1 + U := ⟨_, rfl⟩
          have hVV : V = 1 + 256 * (k : Int) := by omega
          rw [← hVV] at D
          have hmul : IntKind.i64.wrap (256 * (k : Int)) = U := by rw [hU]; exact IntWalk.i64_in _ (by omega)
          have hadd : IntKind.i64.wrap (1 + U) = V := by rw [hV]; exact IntWalk.i64_in _ (by omega)
          have hcv : IntKind.u64.wrap V = V := IntWalk.u64_in _ (by omega)
          have hV0 : 0 ≤ V := by omega
          have hV1 : V < 20000 := by omega
          clear hU hV hVV
          have ltX := BX.out.lt
          clear hcp e1 e2 hgp
          go_wp2
          have CE1 := hide (fun (W : World) (hW : Below wr.heap.size wr W) => show W.cell? ⟨w1.heap.size, 0, none⟩ = some (.int .i64 (1 + sz % 16)) ∧ W.cell? ⟨w1.heap.size, 1, none⟩ = some (.slice A' M.length c') ∧ W.cell? ⟨bp, offp + k, none⟩ = some (.int .i64 y) from ⟨(BX.out.below hW).cell 0, (BX.out.below hW).cell 1, HPD.out W hW⟩)
          have KK := hide (brefl wr)
          go_region_held3 (fun W => W.cell? ⟨w1.heap.size, 0, none⟩ = some (.int .i64 (1 + sz % 16)) ∧ W.cell? ⟨w1.heap.size, 1, none⟩ = some (.slice A' M.length c') ∧ W.cell? ⟨bp, offp + k, none⟩ = some (.int .i64 y))
            ((exact CE1.out _ (by first | exact KK.out | exact below_drewN (KK.out) _ | exact bal (KK.out) _ | exact bal (below_drewN (KK.out) _) _ | exact below_drewN (bal (KK.out) _) _ | exact bset (bset (KK.out) (p := ⟨wr.heap.size, 0, none⟩) (Nat.le_refl _) _) (p := ⟨wr.heap.size, 1, none⟩) (Nat.le_refl _) _)))
            (first | (go_at_call 22; refine (D.out _ (by first | exact brefl _ | exact below_drewN (brefl _) _ | exact below_drewN (bal (brefl _) _) _ | exact bal (below_drewN (brefl _) _) _)).mono ?_; rintro e w5 ⟨A6, c6, rfl, hT5, hb5⟩; have R5 := hide (show Below wr.heap.size wr w5 by first | exact hb5 | exact btrans (below_drewN (brefl _) _) hb5 | exact btrans (below_drewN (bal (brefl _) _) _) hb5 | exact btrans (bal (below_drewN (brefl _) _) _) hb5); replace KK := hide R5.out; have O5 := hide hT5.o47; have CP5 := hide hT5.cap; (first | (have Z5 := hide (Box.below (Box.new wr 24 #[.int .i64 0, .slice none 0 0]) (show Below (wr.alloc (.cells #[.int .i64 0, .slice none 0 0] 24)).heap.size (wr.alloc (.cells #[.int .i64 0, .slice none 0 0] 24)) w5 by first | exact hb5 | exact btrans (below_drewN (brefl _) 1) hb5)); have z0 := Z5.out.cell 0; have z1 := Z5.out.cell 1; have zf0 := Z5.out.frozen 0; have zf1 := Z5.out.frozen 1; simp at z0 z1) | skip); clear hT5 hb5))
          all_goals
            (first
              | (obtain ⟨W5, hW5⟩ : ∃ W5, W5 = w5.alloc (.cells #[.int .i64 (1 + sz % 16), .slice A6 M2.length c6] 24) := ⟨_, rfl⟩
                 obtain ⟨g5, hg5⟩ : ∃ g5, g5 = w5.heap.size := ⟨_, rfl⟩
                 have E5 := hide (show Box W5 g5 24 #[.int .i64 (1 + sz % 16), .slice A6 M2.length c6] by rw [hW5, hg5]; exact Box.new _ _ _)
                 have KA := hide (show Below wr.heap.size wr W5 by rw [hW5]; exact bal R5.out _)
                 have OA := hide (show Own47 W5 A6 M2 by rw [hW5]; exact O5.out.below (bal (brefl _) _))
                 have GG := hide (show wr.heap.size ≤ g5 by rw [hg5]; exact R5.out.size)
                 rw [← hW5, ← hg5]
                 clear hW5 hg5)
              | (obtain ⟨W5, hW5⟩ : ∃ W5, W5 = (w5.setCell ⟨wr.heap.size, 0, none⟩ (.int .i64 (1 + sz % 16))).setCell ⟨wr.heap.size, 1, none⟩ (.slice A6 M2.length c6) := ⟨_, rfl⟩
                 obtain ⟨g5, hg5⟩ : ∃ g5, g5 = wr.heap.size := ⟨_, rfl⟩
                 have E5 := hide (show Box W5 g5 24 #[.int .i64 (1 + sz % 16), .slice A6 M2.length c6] by rw [hW5, hg5]; exact (Z5.out.put 0 (.int .i64 (1 + sz % 16))).put 1 (.slice A6 M2.length c6))
                 have KA := hide (show Below wr.heap.size wr W5 by rw [hW5]; exact bset (bset R5.out (Nat.le_refl _) _) (Nat.le_refl _) _)
                 have OA := hide (show Own47 W5 A6 M2 by rw [hW5]; exact (O5.out.boxset Z5.out 0 _).boxset (Z5.out.put 0 (.int .i64 (1 + sz % 16))) 1 _)
                 have GG := hide (show wr.heap.size ≤ g5 by rw [hg5]; exact Nat.le_refl _)
                 clear z0 z1 zf0 zf1 Z5
                 rw [← hW5, ← hg5]
                 clear hW5 hg5))
          all_goals
            have BX5 := hide (BX.out.below KA.out)
            have IX5 := hide (IX.out.below KA.out)
            have y0 := E5.out.cell 0
            have y1 := E5.out.cell 1
            have b0 := BX5.out.cell 0
            have b1 := BX5.out.cell 1
            have bf0 := BX5.out.frozen 0
            have bf1 := BX5.out.frozen 1
            have ltg := E5.out.lt
            have ltb := BX5.out.lt
            simp at y0 y1 b0 b1
            clear x0 x1 xf0 xf1 hmul hadd hcv p0
            go_wp2
            have O7 := hide ((OA.out.boxset BX5.out 0 (.int .i64 (1 + sz % 16))).boxset (BX5.out.put 0 (.int .i64 (1 + sz % 16))) 1 (.slice A6 M2.length c6))
            have X7 := hide ((BX5.out.put 0 (.int .i64 (1 + sz % 16))).put 1 (.slice A6 M2.length c6))
            have K7 := hide (bset (bset (btrans KX.out KA.out) (p := ⟨w1.heap.size, 0, none⟩) HG2.out (.int .i64 (1 + sz % 16))) (p := ⟨w1.heap.size, 1, none⟩) HG2.out (.slice A6 M2.length c6))
            go_roundw
            case rel => exact ⟨k + 1, A6, c6, by omega, by go_num, hide (by rw [HM2.out]; exact X7.out), hide (by rw [HM2.out]; exact ⟨O7.out.ts, CP5.out, by have := NX.out; omega, IW.out⟩), hide (by rw [HM2.out]; exact O7.out), K7⟩
            case measure => simp [intOf]; omega
        · have hk3 : ¬ (k : Int) < (P.length : Int) := by omega
          obtain rfl : k = P.length := by omega
          have IX2 := hide IX.out
          have EL := hide (ef_length P nn P.length)
          rcases Nat.lt_or_ge nn P.length with hc | hc
          · obtain ⟨F, hF⟩ : ∃ F, F = P.length - nn := ⟨_, rfl⟩
            have HF := hide hF
            have hmx : (1 + sz % 16) < (P.length : Int) := by have := HN.out; omega
            have hsub : (P.length : Int) - (1 + sz % 16) = (F : Int) := by have := HN.out; omega
            have hFP : F < P.length := by have := HN1.out; omega
            rw [← HF.out] at EL
            obtain ⟨M, hM⟩ : ∃ M, M = ef P nn P.length := ⟨_, rfl⟩
            rw [← hM] at EL BX TX OX x1
            have HM := hide hM
            have hlen : ((M.length : Int) != (P.length : Int) - (F : Int)) = false := by rw [EL.out]; simp; omega
            have hltX := BX.out.lt
            clear hk hk3 hlt hF hM hc
            go_wp2
            go_loopw [16] (fun i wq => ∃ j : Nat, F ≤ j ∧ j ≤ P.length ∧ i = .int .i64 j ∧ Hid (Below wr.heap.size wr wq)) (fun i _ => P.length - (intOf i).toNat)
            case atStart => exact ⟨F, Nat.le_refl _, by omega, by first | rfl | (rw [hF]; rfl), hide (brefl _)⟩
            case round =>
              obtain ⟨j, hFj, hjP, rfl, KQ⟩ := hrel
              by_cases hj : j < P.length
              · obtain ⟨t, ht⟩ : ∃ t, t = j - F := ⟨_, rfl⟩
                have htM : t < M.length := by rw [EL.out]; omega
                obtain ⟨bm, offm, rfl, hbm, hcm⟩ := TX.out.ts.cells KQ.out (k := t) htM
                obtain ⟨c0, c1, c2⟩ := hcm t htM
                obtain ⟨bp, offp, rfl, hbp, hcp⟩ := (IX2.out.below KQ.out) (by rintro rfl; simp at hj)
                have p0 := hcp j hj
                have hat : teAt M t = (2, P.getD j 0, 1 + 256 * (j : Int)) := by rw [HM.out, ht, HF.out]; exact ef_at P (by have := HF.out; omega) hj
                rw [hat] at c0 c1 c2
                simp only at c0 c1 c2
                have x1 := (BX.out.below KQ.out).cell 1
                simp at x1
                have htm2 : (t : Int) < (M.length : Int) := by omega
                have ht0 : (0 : Int) ≤ (t : Int) := by omega
                have htsub : IntKind.i64.wrap ((j : Int) - (F : Int)) = (t : Int) := by rw [IntWalk.i64_in _ (by omega)]; omega
                have htsub2 : (j : Int) - (F : Int) = (t : Int) := by omega
                have hj0 : (0 : Int) ≤ (j : Int) := by omega
                have hjl : (j : Int) < (P.length : Int) := by omega
                obtain ⟨U, hU⟩ : ∃ U, U = 256 * (j : Int) := ⟨_, rfl⟩
                obtain ⟨V, hV⟩ : ∃ V, V = 1 + U := ⟨_, rfl⟩
                have hVV : V = 1 + 256 * (j : Int) := by omega
                rw [← hVV] at c2
                have hmul : IntKind.i64.wrap (256 * (j : Int)) = U := by rw [hU]; exact IntWalk.i64_in _ (by omega)
                have hadd : IntKind.i64.wrap (1 + U) = V := by rw [hV]; exact IntWalk.i64_in _ (by omega)
                have hcv : IntKind.u64.wrap V = V := IntWalk.u64_in _ (by omega)
                have hV0 : 0 ≤ V := by omega
                have hV1 : V < 20000 := by omega
                generalize P.getD j 0 = y at *
                have HT := hide ht
                clear hU hV hVV hcm hcp hat ht htM hbm hbp
                go_wp2_with fail
                go_quiet (fail)
                go_wp2
                go_roundw
                case rel => exact ⟨j + 1, by omega, by omega, by go_num, hide (below_drewN KQ.out _)⟩
                case measure => simp [intOf]; omega
              · have hjl : ¬ (j : Int) < (P.length : Int) := by omega
                go_wp2_with fail
                refine (awake _).mono ?_
                rintro e w9 ⟨rfl, hb9⟩
                have K9 := hide (btrans KB.out (btrans KX.out (btrans KQ.out hb9)))
                clear hb9
                go_wp2
                go_ret
                exact ⟨rfl, K9.out⟩
          · obtain ⟨F, hF⟩ : ∃ F, F = 0 := ⟨0, rfl⟩
            have HF := hide (show F = P.length - nn by omega)
            have hmx : ¬ (1 + sz % 16) < (P.length : Int) := by have := HN.out; omega
            have hFP : F ≤ P.length := by omega
            rw [← HF.out] at EL
            obtain ⟨M, hM⟩ : ∃ M, M = ef P nn P.length := ⟨_, rfl⟩
            rw [← hM] at EL BX TX OX x1
            have HM := hide hM
            have hlen : ((M.length : Int) != (P.length : Int) - 0) = false := by rw [EL.out]; simp; omega
            have hltX := BX.out.lt
            clear hk hk3 hlt hM hc
            go_wp2
            go_loopw [16] (fun i wq => ∃ j : Nat, F ≤ j ∧ j ≤ P.length ∧ i = .int .i64 j ∧ Hid (Below wr.heap.size wr wq)) (fun i _ => P.length - (intOf i).toNat)
            case atStart => exact ⟨F, Nat.le_refl _, by omega, by first | rfl | (rw [hF]; rfl), hide (brefl _)⟩
            case round =>
              obtain ⟨j, hFj, hjP, rfl, KQ⟩ := hrel
              by_cases hj : j < P.length
              · obtain ⟨t, ht⟩ : ∃ t, t = j - F := ⟨_, rfl⟩
                have htM : t < M.length := by rw [EL.out]; omega
                obtain ⟨bm, offm, rfl, hbm, hcm⟩ := TX.out.ts.cells KQ.out (k := t) htM
                obtain ⟨c0, c1, c2⟩ := hcm t htM
                obtain ⟨bp, offp, rfl, hbp, hcp⟩ := (IX2.out.below KQ.out) (by rintro rfl; simp at hj)
                have p0 := hcp j hj
                have hat : teAt M t = (2, P.getD j 0, 1 + 256 * (j : Int)) := by rw [HM.out, ht, HF.out]; exact ef_at P (by have := HF.out; omega) hj
                rw [hat] at c0 c1 c2
                simp only at c0 c1 c2
                have x1 := (BX.out.below KQ.out).cell 1
                simp at x1
                have htm2 : (t : Int) < (M.length : Int) := by omega
                have ht0 : (0 : Int) ≤ (t : Int) := by omega
                have htsub : IntKind.i64.wrap ((j : Int) - 0) = (t : Int) := by rw [IntWalk.i64_in _ (by omega)]; omega
                have htsub2 : (j : Int) - 0 = (t : Int) := by omega
                have hj0 : (0 : Int) ≤ (j : Int) := by omega
                have hjl : (j : Int) < (P.length : Int) := by omega
                obtain ⟨U, hU⟩ : ∃ U, U = 256 * (j : Int) := ⟨_, rfl⟩
                obtain ⟨V, hV⟩ : ∃ V, V = 1 + U := ⟨_, rfl⟩
                have hVV : V = 1 + 256 * (j : Int) := by omega
                rw [← hVV] at c2
                have hmul : IntKind.i64.wrap (256 * (j : Int)) = U := by rw [hU]; exact IntWalk.i64_in _ (by omega)
                have hadd : IntKind.i64.wrap (1 + U) = V := by rw [hV]; exact IntWalk.i64_in _ (by omega)
                have hcv : IntKind.u64.wrap V = V := IntWalk.u64_in _ (by omega)
                have hV0 : 0 ≤ V := by omega
                have hV1 : V < 20000 := by omega
                generalize P.getD j 0 = y at *
                have HT := hide ht
                clear hU hV hVV hcm hcp hat ht htM hbm hbp
                go_wp2_with fail
                go_quiet (fail)
                go_wp2
                go_roundw
                case rel => exact ⟨j + 1, by omega, by omega, by go_num, hide (below_drewN KQ.out _)⟩
                case measure => simp [intOf]; omega
              · have hjl : ¬ (j : Int) < (P.length : Int) := by omega
                go_wp2_with fail
                refine (awake _).mono ?_
                rintro e w9 ⟨rfl, hb9⟩
                have K9 := hide (btrans KB.out (btrans KX.out (btrans KQ.out hb9)))
                clear hb9
                go_wp2
                go_ret
                exact ⟨rfl, K9.out⟩
theorem law_fifo (sz : Int) (A : Option Addr) (L : List Int) (c : Nat) (w : World) (hn : L.length ≤ 9223372036854775807) (hr : Pgs16 w A L) (hi : in16 L) (h0 : 0 ≤ sz) (h1 : sz ≤ 255) :
    Calls Try.prog 10 #[.int .u8 sz, .slice A L.length c] w fun e w' => e = .returned (.bool true) ∧ Below w.heap.size w w' := by
  by_cases h : 40 < L.length
  · exact fifo_many sz A L c w h hn
  · exact fifo_few sz A L c w (by omega) hr hi h0 h1
end Go.Proofs.Ythoeolaleeogbaa.Tb
