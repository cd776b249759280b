import Derived.Test.YtflplldamefhoaaR5
namespace Go.Proofs.Ytflplldamefhoaa.Bd
open Go Go.RowKit
set_option linter.unusedVariables false
/-- the canonical zone of a set is answered -/
def ZC (p : Pm) (S : Int → Prop) (w : World) (e : Ending) (w' : World) : Prop := ∃ v' L', e = .returned (.agg (znC p v')) ∧ OwZ w.heap.size w' v' L' ∧ Canon p S L' ∧ Below w.heap.size w w'
theorem canon_len {p : Pm} {S : Int → Prop} {L : Fl} (hp : par p) (h : Canon p S L) {k : Nat} (hk : k < 5) : (L k).length ≤ 256 := by
  rcases len_srt (a := 0) (b := 256) (h.srt k hk) (fun x hx => by have := blk_bd hp ((h.mem k hk x).1 hx).1.1; have := bw_pos k; omega) with h1 | h1
  · omega
  · rw [h1]; simp
set_option maxRecDepth 100000 in
set_option maxHeartbeats 16000000 in
theorem with_any (p : Pm) (v : Nat → Value) (gs : Nat) (c : Nat → Nat) (w : World) (hp : par p) (r : RI w gs c) (hc : ∀ x, x < 256 → c x ≤ 100) : Calls Try.prog 50 #[.agg (znC p v), .slice (some ⟨gs, 0, none⟩) 256 256] w (ZC p (SC c) w) := by
  unfold ZC
  obtain ⟨W0, hW0⟩ : ∃ W0, W0 = (w.alloc (.cells (znC p v) 25)).alloc (.cells (znC p0 nv) 25) := ⟨_, rfl⟩
  have K0 := hide (show Below w.heap.size w W0 by rw [hW0]; exact bal (bal (brefl w) _) _)
  have X := hide (show Box W0 w.heap.size 25 (znC p v) by rw [hW0]; exact (Box.new w 25 _).more _)
  have Y := hide (show Box W0 (w.heap.size + 1) 25 (znC p0 nv) by rw [hW0]; exact Box.new2 w _ 25 _)
  have HP := hide hp
  have HC := hide hc
  have GS := hide (show gs < w.heap.size from r.lt)
  have R := hide (r.below K0.out)
  obtain ⟨a, ha⟩ : ∃ a : Nat, p.st = a := ⟨p.st.toNat, by unfold par at hp; omega⟩
  obtain ⟨n, hn⟩ : ∃ n : Nat, p.st + p.ct = n := ⟨(p.st + p.ct).toNat, by unfold par at hp; omega⟩
  have hbd : a ≤ n ∧ n ≤ 256 := by unfold par at hp; omega
  have HA := hide ha
  have HN := hide hn
  have HBD := hide hbd
  obtain ⟨i0, hi0, hz0, hz1, hz2⟩ := info_parts info3
  clear hp hc r
  go_enter Try.func50, Try.ntmps50
  go_upto_region 1 with fail
  rw [znC0, ← hW0]
  obtain ⟨g, hg⟩ : ∃ g, g = w.heap.size := ⟨_, rfl⟩
  rw [← hg] at X Y ⊢
  have HG := hide hg
  have HS0 := hide (show W0.heap.size = g + 2 by rw [hW0, alloc_size', alloc_size', hg])
  clear hW0 hg ha hn hbd
  obtain ⟨x0, x1, x2, x3, x4⟩ := box_zone X.out
  go_upto_region 2 with (first | (refine wpList_store_row rfl 25 _ _ rfl W0.heap.size (znC p nv) rfl rfl 25 (znC p0 nv) (Box.new W0 25 _) (by kernel_rfl) rfl (one_zone (w := w) (ow_zero 0 w).rd) ?_))
  have e2 : (W0.alloc (.cells #[.int .i64 0, .int .i64 0, .int .i64 0, .int .i64 0, .int .i64 0, .slice none 0 0, .slice none 0 0, .slice none 0 0, .slice none 0 0, .slice none 0 0] 25)).setRow W0.heap.size (znC p nv) = W0.alloc (.cells (znC p nv) 25) := setRow_new W0 _ _ 25
  rw [e2]
  have M := bal (brefl W0) (.cells (znC p nv) 25)
  have Z := hide (Box.new W0 25 (znC p nv))
  replace X := hide (X.out.below M)
  replace Y := hide (Y.out.below M)
  replace K0 := hide (btrans K0.out M)
  replace R := hide (R.out.below M)
  have HS1 := hide (show (W0.alloc (.cells (znC p nv) 25)).heap.size = g + 3 by rw [alloc_size', HS0.out])
  rw [HS0.out] at Z ⊢
  generalize W0.alloc (.cells (znC p nv) 25) = W1 at *
  clear e2 M HS0 x0 x1 x2 x3 x4
  -- the copy
  obtain ⟨zz, hzz⟩ : ∃ zz : Array Value, zz = madeCells #[.int .i64 0] 256 := ⟨_, rfl⟩
  have hmk : ∀ w, (Instr.makeSlice 22 (.int .i64 256) (.int .i64 256)).run Try.prog w = .ok (.slice (some ⟨w.heap.size, 0, none⟩) 256 256) (w.alloc (.cells zz 3)) := fun w => by rw [hzz]; exact make256 w
  have Q := hide (show RI (W1.alloc (.cells zz 3)) W1.heap.size (fun x => if x < 0 then c x else 0) by rw [hzz]; exact RI.made W1 _ (fun x _ => rfl))
  have M := bal (brefl W1) (.cells zz 3)
  replace X := hide (X.out.below M)
  replace Y := hide (Y.out.below M)
  replace Z := hide (Z.out.below M)
  replace K0 := hide (btrans K0.out M)
  replace R := hide (R.out.below M)
  have HS2 := hide (show (W1.alloc (.cells zz 3)).heap.size = g + 4 by rw [alloc_size', HS1.out])
  clear M hzz
  go_upto_region 3 with fail
  rw [HS1.out] at Q ⊢
  generalize W1.alloc (.cells zz 3) = W2 at *
  clear hmk HS1
  go_wp2
  go_loopw [7] (fun s wr => ∃ x : Nat, x ≤ 256 ∧ s = .int .i64 x ∧ Hid (RI wr (g + 3) (fun y => if y < x then c y else 0)) ∧ Hid (RI wr gs c) ∧ Hid (Box wr g 25 (znC p v)) ∧ Hid (Box wr (g + 1) 25 (znC p0 nv)) ∧ Hid (Box wr (g + 2) 25 (znC p nv)) ∧ Hid (Below w.heap.size w wr) ∧ Hid (g + 4 ≤ wr.heap.size)) (fun s _ => 256 - (intOf s).toNat)
  case atStart => exact ⟨0, by omega, rfl, Q, R, X, Y, Z, K0, hide (Nat.le_of_eq HS2.out.symm)⟩
  case round =>
    clear Q R X Y Z K0
    obtain ⟨x, hx, rfl, Q, R, X, Y, Z, K0, SZ⟩ := hrel
    by_cases hlt : x < 256
    · have hx' : (x : Int) < 256 := by omega
      have cell := R.out.cell hlt
      have cell2 := Q.out.cell hlt
      have frz := Q.out.frozen x
      have Q2 := hide (show RI (wr.setCell ⟨g + 3, x, none⟩ (.int .i64 (c x : Int))) (g + 3) (fun y => if y < x + 1 then c y else 0) from Q.out.put x (c x) (fun y hy => by
        by_cases e : y = x
        · rw [if_pos e, if_pos (by omega), e]
        · rw [if_neg e]
          by_cases h2 : y < x
          · rw [if_pos h2, if_pos (by omega)]
          · rw [if_neg h2, if_neg (by omega)]))
      have hgs := GS.out
      rw [← HG.out] at hgs
      have R2 := hide (R.out.far (show gs ≠ g + 3 by omega) (o := x) (.int .i64 (c x : Int)))
      have X2 := hide (X.out.far (show g ≠ g + 3 by omega) (b := g + 3) (i := x) (.int .i64 (c x : Int)))
      have Y2 := hide (Y.out.far (show g + 1 ≠ g + 3 by omega) (b := g + 3) (i := x) (.int .i64 (c x : Int)))
      have Z2 := hide (Z.out.far (show g + 2 ≠ g + 3 by omega) (b := g + 3) (i := x) (.int .i64 (c x : Int)))
      have K2 := hide (bset K0.out (p := ⟨g + 3, x, none⟩) (show w.heap.size ≤ g + 3 by rw [← HG.out]; omega) (.int .i64 (c x : Int)))
      have S2 := hide (show g + 4 ≤ (wr.setCell ⟨g + 3, x, none⟩ (.int .i64 (c x : Int))).heap.size by have := SZ.out; simpa [World.setCell] using this)
      generalize c x = q at *
      clear Q R X Y Z K0 SZ
      go_wp2
      go_roundw
      case rel => exact ⟨x + 1, by omega, by go_num, Q2, R2, X2, Y2, Z2, K2, S2⟩
      case measure => simp [intOf]; omega
    · obtain rfl : x = 256 := by omega
      have WI := hide (show Wi p (SC c) 5 nf c from ⟨fun i h1 h2 => by omega, fun i hi => rfl, fun x hx => by rw [sc_nat hx]; exact ⟨fun h => ⟨h, fun i h1 h2 => by omega⟩, fun h => h.1⟩, HC.out⟩)
      have Q2 := hide (show RI wr (g + 3) c from Q.out.congr fun y hy => by rw [if_pos hy])
      have OZ := hide (ow_zero (g + 4) wr)
      clear Q R
      go_wp2
      go_loopw [8] (fun s wr => ∃ (j : Nat) (v' : Nat → Value) (L' : Fl) (lf : Nat → Nat), j ≤ 5 ∧ s = .int .i64 ((j : Int) - 1) ∧ Hid (Wi p (SC c) j L' lf) ∧ Hid (OwZ (g + 4) wr v' L') ∧ Hid (RI wr (g + 3) lf) ∧ Hid (Box wr g 25 (znC p v)) ∧ Hid (Box wr (g + 1) 25 (znC p0 nv)) ∧ Hid (Box wr (g + 2) 25 (znC p v')) ∧ Hid (Below w.heap.size w wr) ∧ Hid (g + 4 ≤ wr.heap.size)) (fun s _ => (intOf s + 1).toNat)
      case atStart => exact ⟨5, nv, nf, c, Nat.le_refl _, by first | rfl | simp, WI, OZ, Q2, X, Y, Z, K0, SZ⟩
      case round =>
        clear WI OZ Q2 X Y Z K0 SZ
        obtain ⟨j, v1, L1, lf, hj, rfl, WI, OZ, Q, X, Y, Z, K0, SZ⟩ := hrel
        by_cases h0 : 0 < j
        · obtain ⟨k, rfl⟩ : ∃ k, j = k + 1 := ⟨j - 1, by omega⟩
          have e1 : ((k + 1 : Nat) : Int) - 1 = (k : Int) := by omega
          have h5 : k < 5 := by omega
          have hd0 : decide (0 ≤ (k : Int)) = true := decide_eq_true (by omega)
          rw [e1]
          have H5 := hide h5
          have WJ := hide (WI.out.begin HA.out)
          obtain ⟨x0, x1, x2, x3, x4⟩ := box_zone X.out
          rw [HA.out] at x2
          clear WI e1 h0 hj
          go_wp2
          clear x0 x1 x2 x3 x4
          go_loopw [9] (fun s wr => ∃ (f : Nat) (v' : Nat → Value) (L' : Fl) (lf : Nat → Nat), a ≤ f ∧ f ≤ n ∧ s = .int .i64 f ∧ Hid (Wj p (SC c) k f L' lf) ∧ Hid (OwZ (g + 4) wr v' L') ∧ Hid (RI wr (g + 3) lf) ∧ Hid (Box wr g 25 (znC p v)) ∧ Hid (Box wr (g + 1) 25 (znC p0 nv)) ∧ Hid (Box wr (g + 2) 25 (znC p v')) ∧ Hid (Below w.heap.size w wr) ∧ Hid (g + 4 ≤ wr.heap.size)) (fun s _ => 300 - (intOf s).toNat)
          case atStart => exact ⟨a, v1, L1, lf, Nat.le_refl _, HBD.out.1, rfl, WJ, OZ, Q, X, Y, Z, K0, SZ⟩
          case round =>
            clear WJ OZ Q X Y Z K0 SZ
            obtain ⟨f, v2, L2, lf, hf1, hf2, rfl, WJ, OZ, Q, X, Y, Z, K0, SZ⟩ := hrel
            obtain ⟨x0, x1, x2, x3, x4⟩ := box_zone X.out
            have hsum : p.st + p.ct = (n : Int) := HN.out
            have hbd := HBD.out
            by_cases hlt : f < n
            · have hdl : decide ((f : Int) < (n : Int)) = true := decide_eq_true (by omega)
              have BL := hide (fun w1 => rblock_in p v f k H5.out (by unfold i64r; omega) HP.out w1)
              by_cases hb : blk p k f
              · have bd := blk_bd HP.out hb
                have bp := bw_pos k
                have hw := wr2 H5.out
                have AL := hide (fun w1 (hb1 : Below wr.heap.size wr w1) => all_any (g + 3) lf f k H5.out w1 (Q.out.below hb1) (by omega))
                have AI := allP_iff H5.out HP.out hb WJ.out.left
                rw [decide_eq_true hb] at BL
                by_cases hm : mxl p (SC c) k f
                · rw [decide_eq_true (AI.2 hm)] at AL
                  have HM := hide hm
                  have HB := hide hb
                  have BD := hide bd
                  have HW := hide hw
                  clear AI hm hb bd bp hw
                  go_upto_region 14 with (first | (refine wpList_load_row rfl 25 _ rfl g rfl 25 (znC p v) (0, 0) _ X.out Try.underlying25 rfl (by kernel_rfl) ?_) | (go_at_call 48; refine (BL.out _).mono ?_; rintro e w1 ⟨rfl, hb1⟩; replace OZ := hide (OZ.out.below hb1); replace Q := hide (Q.out.below hb1); replace X := hide (X.out.below hb1); replace Y := hide (Y.out.below hb1); replace Z := hide (Z.out.below hb1); replace K0 := hide (K0.out.trans (hb1.mono K0.out.size)); replace SZ := hide (Nat.le_trans SZ.out hb1.size)) | (go_at_call 62; refine (AL.out _ hb1).mono ?_; rintro e w2 ⟨rfl, hb2⟩; replace OZ := hide (OZ.out.below hb2); replace Q := hide (Q.out.below hb2); replace X := hide (X.out.below hb2); replace Y := hide (Y.out.below hb2); replace Z := hide (Z.out.below hb2); replace K0 := hide (K0.out.trans (hb2.mono K0.out.size)); replace SZ := hide (Nat.le_trans SZ.out hb2.size)))
                  clear hb1 hb2 x0 x1 x2 x3 x4 BL AL
                  have hk5 : (k : Int) < 5 := by have := H5.out; omega
                  have s0 := box_list Z.out H5.out
                  obtain ⟨A, cap, ev, hcap, _⟩ := OZ.out.rd k H5.out
                  have hlen := pt_len HP.out WJ.out.cur
                  obtain ⟨l, hl⟩ : ∃ l, l = L2 k := ⟨_, rfl⟩
                  rw [← hl] at ev hlen hcap
                  obtain ⟨m, hm⟩ : ∃ m, m = l.length := ⟨_, rfl⟩
                  rw [← hm] at ev hlen hcap
                  have HLM := hide (And.intro hl hm)
                  have HV := hide ev
                  rw [ev] at s0
                  have M := bal (brefl w2) (.cells #[.int .i64 (f : Int)] 3)
                  have RA := hide (show (w2.alloc (.cells #[.int .i64 (f : Int)] 3)).ownsRow (g + 4) 3 1 (.slice A m cap) m (l.map ic) by
                    have := row_below (OZ.out.row k H5.out) M
                    rw [ev, ← hl, ← hm] at this; exact this)
                  have NB := hide (cell_one_new w2 (.int .i64 (f : Int)) 3)
                  have SA := hide (show g + 4 ≤ (w2.alloc (.cells #[.int .i64 (f : Int)] 3)).heap.size by rw [alloc_size']; have := SZ.out; omega)
                  have OA := hide (OZ.out.below M)
                  have QA := hide (Q.out.below M)
                  have XA := hide (X.out.below M)
                  have YA := hide (Y.out.below M)
                  have ZA := hide (Z.out.below M)
                  have KA := hide (btrans K0.out M)
                  clear ev hl hm M OZ Q X Y Z K0
                  go_upto_region 15 with (at_builtin; refine wpList_append_own_at _ rfl (.tmp 67) (.tmp 69) 22 rfl (g + 4) 3 i0 _ 1 8 Try.underlying22 hi0 hz0 hz1 hz2 rfl (by omega) (.slice A m cap) m (l.map ic) rfl RA.out ⟨w2.heap.size, 0, none⟩ 1 1 [.int .i64 (f : Int)] rfl rfl NB.out (by intro u hu; rw [List.mem_singleton.1 hu]; rfl) (by simp only [maxLen]; omega) (by omega) SA.out ?_; intro v4 w4 hown4 hg4 _ hat4; have Z4 := hide (box_grown RA.out ZA.out (by decide) hg4); have s4 := box_list Z4.out H5.out; have f4 := Z4.out.frozen (5 + k); obtain ⟨A4, cp4, ev4, _⟩ := row_form hown4; subst ev4)
                  have HLk := HLM.out.1
                  have HLm := HLM.out.2
                  have ou : OwI (g + 4) w4 (.slice A4 (m + 1) cp4) (L2 k ++ [(f : Int)]) := by
                    have e3 : (L2 k ++ [(f : Int)]).length = m + 1 := by rw [← HLk, List.length_append, ← HLm]; rfl
                    unfold OwI
                    rw [e3, List.map_append, ← HLk]
                    exact hown4
                  have hgr : (w2.alloc (.cells #[.int .i64 (f : Int)] 3)).grownBy w4 (v2 k).ownBlock := by rw [HV.out]; exact hg4
                  have hat : (Value.slice A4 (m + 1) cp4).ownBlock = (v2 k).ownBlock ∨ (Value.slice A4 (m + 1) cp4).ownBlock = some (w2.alloc (.cells #[.int .i64 (f : Int)] 3)).heap.size := by rw [HV.out]; exact hat4
                  have O4 := OA.out.put H5.out hgr ou (dis_new OA.out H5.out hat)
                  have X4 := box_grown RA.out XA.out (by decide) hg4
                  have Y4 := box_grown RA.out YA.out (by decide) hg4
                  have Q4 := QA.out.grown RA.out (show g + 3 < g + 4 by omega) hg4
                  have B4 := below_grown RA.out hg4 SA.out
                  have K4 := KA.out.trans (B4.mono (show w.heap.size ≤ g + 4 by rw [← HG.out]; omega))
                  have S4 : g + 4 ≤ w4.heap.size := Nat.le_trans SA.out B4.size
                  have KP := Kp.boxset Z4.out (show g ≤ g + 2 by omega) (5 + k) (.slice A4 (m + 1) cp4)
                  have Z5' := Z4.out.put (5 + k) (.slice A4 (m + 1) cp4)
                  rw [znC_set p v2 _ H5.out] at Z5'
                  have Z := hide Z5'
                  have OZ := hide (O4.kp KP (by decide))
                  have X := hide (X4.far (show g ≠ g + 2 by omega) (b := g + 2) (i := 5 + k) (.slice A4 (m + 1) cp4))
                  have Y := hide (Y4.far (show g + 1 ≠ g + 2 by omega) (b := g + 2) (i := 5 + k) (.slice A4 (m + 1) cp4))
                  have Q := hide (Q4.far (show g + 3 ≠ g + 2 by omega) (o := 5 + k) (.slice A4 (m + 1) cp4))
                  have K0 := hide (bset K4 (p := ⟨g + 2, 5 + k, none⟩) (show w.heap.size ≤ g + 2 by rw [← HG.out]; omega) (.slice A4 (m + 1) cp4))
                  have SZ := hide (show g + 4 ≤ (w4.setCell ⟨g + 2, 5 + k, none⟩ (.slice A4 (m + 1) cp4)).heap.size by simpa [World.setCell] using S4)
                  generalize w4.setCell ⟨g + 2, 5 + k, none⟩ (.slice A4 (m + 1) cp4) = w5 at *
                  obtain ⟨v5, hv5⟩ : ∃ v5, v5 = vset v2 k (.slice A4 (m + 1) cp4) := ⟨_, rfl⟩
                  rw [← hv5] at Z OZ
                  obtain ⟨L5, hL5⟩ : ∃ L5, L5 = upd L2 k (L2 k ++ [(f : Int)]) := ⟨_, rfl⟩
                  rw [← hL5] at OZ
                  have WY := hide (fun (y : Nat) (hy : (y : Int) = f + bw k) => by have := WJ.out.yes H5.out HM.out hy; rw [← hL5] at this; exact this)
                  replace Q := hide (show RI w5 (g + 3) (cutF f f lf) from Q.out.congr fun y hy => by unfold cutF; rw [if_neg (by omega)])
                  clear hv5 hL5 Z5' KP S4 K4 B4 Q4 Y4 X4 O4 hat hgr ou HLk HLm s0 s4 f4 Z4 OA QA XA YA ZA KA RA NB SA hown4 hg4 hat4 WJ hlen hcap HV HLM
                  have hw := HW.out
                  have bd := BD.out
                  have bp := bw_pos k
                  have HGE := hide (show w.heap.size ≤ g + 3 by rw [← HG.out]; omega)
                  go_wp2
                  go_loopw [10] (fun s wr => ∃ y : Nat, f ≤ y ∧ (y : Int) ≤ f + bw k ∧ s = .int .i64 y ∧ Hid (OwZ (g + 4) wr v5 L5) ∧ Hid (RI wr (g + 3) (cutF f y lf)) ∧ Hid (Box wr g 25 (znC p v)) ∧ Hid (Box wr (g + 1) 25 (znC p0 nv)) ∧ Hid (Box wr (g + 2) 25 (znC p v5)) ∧ Hid (Below w.heap.size w wr) ∧ Hid (g + 4 ≤ wr.heap.size)) (fun s _ => 300 - (intOf s).toNat)
                  case atStart => exact ⟨f, Nat.le_refl _, by omega, rfl, OZ, Q, X, Y, Z, K0, SZ⟩
                  case round =>
                    clear OZ Q X Y Z K0 SZ
                    obtain ⟨y, hy1, hy2, rfl, OZ, Q, X, Y, Z, K0, SZ⟩ := hrel
                    by_cases hly : (y : Int) < f + bw k
                    · have hy256 : y < 256 := by omega
                      have hy256' : (y : Int) < 256 := by omega
                      have cell := Q.out.cell hy256
                      have frz := Q.out.frozen y
                      have Q2 := hide (show RI (wr.setCell ⟨g + 3, y, none⟩ (.int .i64 0)) (g + 3) (cutF f (y + 1) lf) from Q.out.put y 0 (fun x hx => by
                        unfold cutF
                        by_cases e : x = y
                        · rw [if_pos e, if_pos (by omega)]
                        · rw [if_neg e]
                          by_cases h2 : f ≤ x ∧ x < y
                          · rw [if_pos h2, if_pos (by omega)]
                          · rw [if_neg h2, if_neg (by omega)]))
                      have O2 := hide (OZ.out.far (show g + 3 < g + 4 by omega) (o := y) (u := .int .i64 0))
                      have X2 := hide (X.out.far (show g ≠ g + 3 by omega) (b := g + 3) (i := y) (.int .i64 0))
                      have Y2 := hide (Y.out.far (show g + 1 ≠ g + 3 by omega) (b := g + 3) (i := y) (.int .i64 0))
                      have Z2 := hide (Z.out.far (show g + 2 ≠ g + 3 by omega) (b := g + 3) (i := y) (.int .i64 0))
                      have K2 := hide (bset K0.out (p := ⟨g + 3, y, none⟩) HGE.out (.int .i64 0))
                      have S2 := hide (show g + 4 ≤ (wr.setCell ⟨g + 3, y, none⟩ (.int .i64 0)).heap.size by have := SZ.out; simpa [World.setCell] using this)
                      generalize cutF f y lf y = q at *
                      clear OZ Q X Y Z K0 SZ
                      go_wp2
                      go_roundw
                      case rel => exact ⟨y + 1, by omega, by omega, by go_num, O2, Q2, X2, Y2, Z2, K2, S2⟩
                      case measure => simp [intOf]; omega
                    · have hye : (y : Int) = f + bw k := by omega
                      have WK := hide (WY.out y hye)
                      have hdl2 : decide ((y : Int) < (f : Int) + bw k) = false := decide_eq_false hly
                      clear hye WY
                      go_wp2
                      go_roundw
                      case rel => first | exact ⟨f + 1, v5, L5, cutF f y lf, by omega, by omega, by go_num, WK, OZ, Q, X, Y, Z, K0, SZ⟩ | exact ⟨f + 1, by omega, by omega, by omega, v5, L5, cutF f y lf, WK, OZ, Q, Z⟩
                      case measure => simp [intOf]; omega
                · rw [decide_eq_false (fun h => hm (AI.1 h))] at AL
                  have WK := hide (WJ.out.no hm)
                  clear AI hm hb bd bp hw WJ
                  go_wp2_with (first | (refine wpList_load_row rfl 25 _ rfl g rfl 25 (znC p v) (0, 0) _ X.out Try.underlying25 rfl (by kernel_rfl) ?_) | (go_at_call 48; refine (BL.out _).mono ?_; rintro e w1 ⟨rfl, hb1⟩; replace OZ := hide (OZ.out.below hb1); replace Q := hide (Q.out.below hb1); replace X := hide (X.out.below hb1); replace Y := hide (Y.out.below hb1); replace Z := hide (Z.out.below hb1); replace K0 := hide (K0.out.trans (hb1.mono K0.out.size)); replace SZ := hide (Nat.le_trans SZ.out hb1.size)) | (go_at_call 62; refine (AL.out _ hb1).mono ?_; rintro e w2 ⟨rfl, hb2⟩; replace OZ := hide (OZ.out.below hb2); replace Q := hide (Q.out.below hb2); replace X := hide (X.out.below hb2); replace Y := hide (Y.out.below hb2); replace Z := hide (Z.out.below hb2); replace K0 := hide (K0.out.trans (hb2.mono K0.out.size)); replace SZ := hide (Nat.le_trans SZ.out hb2.size)))
                  go_roundw
                  case rel => first | exact ⟨f + 1, v2, L2, lf, by omega, by omega, by go_num, WK, OZ, Q, X, Y, Z, K0, SZ⟩ | ((repeat apply Exists.intro); exact ⟨⟨f + 1, v2, L2, lf, by omega, by omega, by go_num, WK, OZ, Q, X, Y, Z, K0, SZ⟩, rfl⟩)
                  case measure => simp [intOf]; omega
              · rw [decide_eq_false hb] at BL
                have WK := hide (WJ.out.no (fun h => hb h.1.1))
                clear hb WJ
                go_wp2_with (first | (refine wpList_load_row rfl 25 _ rfl g rfl 25 (znC p v) (0, 0) _ X.out Try.underlying25 rfl (by kernel_rfl) ?_) | (go_at_call 48; refine (BL.out _).mono ?_; rintro e w1 ⟨rfl, hb1⟩; replace OZ := hide (OZ.out.below hb1); replace Q := hide (Q.out.below hb1); replace X := hide (X.out.below hb1); replace Y := hide (Y.out.below hb1); replace Z := hide (Z.out.below hb1); replace K0 := hide (K0.out.trans (hb1.mono K0.out.size)); replace SZ := hide (Nat.le_trans SZ.out hb1.size)))
                go_roundw
                case rel => first | exact ⟨f + 1, v2, L2, lf, by omega, by omega, by go_num, WK, OZ, Q, X, Y, Z, K0, SZ⟩ | ((repeat apply Exists.intro); exact ⟨⟨f + 1, v2, L2, lf, by omega, by omega, by go_num, WK, OZ, Q, X, Y, Z, K0, SZ⟩, rfl⟩)
                case measure => simp [intOf]; omega
            · obtain rfl : f = n := by omega
              have WK := hide (WJ.out.stop H5.out HN.out.symm)
              have hdl : decide ((f : Int) < (f : Int)) = false := decide_eq_false (by omega)
              clear WJ
              go_wp2
              go_roundw
              case rel => exact ⟨k, v2, L2, lf, by have := H5.out; omega, rfl, WK, OZ, Q, X, Y, Z, K0, SZ⟩
              case measure => simp [intOf]
        · obtain rfl : j = 0 := by omega
          have hd0 : decide ((0 : Int) ≤ ((0 : Nat) : Int) - 1) = false := by decide
          have one := one_zone (p := p) OZ.out.rd
          have CA := hide (show Canon p (SC c) L1 from ⟨fun i hi => (WI.out.done i (by omega) hi).1, fun i hi => (WI.out.done i (by omega) hi).2⟩)
          clear WI
          go_wp2_with (first | (refine wpList_load_row rfl 25 _ rfl (g + 2) rfl 25 (znC p v1) (0, 0) _ Z.out Try.underlying25 rfl (by kernel_rfl) ?_) | (refine wpList_store_row rfl 25 _ _ rfl (g + 1) (znC p v1) rfl rfl 25 (znC p0 nv) Y.out (by kernel_rfl) rfl one ?_))
          have KP := kp_row (cs := znC p v1) Y.out (show w.heap.size ≤ g + 1 by rw [← HG.out]; omega)
          exact ret_z1 Try.results50 rfl rfl (box_row Y.out) ⟨v1, L1, rfl, (OZ.out.mono (by rw [← HG.out]; omega)).kp KP (by decide), CA.out, K0.out.trans KP.below⟩
end Go.Proofs.Ytflplldamefhoaa.Bd
