import Derived.Test.YtflplldamefhoaaPl2
namespace Go.Proofs.Ytflplldamefhoaa.Bd
open Go Go.RowKit
set_option linter.unusedVariables false
theorem ret_zv {fn : Func} {a : Act} {W : World} {g k m m2 : Nat} {A : Option Addr} {n c : Nat} {b : Bool} {p : Pm} {v : Nat → Value} {Q : Ending → World → Prop} (hr : fn.results = #[.cell k 25, .tmp m, .tmp m2]) (h2 : a.tmps.getD k undef = .pointer (some ⟨g, 0, none⟩)) (h3 : a.tmps.getD m undef = .slice A n c) (h4 : a.tmps.getD m2 undef = .bool b) (hd : a.defers = [])
    (hE : Box W g 25 (znC p v)) (hq : Q (.returned (.tuple #[.agg (znC p v), .slice A n c, .bool b])) W) : bodyPost Try.prog fn Q .ret a W := by
  obtain ⟨c0, c1, c2, c3, c4, c5, c6, c7, c8, c9⟩ := box_all hE
  simp only [Array.getD_eq_getD_getElem?] at h2 h3 h4
  exact bodyPost_ret (v := .tuple #[.agg (znC p v), .slice A n c, .bool b]) (by simp [results, hr, h2, h3, h4, go_sem, c0, c1, c2, c3, c4, c5, c6, c7, c8, c9]; rfl) hd hq
/-- what a game answers -/
def PlR (s c : Int) (n : Nat) (w : World) (e : Ending) (w' : World) : Prop := ∃ v L H U d, e = .returned (.tuple #[.agg (znC (pS s c) v), .slice U (List.length H) d, .bool true]) ∧ OwZ w.heap.size w' v L ∧ OwH w.heap.size w' (.slice U H.length d) H ∧ Below w.heap.size w w' ∧ Vd (pS s c) L ∧ Hd (pS s c) L H ∧ H.length ≤ n
theorem info55 : (Try.prog.info? 55).map (fun i => (i.zero, i.size, i.bytes)) = some (some (.agg #[.int .i64 0, .int .i64 0]), 2, 16) := by kernel_rfl
set_option maxRecDepth 100000 in
set_option maxHeartbeats 8000000 in
theorem play_any (s c : Int) (hs : 0 ≤ s ∧ s < 256) (hc : 0 ≤ c ∧ c < 256) (A : Option Addr) (O : List St) (cap : Nat) (w : World) (hn : O.length ≤ 30) (hr : Sts w A O) (hi : StsIn O) :
    Calls Try.prog 40 #[.int .u8 s, .int .u8 c, .slice A O.length cap] w (PlR s c O.length w) := by
  unfold PlR
  have HR := hide hr
  have HI := hide hi
  have HN := hide hn
  obtain ⟨p, hp⟩ : ∃ p, p = pS s c := ⟨_, rfl⟩
  obtain ⟨W0, hW0⟩ : ∃ W0, W0 = (w.alloc (.cells (znC p0 nv) 25)) := ⟨_, rfl⟩
  have K0 := hide (show Below w.heap.size w W0 by rw [hW0]; exact bal (brefl w) _)
  have Y := hide (show Box W0 w.heap.size 25 (znC p0 nv) by rw [hW0]; exact Box.new w 25 _)
  have NW := hide (show Calls Try.prog 18 #[.int .i64 0, .int .i64 0, .int .i64 (s % 16), .int .i64 (1 + c % 64), .int .i64 0] W0 _ from new_any (pS s c) (pS_pr s c) W0)
  unfold ZE at NW
  rw [show nwE (pS s c) = 0 by unfold nwE; rw [if_pos (pS_par s c)]] at NW
  have HP := hide (pS_par s c)
  rw [← hp] at NW HP ⊢
  clear hr hi hp
  go_enter Try.func40, Try.ntmps40
  go_upto_region 1 with fail
  rw [znC0, ← hW0]
  clear hW0
  have YL := hide Y.out.lt
  go_wp2_with fail
  refine NW.out.mono ?_
  rintro e w1 ⟨q, v1, L1, rfl, o1, hb, zg⟩
  obtain ⟨rfl, V1, S1⟩ := zg.ok rfl
  go_upto_region 2 with (refine wpList_store_row rfl 25 _ _ rfl w1.heap.size (znC q v1) rfl rfl 25 (znC p0 nv) (Box.new w1 25 _) (by kernel_rfl) rfl (one_zone o1.rd) ?_)
  have ee : (w1.alloc (.cells #[.int .i64 0, .int .i64 0, .int .i64 0, .int .i64 0, .int .i64 0, .slice none 0 0, .slice none 0 0, .slice none 0 0, .slice none 0 0, .slice none 0 0] 25)).setRow w1.heap.size (znC q v1) = w1.alloc (.cells (znC q v1) 25) := setRow_new w1 _ _ 25
  rw [ee]
  obtain ⟨g1, hg1⟩ : ∃ g, g = w1.heap.size := ⟨_, rfl⟩
  have M := bal (brefl w1) (.cells (znC q v1) 25)
  have X := hide (show Box (w1.alloc (.cells (znC q v1) 25)) g1 25 (znC q v1) by rw [hg1]; exact Box.new w1 25 _)
  have OZ := hide ((o1.mono K0.out.size).below M)
  replace Y := hide ((Y.out.below hb).below M)
  replace K0 := hide ((K0.out.trans (hb.mono K0.out.size)).trans (M.mono (Nat.le_trans K0.out.size hb.size)))
  have NE := hide (show w.heap.size < g1 by rw [hg1]; exact Nat.lt_of_lt_of_le YL.out hb.size)
  rw [← hg1]
  clear ee M hb o1 NW zg
  generalize w1.alloc (.cells (znC q v1) 25) = w2 at *
  clear hg1
  have V1 := hide V1
  have D1 := hide (Hd.new S1)
  clear S1
  have OH := hide (show OwH w.heap.size w2 (.slice none (List.length ([] : List He)) 0) [] from World.ownsRow_nil _ _ _ _)
  go_wp2
  go_loopw [11, 37] (fun u i wr => ∃ (k : Nat) (v : Nat → Value) (L : Fl) (H : List He) (U : Option Addr) (d : Nat), k ≤ O.length ∧ i = .int .i64 k ∧ u = .slice U H.length d ∧ H.length ≤ k ∧ Hid (Box wr g1 25 (znC q v)) ∧ Hid (Box wr w.heap.size 25 (znC p0 nv)) ∧ Hid (OwZ w.heap.size wr v L) ∧ Hid (OwH w.heap.size wr (.slice U H.length d) H) ∧ Hid (Vd q L) ∧ Hid (Hd q L H) ∧ Hid (Below w.heap.size w wr)) (fun _ i _ => O.length - (intOf i).toNat)
  case atStart => exact ⟨0, v1, L1, [], none, 0, Nat.zero_le _, rfl, rfl, Nat.zero_le _, X, Y, OZ, OH, V1, D1, K0⟩
  case round =>
    clear X Y OZ OH V1 D1 K0
    obtain ⟨k, v, L, H, U, d, hk, rfl, rfl, hHk, X, Y, OZ, OH, VV, DD, K⟩ := hrel
    by_cases hlt : k < O.length
    · obtain ⟨b, off, rfl, hbl, s0, s1, s2⟩ := HR.out.cells K.out hlt
      obtain ⟨gv, hgv⟩ : ∃ x, x = (stAt O k).1 := ⟨_, rfl⟩
      obtain ⟨x1, hx1⟩ : ∃ x, x = (stAt O k).2.1 := ⟨_, rfl⟩
      obtain ⟨x2, hx2⟩ : ∃ x, x = (stAt O k).2.2 := ⟨_, rfl⟩
      have hin := HI.out.at_ hlt
      rw [← hgv] at s0
      rw [← hx1] at s1 hin
      rw [← hx2] at s2 hin
      clear hgv hx1 hx2
      have M := bal (brefl wr) (.cells #[.bool gv, .int .u8 x1, .int .u8 x2] 67)
      have SX := hide (Box.new wr 67 #[.bool gv, .int .u8 x1, .int .u8 x2])
      replace X := hide (X.out.below M)
      replace Y := hide (Y.out.below M)
      replace OZ := hide (OZ.out.below M)
      replace OH := hide (row_below OH.out M)
      replace K := hide (K.out.trans (M.mono K.out.size))
      clear M
      go_upto_region 8 with fail
      obtain ⟨gs, hgs⟩ : ∃ g, g = wr.heap.size := ⟨_, rfl⟩
      rw [← hgs] at SX ⊢
      generalize wr.alloc (.cells #[.bool gv, .int .u8 x1, .int .u8 x2] 67) = w3 at *
      clear hgs s0 s1 s2
      have y0 : w3.cell? ⟨gs, 0, none⟩ = some (.bool gv) := SX.out.cell 0
      have y1 : w3.cell? ⟨gs, 1, none⟩ = some (.int .u8 x1) := SX.out.cell 1
      have y2 : w3.cell? ⟨gs, 2, none⟩ = some (.int .u8 x2) := SX.out.cell 2
      cases gv with
      | true =>
        clear y1
        by_cases hH : H.length = 0
        · obtain rfl : H = [] := List.eq_nil_of_length_eq_zero hH
          clear hH
          go_wp2
          go_roundw
          case rel => exact ⟨k + 1, v, L, [], U, d, by omega, by go_num, rfl, Nat.zero_le _, X, Y, OZ, OH, VV, DD, K⟩
          case measure => simp [intOf]; omega
        · have hpos : 0 < H.length := by omega
          obtain ⟨i, hi⟩ : ∃ i : Nat, x2 % (H.length : Int) = i := ⟨(x2 % H.length).toNat, by have := Int.emod_nonneg x2 (b := (H.length : Int)) (by omega); omega⟩
          have hil : i < H.length := by have := Int.emod_lt_of_pos x2 (b := (H.length : Int)) (by omega); omega
          obtain ⟨gh, rfl, hgl, hgB, h0, h1⟩ := OwH.cell OH.out hil
          have hb1 := DD.out.blk _ (heAt_mem hil)
          have hb2 := DD.out.out _ (heAt_mem hil)
          have hsp := he_split hil
          have HLE := hide (show H.length ≤ 30 by have := HN.out; omega)
          have hne : ¬ ((H.length : Int) = 0) := by omega
          replace hsp := hide hsp
          replace hb1 := hide hb1
          replace hb2 := hide hb2
          generalize hhe : heAt H i = he at *
          obtain ⟨f, kk⟩ := he
          simp only at h0 h1
          clear hH
          go_wp2
          have KD := below_drewN (brefl w3) 1
          replace X := hide (show Box w3.drew g1 25 (znC q v) from X.out.below KD)
          replace Y := hide (show Box w3.drew w.heap.size 25 (znC p0 nv) from Y.out.below KD)
          replace OZ := hide (show OwZ w.heap.size w3.drew v L from OZ.out.below KD)
          replace OH := hide (show OwH w.heap.size w3.drew (.slice (some ⟨gh, 0, none⟩) H.length d) H from row_below OH.out KD)
          replace K := hide (show Below w.heap.size w w3.drew from K.out.trans (KD.mono K.out.size))
          have H0 := hide (show w3.drew.cell? ⟨gh, i * 2, none⟩ = some (.int .i64 f) from (KD.cell (p := ⟨gh, i * 2, none⟩) hgl).trans h0)
          have H1 := hide (show w3.drew.cell? ⟨gh, i * 2 + 1, none⟩ = some (.int .i64 (kk : Int)) from (KD.cell (p := ⟨gh, i * 2 + 1, none⟩) hgl).trans h1)
          have HGL := hide (show gh < w3.drew.heap.size from Nat.lt_of_lt_of_le hgl KD.size)
          have CE := hide (fun (W : World) (hW : Below w3.drew.heap.size w3.drew W) => (⟨X.out.below hW, (hW.cell (p := ⟨gh, i * 2, none⟩) HGL.out).trans H0.out, (hW.cell (p := ⟨gh, i * 2 + 1, none⟩) HGL.out).trans H1.out⟩ : Box W g1 25 (znC q v) ∧ W.cell? ⟨gh, i * 2, none⟩ = some (.int .i64 f) ∧ W.cell? ⟨gh, i * 2 + 1, none⟩ = some (.int .i64 (kk : Int))))
          have hf64 : i64r f := by have := blk_bd HP.out hb1.out.2; have := bw_pos kk; unfold i64r; omega
          have FR := hide (fun (W : World) (hW : Below w3.drew.heap.size w3.drew W) => free_any q v L f kk hf64 W (ZIn.of_vd HP.out VV.out.toLst (OZ.out.rd.below hW)))
          rw [frE_held HP.out VV.out hb1.out.1 hb1.out.2 hb2.out] at FR
          unfold ZE at FR
          have hil2 : (i : Int) < (H.length : Int) := by omega
          clear KD h0 h1 hgl hi y0 y2 SX hin
          refine wp_region_noPanic ?_
          refine wp_region_held_drew (S := (fun W => Box W g1 25 (znC q v) ∧ W.cell? ⟨gh, i * 2, none⟩ = some (.int .i64 f) ∧ W.cell? ⟨gh, i * 2 + 1, none⟩ = some (.int .i64 (kk : Int)))) (by kernel_rfl) ?_ (fun hHeld => ?_)
          · exact CE.out _ (brefl _)
          generalize w3.drew = w4 at *
          have KK := hide (brefl w4)
          refine wpAnyH_take (i := 0) (oi := ⟨some 53, _, _, _, _, _⟩) (v := .agg (znC q v)) rfl (by kernel_rfl) (by kernel_rfl) (by kernel_rfl) (fun _ _ _ h => h) (Or.inl ⟨by kernel_rfl, ?_⟩) (by assumption) ?_
          · (intro w hSw; obtain ⟨y0, y1, y2, y3, y4, y5, y6, y7, y8, y9⟩ := box_all hSw.1; go_simp) <;> rfl
          (try simp only [Act.put, List.setIfInBounds_toArray, List.set_cons_succ, List.set_cons_zero])
          refine wpAnyH_take (i := 1) (oi := ⟨some 54, _, _, _, _, _⟩) (v := ?_) rfl (by kernel_rfl) (by kernel_rfl) (by kernel_rfl) (fun _ _ _ h => h) (Or.inl ⟨by kernel_rfl, ?_⟩) (by assumption) ?_
          rotate_left 1
          · (intro w hSw; (try dsimp only at hSw); go_simp) <;> (with_reducible rfl)
          (try simp only [Act.put, List.setIfInBounds_toArray, List.set_cons_succ, List.set_cons_zero])
          refine wpAnyH_take (i := 2) (oi := ⟨some 55, _, _, _, _, _⟩) (v := ?_) rfl (by kernel_rfl) (by kernel_rfl) (by kernel_rfl) (fun _ _ _ h => h) (Or.inl ⟨by kernel_rfl, ?_⟩) (by assumption) ?_
          rotate_left 1
          · (intro w hSw; (try dsimp only at hSw); go_simp) <;> (with_reducible rfl)
          (try simp only [Act.put, List.setIfInBounds_toArray, List.set_cons_succ, List.set_cons_zero])
          refine wpAnyH_take (i := 3) (oi := ⟨some 56, _, _, _, _, _⟩) (v := ?_) rfl (by kernel_rfl) (by kernel_rfl) (by kernel_rfl) (fun _ _ _ h => h) (Or.inl ⟨by kernel_rfl, ?_⟩) (by assumption) ?_
          rotate_left 1
          · (intro w hSw; (try dsimp only at hSw); go_simp) <;> (with_reducible rfl)
          (try simp only [Act.put, List.setIfInBounds_toArray, List.set_cons_succ, List.set_cons_zero])
          refine wpAnyH_take (i := 4) (oi := ⟨some 57, _, _, _, _, _⟩) (v := ?_) rfl (by kernel_rfl) (by kernel_rfl) (by kernel_rfl) (fun _ _ _ h => h) (Or.inl ⟨by kernel_rfl, ?_⟩) (by assumption) ?_
          rotate_left 1
          · (intro w hSw; (try dsimp only at hSw); go_simp) <;> (with_reducible rfl)
          (try simp only [Act.put, List.setIfInBounds_toArray, List.set_cons_succ, List.set_cons_zero])
          refine wpAnyH_take (i := 5) (oi := ⟨some 58, _, _, _, _, _⟩) (v := ?_) rfl (by kernel_rfl) (by kernel_rfl) (by kernel_rfl) (fun _ _ _ h => h) (Or.inl ⟨by kernel_rfl, ?_⟩) (by assumption) ?_
          rotate_left 1
          · (intro w hSw; (try dsimp only at hSw); go_simp) <;> (with_reducible rfl)
          (try simp only [Act.put, List.setIfInBounds_toArray, List.set_cons_succ, List.set_cons_zero])
          refine wpAnyH_take (i := 6) (oi := ⟨some 59, _, _, _, _, _⟩) (v := ?_) rfl (by kernel_rfl) (by kernel_rfl) (by kernel_rfl) (fun _ _ _ h => h) (Or.inl ⟨by kernel_rfl, ?_⟩) (by assumption) ?_
          rotate_left 1
          · (intro w hSw; (try dsimp only at hSw); go_simp) <;> (with_reducible rfl)
          (try simp only [Act.put, List.setIfInBounds_toArray, List.set_cons_succ, List.set_cons_zero])
          refine wpAnyH_take (i := 7) (oi := ⟨some 60, _, _, _, _, _⟩) (v := ?_) rfl (by kernel_rfl) (by kernel_rfl) (by kernel_rfl) (fun _ _ _ h => h) (Or.inl ⟨by kernel_rfl, ?_⟩) (by assumption) ?_
          rotate_left 1
          · (intro w hSw; (try dsimp only at hSw); go_simp) <;> (with_reducible rfl)
          (try simp only [Act.put, List.setIfInBounds_toArray, List.set_cons_succ, List.set_cons_zero])
          refine wpAnyH_take (i := 8) (oi := ⟨some 61, _, _, _, _, _⟩) (v := ?_) rfl (by kernel_rfl) (by kernel_rfl) (by kernel_rfl) (fun _ _ _ h => h) (Or.inl ⟨by kernel_rfl, ?_⟩) (by assumption) ?_
          rotate_left 1
          · (intro w hSw; (try dsimp only at hSw); go_simp) <;> (with_reducible rfl)
          (try simp only [Act.put, List.setIfInBounds_toArray, List.set_cons_succ, List.set_cons_zero])
          refine wpAnyH_take (i := 9) (oi := ⟨some 62, _, _, _, _, _⟩) (v := ?_) rfl (by kernel_rfl) (by kernel_rfl) (by kernel_rfl) (fun _ _ _ h => h) (Or.inl ⟨by kernel_rfl, ?_⟩) (by assumption) ?_
          rotate_left 1
          · (intro w hSw; (try dsimp only at hSw); go_simp) <;> (with_reducible rfl)
          (try simp only [Act.put, List.setIfInBounds_toArray, List.set_cons_succ, List.set_cons_zero])
          refine wpAnyH_take (i := 10) (oi := ⟨some 63, _, _, _, _, _⟩) (v := ?_) rfl (by kernel_rfl) (by kernel_rfl) (by kernel_rfl) (fun _ _ _ h => h) (Or.inl ⟨by kernel_rfl, ?_⟩) (by assumption) ?_
          rotate_left 1
          · (intro w hSw; (try dsimp only at hSw); go_simp) <;> (with_reducible rfl)
          (try simp only [Act.put, List.setIfInBounds_toArray, List.set_cons_succ, List.set_cons_zero])
          refine wpAnyH_ready (rs := [11, 15]) (by kernel_rfl) (by simp) ?_
          refine AllReadyH.cons (o := ⟨some 64, _, _, _, _, _⟩) rfl (fun K' hK => ?_) ?_
          · go_simp
            refine (FR.out _ KK.out).mono ?_
            rintro e wf ⟨q2, vf, Lf, rfl, of, hbf, zg⟩
            obtain rfl : q = q2 := (zg.ok rfl).1.symm
            have VF := hide (zg.ok rfl).2.1
            have SF := hide (zg.ok rfl).2.2
            have OF := hide (of.mono (Nat.le_trans K.out.size KK.out.size))
            replace KK := hide (btrans KK.out hbf)
            clear hbf of zg
            refine hK.out _ _ ?_ (fun hHeld => ?_)
            · exact CE.out _ KK.out
            clear hK K'
            (try simp only [Act.put, List.setIfInBounds_toArray, List.set_cons_succ, List.set_cons_zero])
            refine wpAnyH_take (i := 12) (oi := ⟨some 52, _, _, _, _, _⟩) (v := ?_) rfl (by kernel_rfl) (by kernel_rfl) (by kernel_rfl) (fun _ _ _ h => h) (Or.inl ⟨by kernel_rfl, ?_⟩) (by assumption) ?_
            rotate_left 1
            · (intro w hSw; (try dsimp only at hSw); go_simp) <;> (with_reducible rfl)
            (try simp only [Act.put, List.setIfInBounds_toArray, List.set_cons_succ, List.set_cons_zero])
            refine wpAnyH_take (i := 13) (oi := ⟨some 65, _, _, _, _, _⟩) (v := ?_) rfl (by kernel_rfl) (by kernel_rfl) (by kernel_rfl) (fun _ _ _ h => h) (Or.inl ⟨by kernel_rfl, ?_⟩) (by assumption) ?_
            rotate_left 1
            · (intro w hSw; (try dsimp only at hSw); go_simp) <;> (with_reducible rfl)
            (try simp only [Act.put, List.setIfInBounds_toArray, List.set_cons_succ, List.set_cons_zero])
            refine wpAnyH_take (i := 14) (oi := ⟨some 66, _, _, _, _, _⟩) (v := ?_) rfl (by kernel_rfl) (by kernel_rfl) (by kernel_rfl) (fun _ _ _ h => h) (Or.inl ⟨by kernel_rfl, ?_⟩) (by assumption) ?_
            rotate_left 1
            · (intro w hSw; (try dsimp only at hSw); go_simp) <;> (with_reducible rfl)
            (try simp only [Act.put, List.setIfInBounds_toArray, List.set_cons_succ, List.set_cons_zero])
            refine wpAnyH_ready (rs := [15]) (by kernel_rfl) (by simp) ?_
            refine AllReadyH.cons (o := ⟨some 15, _, _, _, _, _⟩) rfl (fun K' hK => ?_) AllReadyH.nil
            go_simp
            rw [znC0]
            have CB := hide (Box.new wf 25 (znC p0 nv))
            have HSZ : w4.heap.size ≤ wf.heap.size := KK.out.size
            replace OF := hide (OF.out.below (bal (brefl _) (.cells (znC p0 nv) 25)))
            replace KK := hide (bal KK.out (.cells (znC p0 nv) 25))
            obtain ⟨cb, hcb⟩ : ∃ cb, cb = wf.heap.size := ⟨_, rfl⟩
            have HCB := hide (show w4.heap.size ≤ cb by rw [hcb]; exact HSZ)
            rw [← hcb] at CB ⊢
            clear hcb HSZ
            generalize wf.alloc (.cells (znC p0 nv) 25) = we at *
            refine hK.out _ _ ?_ (fun hHeld => ?_)
            · exact CE.out _ KK.out
            clear hK K'
            (try simp only [Act.put, List.setIfInBounds_toArray, List.set_cons_succ, List.set_cons_zero])
            refine wpAnyH_ready (rs := [16]) (by kernel_rfl) (by simp) ?_
            refine AllReadyH.cons (o := ⟨none, _, _, _, _, _⟩) rfl (fun K' hK => ?_) AllReadyH.nil
            refine wp_store_row 25 _ _ rfl cb (znC q vf) rfl rfl 25 (znC p0 nv) CB.out (by kernel_rfl) rfl (one_zone OF.out.rd) ?_
            have KS := kp_row (B := w4.heap.size) (cs := znC q vf) CB.out HCB.out
            have CB2 := hide (box_row (cs := znC q vf) CB.out)
            replace OF := hide (OF.out.kp KS (by decide))
            replace KK := hide (KK.out.trans KS.below)
            clear KS CB
            generalize we.setRow cb (znC q vf) = wg at *
            refine hK.out _ _ ?_ (fun hHeld => ?_)
            · exact CE.out _ KK.out
            clear hK K'
            (try simp only [Act.put, List.setIfInBounds_toArray, List.set_cons_succ, List.set_cons_zero])
            refine wpAnyH_take (i := 17) (oi := ⟨some 16, _, _, _, _, _⟩) (v := ?_) rfl (by kernel_rfl) (by kernel_rfl) (by kernel_rfl) (fun _ _ _ h => h) (Or.inl ⟨by kernel_rfl, ?_⟩) (by assumption) ?_
            rotate_left 1
            · (intro w hSw; (try dsimp only at hSw); go_simp) <;> (with_reducible rfl)
            (try simp only [Act.put, List.setIfInBounds_toArray, List.set_cons_succ, List.set_cons_zero])
            refine wpAnyH_done (by kernel_rfl) ?_ _
            refine NoPanic.normal ?_
            have XG := hide hHeld.1
            replace Y := hide (Y.out.below KK.out)
            replace OH := hide (row_below OH.out KK.out)
            replace K := hide (K.out.trans (KK.out.mono K.out.size))
            clear hHeld CE FR KK X OZ H0 H1 HGL
            go_upto_region 15 with (first | (refine wpList_load_row rfl 25 _ rfl cb rfl 25 (znC q vf) (0, 0) _ CB2.out Try.underlying25 rfl (by kernel_rfl) ?_) | (refine wpList_store_row rfl 25 _ _ rfl g1 (znC q vf) rfl rfl 25 (znC q v) XG.out (by kernel_rfl) rfl (one_zone OF.out.rd) ?_))
            have KS := kp_row (B := w.heap.size) (cs := znC q vf) XG.out (Nat.le_of_lt NE.out)
            have X2 := hide (box_row (cs := znC q vf) XG.out)
            replace Y := hide (box_row_far (cs := znC q vf) Y.out (show w.heap.size ≠ g1 by have := NE.out; omega))
            replace OF := hide (OF.out.kp KS (by decide))
            replace OH := hide (row_kp OH.out KS (by decide))
            replace K := hide (K.out.trans KS.below)
            clear KS XG CB2
            generalize wg.setRow g1 (znC q vf) = wh at *
            have hcap : H.length ≤ d := by
              obtain ⟨A9, c9, e9, h9⟩ := row_form OH.out
              injection e9 with _ _ e9
              rw [e9]; exact h9
            obtain ⟨gx, ex, hgl, hgB, _⟩ := row_cell OH.out (show H.length ≠ 0 by omega)
            injection ex with ex; injection ex with ex; subst ex
            have KD := below_drewN (brefl wh) 1
            replace X2 := hide (show Box wh.drew g1 25 (znC q vf) from X2.out.below KD)
            replace Y := hide (show Box wh.drew w.heap.size 25 (znC p0 nv) from Y.out.below KD)
            replace OF := hide (show OwZ w.heap.size wh.drew vf Lf from OF.out.below KD)
            replace OH := hide (show OwH w.heap.size wh.drew (.slice (some ⟨gh, 0, none⟩) H.length d) H from row_below OH.out KD)
            replace K := hide (show Below w.heap.size w wh.drew from K.out.trans (KD.mono K.out.size))
            have HGL := hide (show gh < wh.drew.heap.size from Nat.lt_of_lt_of_le hgl KD.size)
            have hi1 : (i : Int) + 1 ≤ (H.length : Int) := by omega
            have hi2 : IntKind.i64.wrap ((i : Int) + 1) = (i : Int) + 1 := IntWalk.i64_in _ (by have := HLE.out; omega)
            have hi3 : (H.length : Int) ≤ (d : Int) := by omega
            have hi4 : (i : Int) ≤ (H.length : Int) := by omega
            have hi5 : (0 : Int) ≤ (i : Int) + 1 := by omega
            have hn1 : i ≤ d := by omega
            have hn2 : i + 1 ≤ H.length := by omega
            have hn3 : H.length ≤ d := hcap
            have hn4 : i + 1 ≤ d := by omega
            obtain ⟨ad, hif, hnews⟩ : ∃ ad : Addr, (if d = i + 1 then some (⟨gh, 0, none⟩ : Addr) else some ⟨gh, (i + 1) * 2, none⟩) = some ad ∧ ∀ W : World, (∀ j u, (hcs H)[j]? = some u → W.cell? ⟨gh, j, none⟩ = some u) → ∀ j u, (hcs (H.drop (i + 1)))[j]? = some u → W.cell? (ad.add j) = some u := by
              by_cases e : d = i + 1
              · refine ⟨_, if_pos e, fun W hW j u hj => ?_⟩
                rw [List.drop_eq_nil_of_le (by omega)] at hj
                simp [hcs] at hj
              · refine ⟨_, if_neg e, fun W hW j u hj => ?_⟩
                rw [hcs_drop, List.getElem?_drop] at hj
                have ea : (⟨gh, (i + 1) * 2, none⟩ : Addr).add j = ⟨gh, (i + 1) * 2 + j, none⟩ := by unfold Addr.add; by_cases h : j = 0 <;> simp [h]
                rw [ea]
                exact hW _ _ hj
            have HNW := hide hnews
            clear KD hgl hgB hcap hnews
            refine wp_region_noPanic ?_
            refine wp_region_held_drew (S := (fun _ => True)) (by kernel_rfl) ?_ (fun hHeld => ?_)
            · trivial
            generalize wh.drew = wi at *
            refine wpAnyH_take (i := 1) (oi := ⟨some 72, _, _, _, _, _⟩) (v := ?_) rfl (by kernel_rfl) (by kernel_rfl) (by kernel_rfl) (fun _ _ _ h => h) (Or.inl ⟨by kernel_rfl, ?_⟩) (by assumption) ?_
            rotate_left 1
            · (intro w hSw; (try dsimp only at hSw); go_simp) <;> (with_reducible rfl)
            (try simp only [Act.put, List.setIfInBounds_toArray, List.set_cons_succ, List.set_cons_zero])
            refine wpAnyH_take (i := 2) (oi := ⟨some 73, _, _, _, _, _⟩) (v := ?_) rfl (by kernel_rfl) (by kernel_rfl) (by kernel_rfl) (fun _ _ _ h => h) (Or.inl ⟨by kernel_rfl, ?_⟩) (by assumption) ?_
            rotate_left 1
            · (intro w hSw; (try dsimp only at hSw); go_simp) <;> (with_reducible rfl)
            (try simp only [Act.put, List.setIfInBounds_toArray, List.set_cons_succ, List.set_cons_zero])
            refine wpAnyH_take (i := 3) (oi := ⟨some 74, _, _, _, _, _⟩) (v := ?_) rfl (by kernel_rfl) (by kernel_rfl) (by kernel_rfl) (fun _ _ _ h => h) (Or.inl ⟨by kernel_rfl, ?_⟩) (by assumption) ?_
            rotate_left 1
            · (intro w hSw; (try dsimp only at hSw); go_simp) <;> (with_reducible rfl)
            (try simp only [Act.put, List.setIfInBounds_toArray, List.set_cons_succ, List.set_cons_zero])
            refine wpAnyH_take (i := 5) (oi := ⟨some 76, _, _, _, _, _⟩) (v := ?_) rfl (by kernel_rfl) (by kernel_rfl) (by kernel_rfl) (fun _ _ _ h => h) (Or.inl ⟨by kernel_rfl, ?_⟩) (by assumption) ?_
            rotate_left 1
            · (intro w hSw; (try dsimp only at hSw); go_simp) <;> (with_reducible rfl)
            (try simp only [Act.put, List.setIfInBounds_toArray, List.set_cons_succ, List.set_cons_zero])
            refine wpAnyH_take (i := 6) (oi := ⟨some 77, _, _, _, _, _⟩) (v := ?_) rfl (by kernel_rfl) (by kernel_rfl) (by kernel_rfl) (fun _ _ _ h => h) (Or.inl ⟨by kernel_rfl, ?_⟩) (by assumption) ?_
            rotate_left 1
            · (intro w hSw; (try dsimp only at hSw); go_simp) <;> (with_reducible rfl)
            (try simp only [Act.put, List.setIfInBounds_toArray, List.set_cons_succ, List.set_cons_zero])
            refine wpAnyH_take (i := 7) (oi := ⟨some 78, _, _, _, _, _⟩) (v := ?_) rfl (by kernel_rfl) (by kernel_rfl) (by kernel_rfl) (fun _ _ _ h => h) (Or.inl ⟨by kernel_rfl, ?_⟩) (by assumption) ?_
            rotate_left 1
            · (intro w hSw; (try dsimp only at hSw); go_simp) <;> (with_reducible rfl)
            (try simp only [Act.put, List.setIfInBounds_toArray, List.set_cons_succ, List.set_cons_zero])
            refine wpAnyH_take (i := 8) (oi := ⟨some 79, _, _, _, _, _⟩) (v := ?_) rfl (by kernel_rfl) (by kernel_rfl) (by kernel_rfl) (fun _ _ _ h => h) (Or.inl ⟨by kernel_rfl, ?_⟩) (by assumption) ?_
            rotate_left 1
            · (intro w hSw; (try dsimp only at hSw); go_simp) <;> (with_reducible rfl)
            (try simp only [Act.put, List.setIfInBounds_toArray, List.set_cons_succ, List.set_cons_zero])
            refine wpAnyH_ready (rs := [0]) (by kernel_rfl) (by simp) ?_
            refine AllReadyH.cons (o := _) rfl (fun K' hK => ?_) AllReadyH.nil
            go_simp
            have M := bal (brefl wi) (.cells #[] 55)
            have EW := hide (show (wi.alloc (.cells #[] 55)).ownsRow w.heap.size 55 2 (.slice (some ⟨wi.heap.size, 0, none⟩) 0 0) 0 [] from row_mono (World.ownsRow_made wi #[] 0 (Nat.le_refl _) (Nat.zero_le _) (by simp)) K.out.size)
            replace X2 := hide (X2.out.below M)
            replace Y := hide (Y.out.below M)
            replace OF := hide (OF.out.below M)
            replace OH := hide (row_below OH.out M)
            replace K := hide (K.out.trans (M.mono K.out.size))
            have NEG := hide (show gh ≠ wi.heap.size from Nat.ne_of_lt HGL.out)
            obtain ⟨ge, hge⟩ : ∃ ge, ge = wi.heap.size := ⟨_, rfl⟩
            rw [← hge] at EW NEG ⊢
            clear hge M HGL
            generalize wi.alloc (.cells #[] 55) = wj at *
            refine hK.out _ _ ?_ (fun hHeld => ?_)
            · trivial
            clear hK K'
            (try simp only [Act.put, List.setIfInBounds_toArray, List.set_cons_succ, List.set_cons_zero])
            refine wpAnyH_ready (rs := [4]) (by kernel_rfl) (by simp) ?_
            refine AllReadyH.cons (o := _) rfl (fun K' hK => ?_) AllReadyH.nil
            obtain ⟨i0, hi0, hz0, hz1, hz2⟩ := info_parts info55
            refine wp_append_own _ (.tmp 71) (.tmp 74) 46 rfl w.heap.size 55 i0 _ 2 16 Try.underlying46 hi0 hz0 hz1 hz2 rfl (by omega) (.slice (some ⟨ge, 0, none⟩) 0 0) 0 [] rfl EW.out ⟨gh, 0, none⟩ i d (hcs (H.take i)) rfl (by rw [hcs_length, List.length_take, Nat.min_eq_left (by omega)]) (OwH.some OH.out (by omega)) (fun u hu => hcs_one _ u hu) (by simp only [maxLen]; have := HLE.out; omega) (by have := HLE.out; omega) K.out.size ?_
            intro v4 wk hown4 hg4 _
            obtain ⟨A4, c4, rfl, _⟩ := row_form hown4
            have KG := Kp.grown (B := w.heap.size) EW.out hg4 (Nat.le_refl _) K.out.size
            replace X2 := hide (X2.out.kp KG (by decide))
            replace Y := hide (Y.out.kp KG (by decide))
            replace OF := hide (OF.out.kp KG (by decide))
            replace K := hide (K.out.trans KG.below)
            replace OH := hide (OH.out.kept hg4 (.inr (fun e => NEG.out (by simpa [Value.ownBlock] using e))))
            have E4 := hide hown4
            clear EW KG hown4 hg4 NEG
            refine hK.out _ _ ?_ (fun hHeld => ?_)
            · trivial
            clear hK K'
            (try simp only [Act.put, List.setIfInBounds_toArray, List.set_cons_succ, List.set_cons_zero])
            refine wpAnyH_ready (rs := [9]) (by kernel_rfl) (by simp) ?_
            refine AllReadyH.cons (o := _) rfl (fun K' hK => ?_) AllReadyH.nil
            refine wp_append_own _ (.tmp 75) (.tmp 79) 46 rfl w.heap.size 55 i0 _ 2 16 Try.underlying46 hi0 hz0 hz1 hz2 rfl (by omega) (.slice A4 (0 + i) c4) (0 + i) ([] ++ hcs (H.take i)) rfl E4.out ad (H.length - (i + 1)) (d - (i + 1)) (hcs (H.drop (i + 1))) rfl (by rw [hcs_length, List.length_drop]) (HNW.out _ (OwH.all OH.out (by omega))) (fun u hu => hcs_one _ u hu) (by simp only [maxLen]; have := HLE.out; omega) (by have := HLE.out; omega) K.out.size ?_
            intro v5 wl hown5 hg5 _
            obtain ⟨A5, c5, rfl, _⟩ := row_form hown5
            have KG := Kp.grown (B := w.heap.size) E4.out hg5 (Nat.le_refl _) K.out.size
            replace X2 := hide (X2.out.kp KG (by decide))
            replace Y := hide (Y.out.kp KG (by decide))
            replace OF := hide (OF.out.kp KG (by decide))
            replace K := hide (K.out.trans KG.below)
            have hl5 : 0 + i + (H.length - (i + 1)) = (H.take i ++ H.drop (i + 1)).length := by rw [List.length_append, List.length_take, List.length_drop, Nat.min_eq_left (by omega)]; omega
            have hl6 := hide (show (H.take i ++ H.drop (i + 1)).length ≤ k by rw [← hl5]; omega)
            rw [List.nil_append, ← hcs_append, hl5] at hown5
            rw [hl5]
            have OH5 := hide hown5
            clear E4 KG hown5 hg5 OH hl5 hz0 hz1 hz2 hi0
            have D5 := hide (Hd.give (L2 := Lf) (by rw [← hsp.out]; exact DD.out) (fun x => by rw [SF.out x, Int.toNat_natCast]))
            generalize H.take i ++ H.drop (i + 1) = H5 at *
            refine hK.out _ _ ?_ (fun hHeld => ?_)
            · trivial
            clear hK K'
            (try simp only [Act.put, List.setIfInBounds_toArray, List.set_cons_succ, List.set_cons_zero])
            refine wpAnyH_take (i := 10) (oi := ⟨some 11, _, _, _, _, _⟩) (v := ?_) rfl (by kernel_rfl) (by kernel_rfl) (by kernel_rfl) (fun _ _ _ h => h) (Or.inl ⟨by kernel_rfl, ?_⟩) (by assumption) ?_
            rotate_left 1
            · (intro w hSw; (try dsimp only at hSw); go_simp) <;> (with_reducible rfl)
            (try simp only [Act.put, List.setIfInBounds_toArray, List.set_cons_succ, List.set_cons_zero])
            refine wpAnyH_done (by kernel_rfl) ?_ _
            refine NoPanic.normal ?_
            go_wp2
            go_roundw
            case rel => exact ⟨k + 1, vf, Lf, H5, A5, c5, by omega, by go_num, rfl, by have := hl6.out; omega, X2, Y, OF, OH5, VF, D5, K⟩
            case measure => simp [intOf]; omega
          refine AllReadyH.cons (o := ⟨some 15, _, _, _, _, _⟩) rfl (fun K' hK => ?_) AllReadyH.nil
          go_simp
          rw [znC0]
          have CB := hide (Box.new w4 25 (znC p0 nv))
          have HSZ : w4.heap.size ≤ w4.heap.size := KK.out.size
          replace KK := hide (bal KK.out (.cells (znC p0 nv) 25))
          obtain ⟨cb, hcb⟩ : ∃ cb, cb = w4.heap.size := ⟨_, rfl⟩
          have HCB := hide (show w4.heap.size ≤ cb by rw [hcb]; exact HSZ)
          rw [← hcb] at CB ⊢
          clear hcb HSZ
          generalize w4.alloc (.cells (znC p0 nv) 25) = we at *
          refine hK.out _ _ ?_ (fun hHeld => ?_)
          · exact CE.out _ KK.out
          clear hK K'
          (try simp only [Act.put, List.setIfInBounds_toArray, List.set_cons_succ, List.set_cons_zero])
          refine wpAnyH_ready (rs := [11]) (by kernel_rfl) (by simp) ?_
          refine AllReadyH.cons (o := ⟨some 64, _, _, _, _, _⟩) rfl (fun K' hK => ?_) AllReadyH.nil
          go_simp
          refine (FR.out _ KK.out).mono ?_
          rintro e wf ⟨q2, vf, Lf, rfl, of, hbf, zg⟩
          obtain rfl : q = q2 := (zg.ok rfl).1.symm
          have VF := hide (zg.ok rfl).2.1
          have SF := hide (zg.ok rfl).2.2
          have OF := hide (of.mono (Nat.le_trans K.out.size KK.out.size))
          replace CB := hide (CB.out.below hbf)
          replace KK := hide (btrans KK.out hbf)
          clear hbf of zg
          refine hK.out _ _ ?_ (fun hHeld => ?_)
          · exact CE.out _ KK.out
          clear hK K'
          (try simp only [Act.put, List.setIfInBounds_toArray, List.set_cons_succ, List.set_cons_zero])
          refine wpAnyH_take (i := 12) (oi := ⟨some 52, _, _, _, _, _⟩) (v := ?_) rfl (by kernel_rfl) (by kernel_rfl) (by kernel_rfl) (fun _ _ _ h => h) (Or.inl ⟨by kernel_rfl, ?_⟩) (by assumption) ?_
          rotate_left 1
          · (intro w hSw; (try dsimp only at hSw); go_simp) <;> (with_reducible rfl)
          (try simp only [Act.put, List.setIfInBounds_toArray, List.set_cons_succ, List.set_cons_zero])
          refine wpAnyH_take (i := 13) (oi := ⟨some 65, _, _, _, _, _⟩) (v := ?_) rfl (by kernel_rfl) (by kernel_rfl) (by kernel_rfl) (fun _ _ _ h => h) (Or.inl ⟨by kernel_rfl, ?_⟩) (by assumption) ?_
          rotate_left 1
          · (intro w hSw; (try dsimp only at hSw); go_simp) <;> (with_reducible rfl)
          (try simp only [Act.put, List.setIfInBounds_toArray, List.set_cons_succ, List.set_cons_zero])
          refine wpAnyH_take (i := 14) (oi := ⟨some 66, _, _, _, _, _⟩) (v := ?_) rfl (by kernel_rfl) (by kernel_rfl) (by kernel_rfl) (fun _ _ _ h => h) (Or.inl ⟨by kernel_rfl, ?_⟩) (by assumption) ?_
          rotate_left 1
          · (intro w hSw; (try dsimp only at hSw); go_simp) <;> (with_reducible rfl)
          (try simp only [Act.put, List.setIfInBounds_toArray, List.set_cons_succ, List.set_cons_zero])
          refine wpAnyH_ready (rs := [16]) (by kernel_rfl) (by simp) ?_
          refine AllReadyH.cons (o := ⟨none, _, _, _, _, _⟩) rfl (fun K' hK => ?_) AllReadyH.nil
          refine wp_store_row 25 _ _ rfl cb (znC q vf) rfl rfl 25 (znC p0 nv) CB.out (by kernel_rfl) rfl (one_zone OF.out.rd) ?_
          have KS := kp_row (B := w4.heap.size) (cs := znC q vf) CB.out HCB.out
          have CB2 := hide (box_row (cs := znC q vf) CB.out)
          replace OF := hide (OF.out.kp KS (by decide))
          replace KK := hide (KK.out.trans KS.below)
          clear KS CB
          generalize wf.setRow cb (znC q vf) = wg at *
          refine hK.out _ _ ?_ (fun hHeld => ?_)
          · exact CE.out _ KK.out
          clear hK K'
          (try simp only [Act.put, List.setIfInBounds_toArray, List.set_cons_succ, List.set_cons_zero])
          refine wpAnyH_take (i := 17) (oi := ⟨some 16, _, _, _, _, _⟩) (v := ?_) rfl (by kernel_rfl) (by kernel_rfl) (by kernel_rfl) (fun _ _ _ h => h) (Or.inl ⟨by kernel_rfl, ?_⟩) (by assumption) ?_
          rotate_left 1
          · (intro w hSw; (try dsimp only at hSw); go_simp) <;> (with_reducible rfl)
          (try simp only [Act.put, List.setIfInBounds_toArray, List.set_cons_succ, List.set_cons_zero])
          refine wpAnyH_done (by kernel_rfl) ?_ _
          refine NoPanic.normal ?_
          have XG := hide hHeld.1
          replace Y := hide (Y.out.below KK.out)
          replace OH := hide (row_below OH.out KK.out)
          replace K := hide (K.out.trans (KK.out.mono K.out.size))
          clear hHeld CE FR KK X OZ H0 H1 HGL
          go_upto_region 15 with (first | (refine wpList_load_row rfl 25 _ rfl cb rfl 25 (znC q vf) (0, 0) _ CB2.out Try.underlying25 rfl (by kernel_rfl) ?_) | (refine wpList_store_row rfl 25 _ _ rfl g1 (znC q vf) rfl rfl 25 (znC q v) XG.out (by kernel_rfl) rfl (one_zone OF.out.rd) ?_))
          have KS := kp_row (B := w.heap.size) (cs := znC q vf) XG.out (Nat.le_of_lt NE.out)
          have X2 := hide (box_row (cs := znC q vf) XG.out)
          replace Y := hide (box_row_far (cs := znC q vf) Y.out (show w.heap.size ≠ g1 by have := NE.out; omega))
          replace OF := hide (OF.out.kp KS (by decide))
          replace OH := hide (row_kp OH.out KS (by decide))
          replace K := hide (K.out.trans KS.below)
          clear KS XG CB2
          generalize wg.setRow g1 (znC q vf) = wh at *
          have hcap : H.length ≤ d := by
            obtain ⟨A9, c9, e9, h9⟩ := row_form OH.out
            injection e9 with _ _ e9
            rw [e9]; exact h9
          obtain ⟨gx, ex, hgl, hgB, _⟩ := row_cell OH.out (show H.length ≠ 0 by omega)
          injection ex with ex; injection ex with ex; subst ex
          have KD := below_drewN (brefl wh) 1
          replace X2 := hide (show Box wh.drew g1 25 (znC q vf) from X2.out.below KD)
          replace Y := hide (show Box wh.drew w.heap.size 25 (znC p0 nv) from Y.out.below KD)
          replace OF := hide (show OwZ w.heap.size wh.drew vf Lf from OF.out.below KD)
          replace OH := hide (show OwH w.heap.size wh.drew (.slice (some ⟨gh, 0, none⟩) H.length d) H from row_below OH.out KD)
          replace K := hide (show Below w.heap.size w wh.drew from K.out.trans (KD.mono K.out.size))
          have HGL := hide (show gh < wh.drew.heap.size from Nat.lt_of_lt_of_le hgl KD.size)
          have hi1 : (i : Int) + 1 ≤ (H.length : Int) := by omega
          have hi2 : IntKind.i64.wrap ((i : Int) + 1) = (i : Int) + 1 := IntWalk.i64_in _ (by have := HLE.out; omega)
          have hi3 : (H.length : Int) ≤ (d : Int) := by omega
          have hi4 : (i : Int) ≤ (H.length : Int) := by omega
          have hi5 : (0 : Int) ≤ (i : Int) + 1 := by omega
          have hn1 : i ≤ d := by omega
          have hn2 : i + 1 ≤ H.length := by omega
          have hn3 : H.length ≤ d := hcap
          have hn4 : i + 1 ≤ d := by omega
          obtain ⟨ad, hif, hnews⟩ : ∃ ad : Addr, (if d = i + 1 then some (⟨gh, 0, none⟩ : Addr) else some ⟨gh, (i + 1) * 2, none⟩) = some ad ∧ ∀ W : World, (∀ j u, (hcs H)[j]? = some u → W.cell? ⟨gh, j, none⟩ = some u) → ∀ j u, (hcs (H.drop (i + 1)))[j]? = some u → W.cell? (ad.add j) = some u := by
            by_cases e : d = i + 1
            · refine ⟨_, if_pos e, fun W hW j u hj => ?_⟩
              rw [List.drop_eq_nil_of_le (by omega)] at hj
              simp [hcs] at hj
            · refine ⟨_, if_neg e, fun W hW j u hj => ?_⟩
              rw [hcs_drop, List.getElem?_drop] at hj
              have ea : (⟨gh, (i + 1) * 2, none⟩ : Addr).add j = ⟨gh, (i + 1) * 2 + j, none⟩ := by unfold Addr.add; by_cases h : j = 0 <;> simp [h]
              rw [ea]
              exact hW _ _ hj
          have HNW := hide hnews
          clear KD hgl hgB hcap hnews
          refine wp_region_noPanic ?_
          refine wp_region_held_drew (S := (fun _ => True)) (by kernel_rfl) ?_ (fun hHeld => ?_)
          · trivial
          generalize wh.drew = wi at *
          refine wpAnyH_take (i := 1) (oi := ⟨some 72, _, _, _, _, _⟩) (v := ?_) rfl (by kernel_rfl) (by kernel_rfl) (by kernel_rfl) (fun _ _ _ h => h) (Or.inl ⟨by kernel_rfl, ?_⟩) (by assumption) ?_
          rotate_left 1
          · (intro w hSw; (try dsimp only at hSw); go_simp) <;> (with_reducible rfl)
          (try simp only [Act.put, List.setIfInBounds_toArray, List.set_cons_succ, List.set_cons_zero])
          refine wpAnyH_take (i := 2) (oi := ⟨some 73, _, _, _, _, _⟩) (v := ?_) rfl (by kernel_rfl) (by kernel_rfl) (by kernel_rfl) (fun _ _ _ h => h) (Or.inl ⟨by kernel_rfl, ?_⟩) (by assumption) ?_
          rotate_left 1
          · (intro w hSw; (try dsimp only at hSw); go_simp) <;> (with_reducible rfl)
          (try simp only [Act.put, List.setIfInBounds_toArray, List.set_cons_succ, List.set_cons_zero])
          refine wpAnyH_take (i := 3) (oi := ⟨some 74, _, _, _, _, _⟩) (v := ?_) rfl (by kernel_rfl) (by kernel_rfl) (by kernel_rfl) (fun _ _ _ h => h) (Or.inl ⟨by kernel_rfl, ?_⟩) (by assumption) ?_
          rotate_left 1
          · (intro w hSw; (try dsimp only at hSw); go_simp) <;> (with_reducible rfl)
          (try simp only [Act.put, List.setIfInBounds_toArray, List.set_cons_succ, List.set_cons_zero])
          refine wpAnyH_take (i := 5) (oi := ⟨some 76, _, _, _, _, _⟩) (v := ?_) rfl (by kernel_rfl) (by kernel_rfl) (by kernel_rfl) (fun _ _ _ h => h) (Or.inl ⟨by kernel_rfl, ?_⟩) (by assumption) ?_
          rotate_left 1
          · (intro w hSw; (try dsimp only at hSw); go_simp) <;> (with_reducible rfl)
          (try simp only [Act.put, List.setIfInBounds_toArray, List.set_cons_succ, List.set_cons_zero])
          refine wpAnyH_take (i := 6) (oi := ⟨some 77, _, _, _, _, _⟩) (v := ?_) rfl (by kernel_rfl) (by kernel_rfl) (by kernel_rfl) (fun _ _ _ h => h) (Or.inl ⟨by kernel_rfl, ?_⟩) (by assumption) ?_
          rotate_left 1
          · (intro w hSw; (try dsimp only at hSw); go_simp) <;> (with_reducible rfl)
          (try simp only [Act.put, List.setIfInBounds_toArray, List.set_cons_succ, List.set_cons_zero])
          refine wpAnyH_take (i := 7) (oi := ⟨some 78, _, _, _, _, _⟩) (v := ?_) rfl (by kernel_rfl) (by kernel_rfl) (by kernel_rfl) (fun _ _ _ h => h) (Or.inl ⟨by kernel_rfl, ?_⟩) (by assumption) ?_
          rotate_left 1
          · (intro w hSw; (try dsimp only at hSw); go_simp) <;> (with_reducible rfl)
          (try simp only [Act.put, List.setIfInBounds_toArray, List.set_cons_succ, List.set_cons_zero])
          refine wpAnyH_take (i := 8) (oi := ⟨some 79, _, _, _, _, _⟩) (v := ?_) rfl (by kernel_rfl) (by kernel_rfl) (by kernel_rfl) (fun _ _ _ h => h) (Or.inl ⟨by kernel_rfl, ?_⟩) (by assumption) ?_
          rotate_left 1
          · (intro w hSw; (try dsimp only at hSw); go_simp) <;> (with_reducible rfl)
          (try simp only [Act.put, List.setIfInBounds_toArray, List.set_cons_succ, List.set_cons_zero])
          refine wpAnyH_ready (rs := [0]) (by kernel_rfl) (by simp) ?_
          refine AllReadyH.cons (o := _) rfl (fun K' hK => ?_) AllReadyH.nil
          go_simp
          have M := bal (brefl wi) (.cells #[] 55)
          have EW := hide (show (wi.alloc (.cells #[] 55)).ownsRow w.heap.size 55 2 (.slice (some ⟨wi.heap.size, 0, none⟩) 0 0) 0 [] from row_mono (World.ownsRow_made wi #[] 0 (Nat.le_refl _) (Nat.zero_le _) (by simp)) K.out.size)
          replace X2 := hide (X2.out.below M)
          replace Y := hide (Y.out.below M)
          replace OF := hide (OF.out.below M)
          replace OH := hide (row_below OH.out M)
          replace K := hide (K.out.trans (M.mono K.out.size))
          have NEG := hide (show gh ≠ wi.heap.size from Nat.ne_of_lt HGL.out)
          obtain ⟨ge, hge⟩ : ∃ ge, ge = wi.heap.size := ⟨_, rfl⟩
          rw [← hge] at EW NEG ⊢
          clear hge M HGL
          generalize wi.alloc (.cells #[] 55) = wj at *
          refine hK.out _ _ ?_ (fun hHeld => ?_)
          · trivial
          clear hK K'
          (try simp only [Act.put, List.setIfInBounds_toArray, List.set_cons_succ, List.set_cons_zero])
          refine wpAnyH_ready (rs := [4]) (by kernel_rfl) (by simp) ?_
          refine AllReadyH.cons (o := _) rfl (fun K' hK => ?_) AllReadyH.nil
          obtain ⟨i0, hi0, hz0, hz1, hz2⟩ := info_parts info55
          refine wp_append_own _ (.tmp 71) (.tmp 74) 46 rfl w.heap.size 55 i0 _ 2 16 Try.underlying46 hi0 hz0 hz1 hz2 rfl (by omega) (.slice (some ⟨ge, 0, none⟩) 0 0) 0 [] rfl EW.out ⟨gh, 0, none⟩ i d (hcs (H.take i)) rfl (by rw [hcs_length, List.length_take, Nat.min_eq_left (by omega)]) (OwH.some OH.out (by omega)) (fun u hu => hcs_one _ u hu) (by simp only [maxLen]; have := HLE.out; omega) (by have := HLE.out; omega) K.out.size ?_
          intro v4 wk hown4 hg4 _
          obtain ⟨A4, c4, rfl, _⟩ := row_form hown4
          have KG := Kp.grown (B := w.heap.size) EW.out hg4 (Nat.le_refl _) K.out.size
          replace X2 := hide (X2.out.kp KG (by decide))
          replace Y := hide (Y.out.kp KG (by decide))
          replace OF := hide (OF.out.kp KG (by decide))
          replace K := hide (K.out.trans KG.below)
          replace OH := hide (OH.out.kept hg4 (.inr (fun e => NEG.out (by simpa [Value.ownBlock] using e))))
          have E4 := hide hown4
          clear EW KG hown4 hg4 NEG
          refine hK.out _ _ ?_ (fun hHeld => ?_)
          · trivial
          clear hK K'
          (try simp only [Act.put, List.setIfInBounds_toArray, List.set_cons_succ, List.set_cons_zero])
          refine wpAnyH_ready (rs := [9]) (by kernel_rfl) (by simp) ?_
          refine AllReadyH.cons (o := _) rfl (fun K' hK => ?_) AllReadyH.nil
          refine wp_append_own _ (.tmp 75) (.tmp 79) 46 rfl w.heap.size 55 i0 _ 2 16 Try.underlying46 hi0 hz0 hz1 hz2 rfl (by omega) (.slice A4 (0 + i) c4) (0 + i) ([] ++ hcs (H.take i)) rfl E4.out ad (H.length - (i + 1)) (d - (i + 1)) (hcs (H.drop (i + 1))) rfl (by rw [hcs_length, List.length_drop]) (HNW.out _ (OwH.all OH.out (by omega))) (fun u hu => hcs_one _ u hu) (by simp only [maxLen]; have := HLE.out; omega) (by have := HLE.out; omega) K.out.size ?_
          intro v5 wl hown5 hg5 _
          obtain ⟨A5, c5, rfl, _⟩ := row_form hown5
          have KG := Kp.grown (B := w.heap.size) E4.out hg5 (Nat.le_refl _) K.out.size
          replace X2 := hide (X2.out.kp KG (by decide))
          replace Y := hide (Y.out.kp KG (by decide))
          replace OF := hide (OF.out.kp KG (by decide))
          replace K := hide (K.out.trans KG.below)
          have hl5 : 0 + i + (H.length - (i + 1)) = (H.take i ++ H.drop (i + 1)).length := by rw [List.length_append, List.length_take, List.length_drop, Nat.min_eq_left (by omega)]; omega
          have hl6 := hide (show (H.take i ++ H.drop (i + 1)).length ≤ k by rw [← hl5]; omega)
          rw [List.nil_append, ← hcs_append, hl5] at hown5
          rw [hl5]
          have OH5 := hide hown5
          clear E4 KG hown5 hg5 OH hl5 hz0 hz1 hz2 hi0
          have D5 := hide (Hd.give (L2 := Lf) (by rw [← hsp.out]; exact DD.out) (fun x => by rw [SF.out x, Int.toNat_natCast]))
          generalize H.take i ++ H.drop (i + 1) = H5 at *
          refine hK.out _ _ ?_ (fun hHeld => ?_)
          · trivial
          clear hK K'
          (try simp only [Act.put, List.setIfInBounds_toArray, List.set_cons_succ, List.set_cons_zero])
          refine wpAnyH_take (i := 10) (oi := ⟨some 11, _, _, _, _, _⟩) (v := ?_) rfl (by kernel_rfl) (by kernel_rfl) (by kernel_rfl) (fun _ _ _ h => h) (Or.inl ⟨by kernel_rfl, ?_⟩) (by assumption) ?_
          rotate_left 1
          · (intro w hSw; (try dsimp only at hSw); go_simp) <;> (with_reducible rfl)
          (try simp only [Act.put, List.setIfInBounds_toArray, List.set_cons_succ, List.set_cons_zero])
          refine wpAnyH_done (by kernel_rfl) ?_ _
          refine NoPanic.normal ?_
          go_wp2
          go_roundw
          case rel => exact ⟨k + 1, vf, Lf, H5, A5, c5, by omega, by go_num, rfl, by have := hl6.out; omega, X2, Y, OF, OH5, VF, D5, K⟩
          case measure => simp [intOf]; omega
      | false =>
        clear y2
        obtain ⟨kk, hkk, hk5⟩ : ∃ kk : Nat, x1 % 5 = kk ∧ kk < 5 := ⟨(x1 % 5).toNat, by omega, by omega⟩
        have hkt : x1.tmod 5 = (kk : Int) := by rw [Int.tmod_eq_emod_of_nonneg hin.1.1, hkk]
        have hkw : wrap64 (x1.tmod 5) = (kk : Int) := by rw [hkt]; unfold wrap64; omega
        clear hkt
        have AL := hide (alloc_any q v L kk w3 (ZIn.of_vd HP.out VV.out.toLst OZ.out.rd))
        unfold ZE3 at AL
        go_upto_region 17 with fail
        clear hkw hkk
        have HLE := hide (show H.length ≤ 30 by have := HN.out; omega)
        have hat := al_two HP.out VV.out hk5
        have ASS := hide (show ∀ x, alS q L kk x ↔ InS L x ∧ dn kk x ≠ dn kk (alF q L kk) from fun x => by unfold alS; rw [Int.toNat_natCast])
        generalize alF q L kk = f at *
        rcases hat with e16 | ⟨e0, hbk, hfree⟩
        · rw [e16] at AL
          clear e16 hin ASS
          go_wp2_with (first | (refine wpList_load_row rfl 25 _ rfl g1 rfl 25 (znC q v) (0, 0) _ X.out Try.underlying25 rfl (by kernel_rfl) ?_) | fail)
          refine AL.out.mono ?_
          rintro e wf ⟨q2, vf, Lf, rfl, of, hbf, zg⟩
          obtain ⟨e1, e2⟩ := zg.no (by decide)
          subst e1 e2
          go_upto_region 18 with (refine wpList_store_row rfl 25 _ _ rfl wf.heap.size (znC p0 vf) rfl rfl 25 (znC p0 nv) (Box.new wf 25 _) (by kernel_rfl) rfl (one_zone of.rd) ?_)
          have ee : (wf.alloc (.cells #[.int .i64 0, .int .i64 0, .int .i64 0, .int .i64 0, .int .i64 0, .slice none 0 0, .slice none 0 0, .slice none 0 0, .slice none 0 0, .slice none 0 0] 25)).setRow wf.heap.size (znC p0 vf) = wf.alloc (.cells (znC p0 vf) 25) := setRow_new wf _ _ 25
          rw [ee]
          have M := bal (brefl wf) (.cells (znC p0 vf) 25)
          have CB := hide (Box.new wf 25 (znC p0 vf))
          have OF := hide ((of.mono K.out.size).below M)
          replace X := hide ((X.out.below hbf).below M)
          replace Y := hide ((Y.out.below hbf).below M)
          replace OH := hide (row_below (row_below OH.out hbf) M)
          replace K := hide ((K.out.trans (hbf.mono K.out.size)).trans (M.mono (Nat.le_trans K.out.size hbf.size)))
          replace OZ := hide ((OZ.out.below hbf).below M)
          obtain ⟨cb, hcb⟩ : ∃ cb, cb = wf.heap.size := ⟨_, rfl⟩
          rw [← hcb] at CB ⊢
          clear ee M hbf of AL y0 y1 SX zg
          generalize wf.alloc (.cells (znC p0 vf) 25) = wg at *
          clear hcb
          clear CB OF
          go_wp2
          go_roundw
          case rel => exact ⟨k + 1, v, L, H, U, d, by omega, by go_num, rfl, by omega, X, Y, OZ, OH, VV, DD, K⟩
          case measure => simp [intOf]; omega
        · rw [e0] at AL
          have HBK := hide hbk
          have HFR := hide hfree
          clear e0 hin hbk hfree
          go_wp2_with (first | (refine wpList_load_row rfl 25 _ rfl g1 rfl 25 (znC q v) (0, 0) _ X.out Try.underlying25 rfl (by kernel_rfl) ?_) | fail)
          refine AL.out.mono ?_
          rintro e wf ⟨q2, vf, Lf, rfl, of, hbf, zg⟩
          obtain rfl : q = q2 := (zg.ok rfl).1.symm
          have VF := hide (zg.ok rfl).2.1
          have SF := hide (zg.ok rfl).2.2
          go_upto_region 18 with (refine wpList_store_row rfl 25 _ _ rfl wf.heap.size (znC q vf) rfl rfl 25 (znC p0 nv) (Box.new wf 25 _) (by kernel_rfl) rfl (one_zone of.rd) ?_)
          have ee : (wf.alloc (.cells #[.int .i64 0, .int .i64 0, .int .i64 0, .int .i64 0, .int .i64 0, .slice none 0 0, .slice none 0 0, .slice none 0 0, .slice none 0 0, .slice none 0 0] 25)).setRow wf.heap.size (znC q vf) = wf.alloc (.cells (znC q vf) 25) := setRow_new wf _ _ 25
          rw [ee]
          have M := bal (brefl wf) (.cells (znC q vf) 25)
          have CB := hide (Box.new wf 25 (znC q vf))
          have OF := hide ((of.mono K.out.size).below M)
          replace X := hide ((X.out.below hbf).below M)
          replace Y := hide ((Y.out.below hbf).below M)
          replace OH := hide (row_below (row_below OH.out hbf) M)
          replace K := hide ((K.out.trans (hbf.mono K.out.size)).trans (M.mono (Nat.le_trans K.out.size hbf.size)))
          replace OZ := hide ((OZ.out.below hbf).below M)
          obtain ⟨cb, hcb⟩ : ∃ cb, cb = wf.heap.size := ⟨_, rfl⟩
          rw [← hcb] at CB ⊢
          clear ee M hbf of AL y0 y1 SX zg
          generalize wf.alloc (.cells (znC q vf) 25) = wg at *
          clear hcb
          go_upto_region 20 with (first | (refine wpList_load_row rfl 25 _ rfl cb rfl 25 (znC q vf) (0, 0) _ CB.out Try.underlying25 rfl (by kernel_rfl) ?_) | (refine wpList_store_row rfl 25 _ _ rfl g1 (znC q vf) rfl rfl 25 (znC q v) X.out (by kernel_rfl) rfl (one_zone OF.out.rd) ?_))
          have KS := kp_row (B := w.heap.size) (cs := znC q vf) X.out (Nat.le_of_lt NE.out)
          have X2 := hide (box_row (cs := znC q vf) X.out)
          replace Y := hide (box_row_far (cs := znC q vf) Y.out (show w.heap.size ≠ g1 by have := NE.out; omega))
          replace OF := hide (OF.out.kp KS (by decide))
          replace OH := hide (row_kp OH.out KS (by decide))
          replace K := hide (K.out.trans KS.below)
          clear KS X CB OZ
          generalize wg.setRow g1 (znC q vf) = wh at *
          obtain ⟨i0, hi0, hz0, hz1, hz2⟩ := info_parts info55
          have M := bal (brefl wh) (.cells #[.int .i64 f, .int .i64 (kk : Int)] 55)
          have NB := hide (Box.new wh 55 #[.int .i64 f, .int .i64 (kk : Int)])
          replace X2 := hide (X2.out.below M)
          replace Y := hide (Y.out.below M)
          replace OF := hide (OF.out.below M)
          replace OH := hide (row_below OH.out M)
          replace K := hide (K.out.trans (M.mono K.out.size))
          clear M
          have SB := hide (show ∀ u ∈ [Value.int .i64 f, .int .i64 (kk : Int)], u.oneCell' = true by intro u hu; simp at hu; rcases hu with rfl | rfl <;> rfl)
          have NC := hide (show ∀ j u, [Value.int .i64 f, Value.int .i64 (kk : Int)][j]? = some u → (wh.alloc (.cells #[.int .i64 f, .int .i64 (kk : Int)] 55)).cell? ((⟨wh.heap.size, 0, none⟩ : Addr).add j) = some u from fun j u hj => by
            have ea : (⟨wh.heap.size, 0, none⟩ : Addr).add j = ⟨wh.heap.size, j, none⟩ := by unfold Addr.add; by_cases h : j = 0 <;> simp [h]
            rw [ea, NB.out.cell j, ← hj]
            simp)
          clear NB
          go_wp2_with (at_builtin; refine wpList_append_own _ rfl (.tmp 95) (.tmp 99) 46 rfl w.heap.size 55 i0 _ 2 16 Try.underlying46 hi0 hz0 hz1 hz2 rfl (by omega) (.slice U H.length d) H.length (hcs H) rfl OH.out ⟨wh.heap.size, 0, none⟩ 1 1 [.int .i64 f, .int .i64 (kk : Int)] rfl rfl NC.out SB.out (by simp only [maxLen]; have := HLE.out; omega) (by have := HLE.out; omega) K.out.size ?_; intro v4 w4 hown4 hg4 _; obtain ⟨A4, c4, rfl, _⟩ := row_form hown4; have KG := hide (Kp.grown (B := w.heap.size) OH.out hg4 (Nat.le_refl _) K.out.size); have OH4 := hide hown4; clear hown4 hg4)
          replace X2 := hide (X2.out.kp KG.out (by decide))
          replace Y := hide (Y.out.kp KG.out (by decide))
          replace OF := hide (OF.out.kp KG.out (by decide))
          replace K := hide (K.out.trans KG.out.below)
          have OH5 := hide (show OwH w.heap.size w4 (.slice A4 (H ++ [(f, kk)]).length c4) (H ++ [(f, kk)]) by show w4.ownsRow w.heap.size 55 2 (.slice A4 (H ++ [(f, kk)]).length c4) (H ++ [(f, kk)]).length (hcs (H ++ [(f, kk)])); rw [hcs_append, List.length_append]; exact OH4.out)
          have D5 := hide (DD.out.take (L2 := Lf) hk5 HBK.out HFR.out (fun x => by rw [SF.out x, ASS.out x, dn_self HBK.out.1]))
          have hl : (H ++ [(f, kk)]).length = H.length + 1 := by simp
          rw [← hl]
          generalize H ++ [(f, kk)] = H5 at *
          go_roundw
          case rel => exact ⟨k + 1, vf, Lf, H5, A4, c4, by omega, by go_num, rfl, by omega, X2, Y, OF, OH5, VF, D5, K⟩
          case measure => simp [intOf]; omega
    · obtain rfl : k = O.length := by omega
      go_wp2_with (first | (refine wpList_load_row rfl 25 _ rfl g1 rfl 25 (znC q v) (0, 0) _ X.out Try.underlying25 rfl (by kernel_rfl) ?_) | (refine wpList_store_row rfl 25 _ _ rfl w.heap.size (znC q v) rfl rfl 25 (znC p0 nv) Y.out (by kernel_rfl) rfl (one_zone OZ.out.rd) ?_))
      have KS := kp_row (B := w.heap.size) (cs := znC q v) Y.out (Nat.le_refl _)
      exact ret_zv Try.results40 rfl rfl rfl rfl (box_row Y.out) ⟨v, L, H, U, d, rfl, OZ.out.kp KS (by decide), row_kp OH.out KS (by decide), K.out.trans KS.below, VV.out, DD.out, hHk⟩
end Go.Proofs.Ytflplldamefhoaa.Bd
