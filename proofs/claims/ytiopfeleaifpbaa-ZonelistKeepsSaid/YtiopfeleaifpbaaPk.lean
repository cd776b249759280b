import Derived.Test.YtiopfeleaifpbaaFi
import Derived.Test.YtiopfeleaifpbaaDf
namespace Go.Proofs.Ytiopfeleaifpbaa.Bd
open Go Go.RowKit Go.Sort Go.Lib
set_option linter.unusedVariables false
set_option linter.unusedSimpArgs false
set_option maxHeartbeats 4000000 in
theorem clos_any (g4 g5 : Nat) (AZ : Option Addr) (cp : Nat) (Z : List Zo) (k m t : Int) (i : Nat) (hi : i < Z.length) (hnd : 0 ≤ nd Z i ∧ nd Z i < 4) (w : World) (X4 : w.cell? ⟨g4, 0, none⟩ = some (.slice AZ Z.length cp)) (X5 : Box w g5 34 #[.int .i64 k, .int .i64 m, .int .i64 t])
    (hr : Zs w AZ Z) : Calls Try.prog 38 #[.int .i64 (i : Int), .pointer (some ⟨g4, 0, none⟩), .pointer (some ⟨g5, 0, none⟩)] w fun e w' => e = .returned (.bool (!bt m (nd Z i))) ∧ ∃ q, w' = w.drewN q := by
  obtain ⟨b, off, rfl, hbl, hcs⟩ := hr.cells (brefl _) hi
  have y0 : w.cell? ⟨b, off + i * 10, none⟩ = some (.int .i64 (nd Z i)) := hcs 0 (by omega)
  have y1 := X5.cell 1
  simp at y1
  have hlt : (i : Int) < (Z.length : Int) := by omega
  have hi0 : (0 : Int) ≤ (i : Int) := by omega
  generalize nd Z i = a at *
  have IN := hide (fun w => isin_any a m hnd w)
  clear hcs hr hbl X5 hnd
  generalize bt m a = bb at *
  generalize Z.length = zn at *
  go_enter Try.func38, Try.ntmps38
  go_wp2
  go_quiet ((go_at_call 39; exact quiet_left (IN.out _)))
  go_wp2
  go_ret
  exact ⟨rfl, _, rfl⟩
set_option maxRecDepth 100000 in
set_option maxHeartbeats 16000000 in
theorem pick_any (AZ : Option Addr) (cp : Nat) (Z : List Zo) (p : Po) (n : Int) (kb : Bool) (w : World) (hr : Zs w AZ Z) (hz : ZIs w Z) (hn : Z.length ≤ 9223372036854775807) : Calls Try.prog 20 #[.slice AZ Z.length cp, .agg #[.int .i64 p.k, .int .i64 p.m, .int .i64 p.t], .int .i64 n, .bool kb] w fun e w' => (∃ A c, e = .returned (.tuple #[.slice A (pR Z p n kb).length c, .int .i64 (pkE Z p n)]) ∧ OwI w.heap.size w' (.slice A (pR Z p n kb).length c) (pR Z p n kb)) ∧ Below w.heap.size w w' := by
  have hpk := fun h => pkE_0 (Z := Z) (p := p) (n := n) h
  have hfi := fun h => fo_in (Z := Z) (p := p) (n := n) h
  have hpo := fun h => poE_0 (p := p) h
  have hpR : pR Z p n kb = if pkE Z p n = 0 then (if p.k = 2 then (oR Z (fo p n) kb).filter (fun i => bt p.m (nd Z i.toNat)) else oR Z (fo p n) kb) else [] := rfl
  have hpos := fun h => nm_pos (p := p) h
  have hrem := fun (h1 : 1 ≤ p.m ∧ p.m < 16) (h2 : 0 ≤ p.t) => rem_lt (nm_pos h1) h2
  have hfo : fo p n = if p.k = 1 then (nm p).getD 0 0 else if p.k = 3 then (nm p).getD (p.t % (nm p).length).toNat 0 else n := rfl
  have CKP := hide (fun (W : World) (h : Below w.heap.size w W) => checkpick_any AZ cp Z p n W (hr.below h) (hz.below h) hn)
  obtain ⟨k, m, t⟩ := p
  unfold nm at hpos hrem hfo
  simp only at hpo hpos hrem hfo hpR CKP ⊢
  have FO := hide hfo
  have PR := hide hpR
  have HR := hide hr
  have HZ := hide hz
  clear hfo hpR hr hz
  generalize fo ⟨k, m, t⟩ n = f at *
  generalize pR Z ⟨k, m, t⟩ n kb = pr at *
  have X4 := hide ((Box.new w 22 #[.slice AZ Z.length cp]).more (.cells #[.int .i64 k, .int .i64 m, .int .i64 t] 34))
  have X5 := hide (Box.new2 w (.cells #[.slice AZ Z.length cp] 22) 34 #[.int .i64 k, .int .i64 m, .int .i64 t])
  have K := hide (bal (bal (brefl w) (.cells #[.slice AZ Z.length cp] 22)) (.cells #[.int .i64 k, .int .i64 m, .int .i64 t] 34))
  obtain ⟨W0, hW0⟩ : ∃ W0, W0 = ((w.alloc (.cells #[.slice AZ Z.length cp] 22)).alloc (.cells #[.int .i64 k, .int .i64 m, .int .i64 t] 34)) := ⟨_, rfl⟩
  rw [← hW0] at X4 X5 K
  obtain ⟨g4, hg4⟩ : ∃ g4, g4 = w.heap.size := ⟨_, rfl⟩
  rw [← hg4] at X4
  obtain ⟨g5, hg5⟩ : ∃ g5, g5 = w.heap.size + 1 := ⟨_, rfl⟩
  rw [← hg5] at X5
  have CK := hide (CKP.out W0 K.out)
  have x0 := X5.out.cell 0
  have x1 := X5.out.cell 1
  have x2 := X5.out.cell 2
  have x4 := X4.out.cell 0
  simp at x0 x1 x2 x4
  clear CKP
  go_enter Try.func20, Try.ntmps20
  go_upto_region 1 with fail
  rw [← hg5, ← hg4, ← hW0]
  clear hg5 hg4 hW0
  go_wp2_with fail
  refine CK.out.mono ?_
  rintro e w1 ⟨rfl, hb⟩
  replace X4 := hide (X4.out.below hb)
  replace X5 := hide (X5.out.below hb)
  replace K := hide (K.out.trans (hb.mono K.out.size))
  clear hb x0 x1 x2 x4 CK
  have x1 := X5.out.cell 1
  simp at x1
  by_cases he : pkE Z ⟨k, m, t⟩ n = 0
  · obtain ⟨hc, hpe, h4⟩ := hpk he
    obtain ⟨hk0, hk3, hpm, hpt⟩ := hpo hpe
    have HF := hide (hfi he)
    have HC := hide hc
    have E0 := hide he
    have NE := hide (show nE Z f = 0 from (nE_ok HC.out HF.out).1)
    have PR2 := hide (PR.out.trans (if_pos he))
    clear hpk hfi hpo PR hc hpe h4
    rw [he]
    clear he
    have NO := hide (nodesof_any m w1)
    go_upto_region 5 with (go_at_call 36; refine NO.out.mono ?_; rintro e w2 ⟨⟨An, cn, rfl, hOn⟩, hbn⟩; have ON := hide hOn; replace X4 := hide (X4.out.below hbn); replace X5 := hide (X5.out.below hbn); replace K := hide (K.out.trans (hbn.mono K.out.size)); clear hOn hbn NO)
    clear x1
    have x0 := X5.out.cell 0
    have x1 := X5.out.cell 1
    have x2 := X5.out.cell 2
    have x4 := X4.out.cell 0
    simp at x0 x1 x2 x4
    by_cases q1 : k = 1
    · subst q1
      have EP := hide (PR2.out.trans (if_neg (by decide)))
      have hm := hpm (by omega)
      have hix : 0 < (un (bt m) 4).length := hpos hm
      have hval : (un (bt m) 4).getD 0 0 = f := (FO.out.trans (if_pos rfl)).symm
      clear hpm hpt hpos hrem hm
      obtain ⟨gn, on, rfl, hgn, xn⟩ := (OwI.bi ON.out).cells (brefl _) hix
      rw [hval] at xn
      try simp only [Nat.add_zero] at xn
      clear hgn ON
      generalize (un (bt m) 4).length = ln at *
      have hq1 : (0 : Int) < (ln : Int) := by omega
      have hq2 : ((ln : Int) == 0) = false := beq_eq_false_iff_ne.2 (by omega)
      have hq3 : ¬ (ln : Int) = 0 := by omega
      have OD := hide (order_any AZ cp Z f kb w2 (HR.out.below K.out) (HZ.out.below K.out) hn)
      go_wp2_with fail
      refine OD.out.mono ?_
      rintro e w3 ⟨⟨A3, c3, rfl, hO3⟩, hb3⟩
      have O3 := hide hO3
      have X53 := hide (X5.out.below hb3)
      have X43 := hide (X4.out.below hb3)
      have K3 := hide (K.out.trans (hb3.mono K.out.size))
      have y0 := X53.out.cell 0
      have y1 := X53.out.cell 1
      simp at y0 y1
      clear hO3 OD
      rw [NE.out] at *
      clear hb3
      go_wp2
      refine ret_si Try.results20 rfl rfl rfl ⟨⟨A3, c3, ?_, by rw [EP.out]; exact row_mono O3.out K.out.size⟩, K3.out⟩
      rw [EP.out, E0.out]
    · by_cases q3 : k = 3
      · subst q3
        have EP := hide (PR2.out.trans (if_neg (by decide)))
        have hm := hpm (by omega)
        have hr := hrem hm (hpt rfl)
        obtain ⟨hr1, hr2, hr3⟩ := hr
        obtain ⟨ri, hri⟩ : ∃ ri, ri = (t % ((un (bt m) 4).length : Int)).toNat := ⟨_, rfl⟩
        have hv0 := FO.out.trans (by rw [if_neg (by decide), if_pos rfl])
        rw [← hri] at hr1 hr2 hv0
        have hix : ri < (un (bt m) 4).length := hr1
        have hval : (un (bt m) 4).getD ri 0 = f := hv0.symm
        clear hpm hpt hpos hrem hm hri hr3 hv0
        obtain ⟨gn, on, rfl, hgn, xn⟩ := (OwI.bi ON.out).cells (brefl _) hix
        rw [hval] at xn
        try simp only [Nat.add_zero] at xn
        clear hgn ON
        generalize (un (bt m) 4).length = ln at *
        have hq1 : (ri : Int) < (ln : Int) := by omega
        have hq2 : ((ln : Int) == 0) = false := beq_eq_false_iff_ne.2 (by omega)
        have hq3 : ¬ (ln : Int) = 0 := by omega
        have OD := hide (order_any AZ cp Z f kb w2 (HR.out.below K.out) (HZ.out.below K.out) hn)
        go_wp2_with fail
        refine OD.out.mono ?_
        rintro e w3 ⟨⟨A3, c3, rfl, hO3⟩, hb3⟩
        have O3 := hide hO3
        have X53 := hide (X5.out.below hb3)
        have X43 := hide (X4.out.below hb3)
        have K3 := hide (K.out.trans (hb3.mono K.out.size))
        have y0 := X53.out.cell 0
        have y1 := X53.out.cell 1
        simp at y0 y1
        clear hO3 OD
        rw [NE.out] at *
        clear hb3
        go_wp2
        refine ret_si Try.results20 rfl rfl rfl ⟨⟨A3, c3, ?_, by rw [EP.out]; exact row_mono O3.out K.out.size⟩, K3.out⟩
        rw [EP.out, E0.out]
      · by_cases q2 : k = 2
        · subst q2
          have EP := hide (PR2.out.trans (if_pos rfl))
          have EF := hide (FO.out.trans (by rw [if_neg (by omega), if_neg (by omega)]))
          obtain rfl : f = n := EF.out
          have OD := hide (order_any AZ cp Z f kb w2 (HR.out.below K.out) (HZ.out.below K.out) hn)
          clear ON hpm hpt hpos hrem
          go_wp2_with fail
          refine OD.out.mono ?_
          rintro e w3 ⟨⟨A3, c3, rfl, hO3⟩, hb3⟩
          have O3 := hide hO3
          have X53 := hide (X5.out.below hb3)
          have X43 := hide (X4.out.below hb3)
          have K3 := hide (K.out.trans (hb3.mono K.out.size))
          have y0 := X53.out.cell 0
          have y1 := X53.out.cell 1
          simp at y0 y1
          clear hO3 OD
          rw [NE.out] at *
          obtain ⟨m9, zs, e1, e2, e3, e4⟩ := order_sort (kb := kb) HC.out HF.out
          have eg : ∀ args w, (callFunc 38 args).run Try.prog w = .ok (.enter 38 args) w := Go.Proofs.enters_of Try.func38 (by kernel_rfl) rfl
          have DL := hide (del_list (fun x : Fin (m9 + 1) => !bt m (nd Z x.val)) 38 #[.pointer (some ⟨g4, 0, none⟩), .pointer (some ⟨g5, 0, none⟩)] A3 c3 w2.heap.size (srtd (cOF Z (nR Z f)) zs) w3 (by rw [e3]; exact O3.out) hb3.size eg (fun hne W hk x => by
              have hz : zs ≠ [] := fun e => hne (List.eq_nil_of_length_eq_zero (by rw [srtd_len, e]; rfl))
              have hx : x.val < Z.length := by have := x.isLt; have := e4 hz; omega
              exact clos_any g4 g5 AZ cp Z 2 m t x.val hx ((chE_ok HC.out).2 x.val hx).1 W ((X43.out.kp hk (by decide)).cell 0) (X53.out.kp hk (by decide)) (HR.out.below (K3.out.trans (hk.below.mono K.out.size)))) (by rw [srtd_len]; omega))
          rw [e3] at DL
          have ef : ((srtd (cOF Z (nR Z f)) zs).filter (fun x : Fin (m9 + 1) => !(!bt m (nd Z x.val)))).map fv = (oR Z f kb).filter (fun i => bt m (nd Z i.toNat)) := by
            rw [← e3, List.filter_map]
            congr 1
            refine List.filter_congr fun x _ => ?_
            simp only [Bool.not_not, Function.comp, fv, Int.toNat_natCast]
          rw [ef, ← EP.out] at DL
          clear ef e1 e2 e3 e4 eg
          have HB3 := hide hb3
          clear hb3 O3
          go_wp2_with (go_at_call 37; refine DL.out.mono ?_; rintro e w4 ⟨rfl, ho, hb4⟩; have O4 := hide ho; have B4 := hide hb4; clear ho hb4)
          refine ret_si Try.results20 rfl rfl rfl ⟨⟨A3, c3, ?_, row_mono O4.out K.out.size⟩, K3.out.trans (B4.out.mono K.out.size)⟩
          rw [E0.out]
        · obtain rfl : k = 0 := by omega
          have EP := hide (PR2.out.trans (if_neg (by decide)))
          have EF := hide (FO.out.trans (by rw [if_neg (by omega), if_neg (by omega)]))
          obtain rfl : f = n := EF.out
          have OD := hide (order_any AZ cp Z f kb w2 (HR.out.below K.out) (HZ.out.below K.out) hn)
          clear ON hpm hpt hpos hrem
          go_wp2_with fail
          refine OD.out.mono ?_
          rintro e w3 ⟨⟨A3, c3, rfl, hO3⟩, hb3⟩
          have O3 := hide hO3
          have X53 := hide (X5.out.below hb3)
          have X43 := hide (X4.out.below hb3)
          have K3 := hide (K.out.trans (hb3.mono K.out.size))
          have y0 := X53.out.cell 0
          have y1 := X53.out.cell 1
          simp at y0 y1
          clear hO3 OD
          rw [NE.out] at *
          clear hb3
          go_wp2
          refine ret_si Try.results20 rfl rfl rfl ⟨⟨A3, c3, ?_, by rw [EP.out]; exact row_mono O3.out K.out.size⟩, K3.out⟩
          rw [EP.out, E0.out]
  · have EP := hide (PR.out.trans (if_neg he))
    have dn : (pkE Z ⟨k, m, t⟩ n != 0) = true := by simpa using he
    clear hpk hfi hpo PR he hpos hrem
    go_wp2
    refine ret_si Try.results20 rfl rfl rfl ⟨⟨none, 0, ?_, by rw [EP.out]; exact ow_nil _ _⟩, K.out⟩
    rw [EP.out]; rfl
end Go.Proofs.Ytiopfeleaifpbaa.Bd
