import Derived.Test.YtncdilkcblakhaaT4p
import Derived.Test.YtncdilkcblakhaaR2
import Derived.Test.YtncdilkcblakhaaT3a
import Derived.Deep.RegionLaw
import Derived.Deep.CutBlock
namespace Go.Proofs.Ytncdilkcblakhaa.In
open Go Go.RowKit
set_option linter.unusedVariables false
set_option linter.unusedSimpArgs false
set_option maxRecDepth 100000 in
set_option maxHeartbeats 16000000 in
theorem law_after (p0 p1 : Int) (Af : Option Addr) (cf : Nat) (fs : Fs) (Ap : Option Addr) (cp : Nat) (ps : Fs) (w : World) (hp0 : 0 ≤ p0 ∧ p0 < 256) (hp1 : 0 ≤ p1 ∧ p1 < 256) (hf : BsF w Af fs) (hp : BsF w Ap ps) (hfn : fs.length ≤ 9223372036854775807) (hpn : ps.length ≤ 9223372036854775807) : Calls Try.prog 12 #[.agg #[.int .u8 p0, .int .u8 p1], .slice Af fs.length cf, .slice Ap ps.length cp] w (LawT w) := by
  have AW := hide (fun w => awake14_any w)
  unfold LawT
  have XB := hide (Box.new w 46 #[.int .u8 p0, .int .u8 p1])
  have K0 := hide (bal (brefl w) (.cells #[.int .u8 p0, .int .u8 p1] 46))
  by_cases h50 : 50 < fs.length
  · have hgt : (50 : Int) < fs.length := by omega
    clear hf hp
    go_enter Try.func12, Try.ntmps12
    go_wp2_with fail
    refine (AW.out _).mono ?_
    rintro e w1 ⟨rfl, hb⟩
    have K := hide (btrans K0.out hb)
    clear hb
    go_wp2_with fail
    refine (AW.out _).mono ?_
    rintro e w2 ⟨rfl, hb⟩
    replace K := hide (btrans K.out hb)
    clear hb
    go_wp2
    go_ret
    exact ⟨rfl, K.out⟩
  · have hgt : ¬ (50 : Int) < fs.length := by omega
    by_cases h100 : 100 < ps.length
    · have hgt2 : (100 : Int) < ps.length := by omega
      clear hf hp
      go_enter Try.func12, Try.ntmps12
      go_wp2_with fail
      refine (AW.out _).mono ?_
      rintro e w1 ⟨rfl, hb⟩
      have K := hide (btrans K0.out hb)
      clear hb
      go_wp2_with fail
      refine (AW.out _).mono ?_
      rintro e w2 ⟨rfl, hb⟩
      replace K := hide (btrans K.out hb)
      clear hb
      go_wp2
      go_ret
      exact ⟨rfl, K.out⟩
    · have hgt2 : ¬ (100 : Int) < ps.length := by omega
      have HF := hide hf
      have HP := hide hp
      clear hf hp h50 h100
      have C1 := hide (fun w => inodeOf_any 1 1 w (by omega) (by omega))
      unfold IoR at C1
      rw [show sOf 1 = 1 from rfl, show mOf 1 1 = 1 from rfl, show bOf 1 1 = bfr from rfl] at C1
      have C2 := hide (fun w => inodeOf_any 2 3 w (by omega) (by omega))
      unfold IoR at C2
      rw [show sOf 2 = 2 from rfl, show mOf 2 3 = 3 from rfl, show bOf 2 3 = aft from rfl] at C2
      go_enter Try.func12, Try.ntmps12
      go_upto_region 1 with fail
      obtain ⟨g3, hg3⟩ : ∃ g, g = w.heap.size := ⟨_, rfl⟩
      rw [← hg3] at XB ⊢
      clear hg3
      generalize w.alloc (.cells #[.int .u8 p0, .int .u8 p1] 46) = w0 at *
      go_wp2_with fail
      refine (AW.out _).mono ?_
      rintro e w1 ⟨rfl, hb⟩
      have K := hide (btrans K0.out hb)
      replace XB := hide (XB.out.below hb)
      clear hb AW K0
      go_wp2_with fail
      refine (C1.out _).mono ?_
      rintro e w2 ⟨A1, c1, rfl, hO, hc, hB⟩
      replace K := hide (btrans K.out hB)
      replace XB := hide (XB.out.below hB)
      have O1 := hide (show Dv.OwnBy w2 (.slice A1 32 c1) bfr from Dv.OwnBy.of_row hO)
      have HC1 := hide hc
      clear hO hB C1 hc
      go_wp2_with fail
      refine (C2.out _).mono ?_
      rintro e w3 ⟨A2, c2, rfl, hO, hc, hB⟩
      replace K := hide (btrans K.out hB)
      replace XB := hide (XB.out.below hB)
      replace O1 := hide (O1.out.below hB)
      have O2 := hide (show Dv.OwnBy w3 (.slice A2 32 c2) aft from Dv.OwnBy.of_row hO)
      have HC2 := hide hc
      clear hO hB C2 hc
      have x0 := XB.out.cell 0
      simp at x0
      obtain ⟨z, hz, hz1⟩ : ∃ z : Int, max 1 p0 = z ∧ (0 ≤ z ∧ z < 256) := ⟨_, rfl, by omega⟩
      have M := bal (brefl w3) (.cells #[.int .u8 z] 5)
      have BZ := hide (show BsB (w3.alloc (.cells #[.int .u8 z] 5)) (some ⟨w3.heap.size, 0, none⟩) [z] from fun _ => ⟨w3.heap.size, 0, rfl, by simp, fun k hk => by
        obtain rfl : k = 0 := by simpa using hk
        exact (Box.new w3 5 #[.int .u8 z]).cell 0⟩)
      have CR := hide (repeat_any z (some ⟨w3.heap.size, 0, none⟩) 1 (w3.alloc (.cells #[.int .u8 z] 5)) BZ.out)
      replace K := hide (btrans K.out M)
      replace XB := hide (XB.out.below M)
      replace O1 := hide (O1.out.below M)
      replace O2 := hide (O2.out.below M)
      clear M BZ
      go_upto_region 6 with (go_at_call 34; refine CR.out.mono ?_; rintro e w4 ⟨⟨g13, rfl, hO⟩, hB⟩)
      replace K := hide (btrans K.out hB)
      replace XB := hide (XB.out.below hB)
      replace O1 := hide (O1.out.below hB)
      replace O2 := hide (O2.out.below hB)
      have O3 := hide hO
      clear hO hB CR x0 hz
      have LP := hide (show (List.replicate 32 z).length = 32 by rw [List.length_replicate])
      have HY := hide (show Byt (List.replicate 32 z) from fun x hx => by rw [(List.mem_replicate.1 hx).2]; exact hz1)
      clear hz1
      obtain ⟨pg, hpg⟩ : ∃ pg, pg = List.replicate 32 z := ⟨_, rfl⟩
      rw [← hpg] at O3 LP HY
      clear hpg
      have MK := fun w => makeB w
      have HF4 := hide (HF.out.below K.out)
      have HP4 := hide (HP.out.below K.out)
      obtain ⟨D0, hD0⟩ : ∃ D0, D0 = DS 0 0 [] pg := ⟨_, rfl⟩
      have HD0 := hide hD0
      clear hD0
      go_cut [14, 15] (fun a14 a15 wx => ∃ g14, a14 = .pointer (some ⟨g14, 0, none⟩) ∧ a15 = .int .i64 0 ∧ Hid (w.heap.size ≤ g14) ∧ Hid (∃ B1 d1 B2 d2 B3 d3, DB wx g14 D0 B1 d1 B2 d2 B3 d3) ∧ Hid (Dv.OwnBy wx (.slice A2 32 c2) aft) ∧ Hid (Dv.OwnBy wx (.slice (some ⟨g13, 0, none⟩) 32 32) pg) ∧ Hid (Box wx g3 46 #[.int .u8 p0, .int .u8 p1]) ∧ Hid (Below w.heap.size w wx))
      case first =>
        refine wp_region_noPanic ?_
        refine wp_region_held_drew (S := (fun _ => True)) (by kernel_rfl) ?_ (fun hHeld => ?_)
        · trivial
        replace K := hide (btrans K.out (below_drewN (brefl w4) 1))
        replace O1 := hide (O1.out.below (below_drewN (brefl w4) 1))
        replace O2 := hide (O2.out.below (below_drewN (brefl w4) 1))
        replace O3 := hide (O3.out.below (below_drewN (brefl w4) 1))
        replace XB := hide (XB.out.below (below_drewN (brefl w4) 1))
        change Hid (Below w.heap.size w w4.drew) at K
        change Hid (Box w4.drew g3 46 _) at XB
        change Hid (Dv.OwnBy w4.drew _ _) at O1
        change Hid (Dv.OwnBy w4.drew _ _) at O2
        change Hid (Dv.OwnBy w4.drew _ _) at O3
        generalize w4.drew = wa at *
        refine wpAnyH_take (i := 0) (oi := ⟨some 58, _, _, _, _, _⟩) (v := ?_) rfl (by kernel_rfl) (by kernel_rfl) (by kernel_rfl) (fun _ _ _ h => h) (Or.inl ⟨by kernel_rfl, ?_⟩) (by assumption) ?_
        rotate_left 1
        · (intro w hSw; (try dsimp only at hSw); go_simp) <;> (with_reducible rfl)
        (try simp only [Act.put, List.setIfInBounds_toArray, List.set_cons_succ, List.set_cons_zero])
        refine wpAnyH_ready (rs := [1, 2, 8]) (by kernel_rfl) (by simp) ?_
        refine AllReadyH.cons (o := ⟨some 59, _, _, _, _, _⟩) rfl (fun K' hK => ?_) ?_
        · go_simp
          have MA := hide (bk_new wa)
          replace K := hide (btrans K.out (bal (brefl _) (.cells Z32 5)))
          replace O1 := hide (O1.out.below (bal (brefl _) (.cells Z32 5)))
          replace O2 := hide (O2.out.below (bal (brefl _) (.cells Z32 5)))
          replace O3 := hide (O3.out.below (bal (brefl _) (.cells Z32 5)))
          replace XB := hide (XB.out.below (bal (brefl _) (.cells Z32 5)))
          obtain ⟨ga, hga⟩ : ∃ ga, ga = wa.heap.size := ⟨_, rfl⟩
          rw [← hga] at MA ⊢
          clear hga
          generalize wa.alloc (.cells Z32 5) = wm at *
          refine hK.out _ _ ?_ (fun hHeld => ?_)
          · trivial
          clear hK K'
          (try simp only [Act.put, List.setIfInBounds_toArray, List.set_cons_succ, List.set_cons_zero])
          refine wpAnyH_ready (rs := [2, 8]) (by kernel_rfl) (by simp) ?_
          refine AllReadyH.cons (o := ⟨some 60, _, _, _, _, _⟩) rfl (fun K' hK => ?_) ?_
          · go_simp
            have MB := hide (bk_new wm)
            replace K := hide (btrans K.out (bal (brefl _) (.cells Z32 5)))
            replace O1 := hide (O1.out.below (bal (brefl _) (.cells Z32 5)))
            replace O2 := hide (O2.out.below (bal (brefl _) (.cells Z32 5)))
            replace O3 := hide (O3.out.below (bal (brefl _) (.cells Z32 5)))
            replace XB := hide (XB.out.below (bal (brefl _) (.cells Z32 5)))
            replace MA := hide (MA.out.below (bal (brefl _) (.cells Z32 5)))
            obtain ⟨gb, hgb⟩ : ∃ gb, gb = wm.heap.size := ⟨_, rfl⟩
            rw [← hgb] at MB ⊢
            clear hgb
            generalize wm.alloc (.cells Z32 5) = wmn at *
            refine hK.out _ _ ?_ (fun hHeld => ?_)
            · trivial
            clear hK K'
            (try simp only [Act.put, List.setIfInBounds_toArray, List.set_cons_succ, List.set_cons_zero])
            refine wpAnyH_ready (rs := [3, 8]) (by kernel_rfl) (by simp) ?_
            refine AllReadyH.cons (o := ⟨some 61, _, _, _, _, _⟩) rfl (fun K' hK => ?_) ?_
            · go_simp
              have RW := hide (Box.new wmn 23 #[.slice A1 32 c1, .slice (some ⟨ga, 0, none⟩) 32 32, .slice (some ⟨gb, 0, none⟩) 32 32])
              replace K := hide (btrans K.out (bal (brefl _) (.cells #[.slice A1 32 c1, .slice (some ⟨ga, 0, none⟩) 32 32, .slice (some ⟨gb, 0, none⟩) 32 32] 23)))
              replace O1 := hide (O1.out.below (bal (brefl _) (.cells #[.slice A1 32 c1, .slice (some ⟨ga, 0, none⟩) 32 32, .slice (some ⟨gb, 0, none⟩) 32 32] 23)))
              replace O2 := hide (O2.out.below (bal (brefl _) (.cells #[.slice A1 32 c1, .slice (some ⟨ga, 0, none⟩) 32 32, .slice (some ⟨gb, 0, none⟩) 32 32] 23)))
              replace O3 := hide (O3.out.below (bal (brefl _) (.cells #[.slice A1 32 c1, .slice (some ⟨ga, 0, none⟩) 32 32, .slice (some ⟨gb, 0, none⟩) 32 32] 23)))
              replace XB := hide (XB.out.below (bal (brefl _) (.cells #[.slice A1 32 c1, .slice (some ⟨ga, 0, none⟩) 32 32, .slice (some ⟨gb, 0, none⟩) 32 32] 23)))
              replace MA := hide (MA.out.below (bal (brefl _) (.cells #[.slice A1 32 c1, .slice (some ⟨ga, 0, none⟩) 32 32, .slice (some ⟨gb, 0, none⟩) 32 32] 23)))
              replace MB := hide (MB.out.below (bal (brefl _) (.cells #[.slice A1 32 c1, .slice (some ⟨ga, 0, none⟩) 32 32, .slice (some ⟨gb, 0, none⟩) 32 32] 23)))
              obtain ⟨gr, hgr⟩ : ∃ gr, gr = wmn.heap.size := ⟨_, rfl⟩
              rw [← hgr] at RW ⊢
              clear hgr
              generalize wmn.alloc (.cells #[.slice A1 32 c1, .slice (some ⟨ga, 0, none⟩) 32 32, .slice (some ⟨gb, 0, none⟩) 32 32] 23) = wmnb at *
              refine hK.out _ _ ?_ (fun hHeld => ?_)
              · trivial
              clear hK K'
              (try simp only [Act.put, List.setIfInBounds_toArray, List.set_cons_succ, List.set_cons_zero])
              refine wpAnyH_ready (rs := [4, 8]) (by kernel_rfl) (by simp) ?_
              refine AllReadyH.cons (o := ⟨some 62, _, _, _, _, _⟩) rfl (fun K' hK => ?_) ?_
              · go_simp
                have CN := hide (new3_at HD0.out A1 c1 ga gb gr wmnb O1.out MA.out MB.out RW.out)
                unfold Dv.DvR2 at CN
                refine CN.out.mono ?_
                rintro e wmnbc ⟨v, rfl, hD, hb⟩
                clear CN
                obtain ⟨B1, d1, B2, d2, B3, d3, rfl⟩ := hD.form
                unfold Dv.dv at hD ⊢
                replace K := hide (btrans K.out hb)
                replace O1 := hide (O1.out.below hb)
                replace O2 := hide (O2.out.below hb)
                replace O3 := hide (O3.out.below hb)
                replace XB := hide (XB.out.below hb)
                replace MA := hide (MA.out.below hb)
                replace MB := hide (MB.out.below hb)
                replace RW := hide (RW.out.below hb)
                have DO := hide (devown_mono hD)
                clear hb hD
                refine hK.out _ _ ?_ (fun hHeld => ?_)
                · trivial
                clear hK K'
                (try simp only [Act.put, List.setIfInBounds_toArray, List.set_cons_succ, List.set_cons_zero])
                refine wpAnyH_take (i := 5) (oi := ⟨some 57, _, _, _, _, _⟩) (v := ?_) rfl (by kernel_rfl) (by kernel_rfl) (by kernel_rfl) (fun _ _ _ h => h) (Or.inl ⟨by kernel_rfl, ?_⟩) (by assumption) ?_
                rotate_left 1
                · (intro w hSw; (try dsimp only at hSw); go_simp) <;> (with_reducible rfl)
                (try simp only [Act.put, List.setIfInBounds_toArray, List.set_cons_succ, List.set_cons_zero])
                refine wpAnyH_take (i := 6) (oi := ⟨some 63, _, _, _, _, _⟩) (v := ?_) rfl (by kernel_rfl) (by kernel_rfl) (by kernel_rfl) (fun _ _ _ h => h) (Or.inl ⟨by kernel_rfl, ?_⟩) (by assumption) ?_
                rotate_left 1
                · (intro w hSw; (try dsimp only at hSw); go_simp) <;> (with_reducible rfl)
                (try simp only [Act.put, List.setIfInBounds_toArray, List.set_cons_succ, List.set_cons_zero])
                refine wpAnyH_take (i := 7) (oi := ⟨some 64, _, _, _, _, _⟩) (v := ?_) rfl (by kernel_rfl) (by kernel_rfl) (by kernel_rfl) (fun _ _ _ h => h) (Or.inl ⟨by kernel_rfl, ?_⟩) (by assumption) ?_
                rotate_left 1
                · (intro w hSw; (try dsimp only at hSw); go_simp) <;> (with_reducible rfl)
                (try simp only [Act.put, List.setIfInBounds_toArray, List.set_cons_succ, List.set_cons_zero])
                refine wpAnyH_ready (rs := [8]) (by kernel_rfl) (by simp) ?_
                refine AllReadyH.cons (o := ⟨some 14, _, _, _, _, _⟩) rfl (fun K' hK => ?_) AllReadyH.nil
                go_simp
                have XZ := hide (Box.new wmnbc 57 #[.int .i64 0, .int .i64 0, .slice none 0 0, .slice none 0 0, .slice none 0 0])
                have HG := hide (show w.heap.size ≤ wmnbc.heap.size from K.out.size)
                replace K := hide (btrans K.out (bal (brefl _) (.cells #[.int .i64 0, .int .i64 0, .slice none 0 0, .slice none 0 0, .slice none 0 0] 57)))
                replace O1 := hide (O1.out.below (bal (brefl _) (.cells #[.int .i64 0, .int .i64 0, .slice none 0 0, .slice none 0 0, .slice none 0 0] 57)))
                replace O2 := hide (O2.out.below (bal (brefl _) (.cells #[.int .i64 0, .int .i64 0, .slice none 0 0, .slice none 0 0, .slice none 0 0] 57)))
                replace O3 := hide (O3.out.below (bal (brefl _) (.cells #[.int .i64 0, .int .i64 0, .slice none 0 0, .slice none 0 0, .slice none 0 0] 57)))
                replace XB := hide (XB.out.below (bal (brefl _) (.cells #[.int .i64 0, .int .i64 0, .slice none 0 0, .slice none 0 0, .slice none 0 0] 57)))
                replace MA := hide (MA.out.below (bal (brefl _) (.cells #[.int .i64 0, .int .i64 0, .slice none 0 0, .slice none 0 0, .slice none 0 0] 57)))
                replace MB := hide (MB.out.below (bal (brefl _) (.cells #[.int .i64 0, .int .i64 0, .slice none 0 0, .slice none 0 0, .slice none 0 0] 57)))
                replace RW := hide (RW.out.below (bal (brefl _) (.cells #[.int .i64 0, .int .i64 0, .slice none 0 0, .slice none 0 0, .slice none 0 0] 57)))
                replace DO := hide (devown_below DO.out (bal (brefl _) (.cells #[.int .i64 0, .int .i64 0, .slice none 0 0, .slice none 0 0, .slice none 0 0] 57)))
                obtain ⟨g14, hg14⟩ : ∃ g14, g14 = wmnbc.heap.size := ⟨_, rfl⟩
                rw [← hg14] at XZ HG ⊢
                clear hg14
                generalize wmnbc.alloc (.cells #[.int .i64 0, .int .i64 0, .slice none 0 0, .slice none 0 0, .slice none 0 0] 57) = wmnbca at *
                refine hK.out _ _ ?_ (fun hHeld => ?_)
                · trivial
                clear hK K'
                (try simp only [Act.put, List.setIfInBounds_toArray, List.set_cons_succ, List.set_cons_zero])
                refine wpAnyH_ready (rs := [9]) (by kernel_rfl) (by simp) ?_
                refine AllReadyH.cons (o := ⟨none, _, _, _, _, _⟩) rfl (fun K' hK => ?_) AllReadyH.nil
                have x0 := XZ.out.cell 0
                have x1 := XZ.out.cell 1
                have x2 := XZ.out.cell 2
                have x3 := XZ.out.cell 3
                have x4 := XZ.out.cell 4
                simp at x0 x1 x2 x3 x4
                have fb0 := XZ.out.frozen 0
                have fb1 := XZ.out.frozen 1
                have fb2 := XZ.out.frozen 2
                have fb3 := XZ.out.frozen 3
                have fb4 := XZ.out.frozen 4
                have hgl := XZ.out.lt
                go_simp
                have KS := hide (put5_kp (B := w.heap.size) XZ.out HG.out (.int .i64 D0.dep) (.int .i64 D0.nxt) (.slice B1 D0.bl.length d1) (.slice B2 D0.ca.length d2) (.slice B3 D0.qu.length d3))
                have PX := hide (show DB (put5 wmnbca g14 (.int .i64 D0.dep) (.int .i64 D0.nxt) (.slice B1 D0.bl.length d1) (.slice B2 D0.ca.length d2) (.slice B3 D0.qu.length d3)) g14 D0 B1 d1 B2 d2 B3 d3 from ⟨put5_box XZ.out (.int .i64 D0.dep) (.int .i64 D0.nxt) (.slice B1 D0.bl.length d1) (.slice B2 D0.ca.length d2) (.slice B3 D0.qu.length d3), devown_kp DO.out (kp_dv KS.out) (by decide) (by decide) (by decide) (by decide)⟩)
                replace O2 := hide (O2.out.kp (kp_dv KS.out) (by decide))
                replace O3 := hide (O3.out.kp (kp_dv KS.out) (by decide))
                replace XB := hide (XB.out.kp KS.out (by decide))
                replace K := hide (K.out.trans KS.out.below)
                clear x0 x1 x2 x3 x4 fb0 fb1 fb2 fb3 fb4 hgl KS XZ DO
                refine hK.out _ _ ?_ (fun hHeld => ?_)
                · trivial
                clear hK K'
                (try simp only [Act.put, List.setIfInBounds_toArray, List.set_cons_succ, List.set_cons_zero])
                refine wpAnyH_take (i := 10) (oi := ⟨some 15, _, _, _, _, _⟩) (v := ?_) rfl (by kernel_rfl) (by kernel_rfl) (by kernel_rfl) (fun _ _ _ h => h) (Or.inl ⟨by kernel_rfl, ?_⟩) (by assumption) ?_
                rotate_left 1
                · (intro w hSw; (try dsimp only at hSw); go_simp) <;> (with_reducible rfl)
                (try simp only [Act.put, List.setIfInBounds_toArray, List.set_cons_succ, List.set_cons_zero])
                refine wpAnyH_done (by kernel_rfl) ?_ _
                refine NoPanic.normal ?_
                go_wp2_with fail
                go_meet
                exact ⟨g14, rfl, rfl, HG, hide ⟨_, _, _, _, _, _, PX.out⟩, O2, O3, XB, K⟩
              refine AllReadyH.cons (o := ⟨some 14, _, _, _, _, _⟩) rfl (fun K' hK => ?_) AllReadyH.nil
              go_simp
              have XZ := hide (Box.new wmnb 57 #[.int .i64 0, .int .i64 0, .slice none 0 0, .slice none 0 0, .slice none 0 0])
              have HG := hide (show w.heap.size ≤ wmnb.heap.size from K.out.size)
              replace K := hide (btrans K.out (bal (brefl _) (.cells #[.int .i64 0, .int .i64 0, .slice none 0 0, .slice none 0 0, .slice none 0 0] 57)))
              replace O1 := hide (O1.out.below (bal (brefl _) (.cells #[.int .i64 0, .int .i64 0, .slice none 0 0, .slice none 0 0, .slice none 0 0] 57)))
              replace O2 := hide (O2.out.below (bal (brefl _) (.cells #[.int .i64 0, .int .i64 0, .slice none 0 0, .slice none 0 0, .slice none 0 0] 57)))
              replace O3 := hide (O3.out.below (bal (brefl _) (.cells #[.int .i64 0, .int .i64 0, .slice none 0 0, .slice none 0 0, .slice none 0 0] 57)))
              replace XB := hide (XB.out.below (bal (brefl _) (.cells #[.int .i64 0, .int .i64 0, .slice none 0 0, .slice none 0 0, .slice none 0 0] 57)))
              replace MA := hide (MA.out.below (bal (brefl _) (.cells #[.int .i64 0, .int .i64 0, .slice none 0 0, .slice none 0 0, .slice none 0 0] 57)))
              replace MB := hide (MB.out.below (bal (brefl _) (.cells #[.int .i64 0, .int .i64 0, .slice none 0 0, .slice none 0 0, .slice none 0 0] 57)))
              replace RW := hide (RW.out.below (bal (brefl _) (.cells #[.int .i64 0, .int .i64 0, .slice none 0 0, .slice none 0 0, .slice none 0 0] 57)))
              obtain ⟨g14, hg14⟩ : ∃ g14, g14 = wmnb.heap.size := ⟨_, rfl⟩
              rw [← hg14] at XZ HG ⊢
              clear hg14
              generalize wmnb.alloc (.cells #[.int .i64 0, .int .i64 0, .slice none 0 0, .slice none 0 0, .slice none 0 0] 57) = wmnba at *
              refine hK.out _ _ ?_ (fun hHeld => ?_)
              · trivial
              clear hK K'
              (try simp only [Act.put, List.setIfInBounds_toArray, List.set_cons_succ, List.set_cons_zero])
              refine wpAnyH_ready (rs := [4]) (by kernel_rfl) (by simp) ?_
              refine AllReadyH.cons (o := ⟨some 62, _, _, _, _, _⟩) rfl (fun K' hK => ?_) AllReadyH.nil
              go_simp
              have CN := hide (new3_at HD0.out A1 c1 ga gb gr wmnba O1.out MA.out MB.out RW.out)
              unfold Dv.DvR2 at CN
              refine CN.out.mono ?_
              rintro e wmnbac ⟨v, rfl, hD, hb⟩
              clear CN
              obtain ⟨B1, d1, B2, d2, B3, d3, rfl⟩ := hD.form
              unfold Dv.dv at hD ⊢
              replace K := hide (btrans K.out hb)
              replace O1 := hide (O1.out.below hb)
              replace O2 := hide (O2.out.below hb)
              replace O3 := hide (O3.out.below hb)
              replace XB := hide (XB.out.below hb)
              replace MA := hide (MA.out.below hb)
              replace MB := hide (MB.out.below hb)
              replace RW := hide (RW.out.below hb)
              replace XZ := hide (XZ.out.below hb)
              have DO := hide (devown_mono hD)
              clear hb hD
              refine hK.out _ _ ?_ (fun hHeld => ?_)
              · trivial
              clear hK K'
              (try simp only [Act.put, List.setIfInBounds_toArray, List.set_cons_succ, List.set_cons_zero])
              refine wpAnyH_take (i := 5) (oi := ⟨some 57, _, _, _, _, _⟩) (v := ?_) rfl (by kernel_rfl) (by kernel_rfl) (by kernel_rfl) (fun _ _ _ h => h) (Or.inl ⟨by kernel_rfl, ?_⟩) (by assumption) ?_
              rotate_left 1
              · (intro w hSw; (try dsimp only at hSw); go_simp) <;> (with_reducible rfl)
              (try simp only [Act.put, List.setIfInBounds_toArray, List.set_cons_succ, List.set_cons_zero])
              refine wpAnyH_take (i := 6) (oi := ⟨some 63, _, _, _, _, _⟩) (v := ?_) rfl (by kernel_rfl) (by kernel_rfl) (by kernel_rfl) (fun _ _ _ h => h) (Or.inl ⟨by kernel_rfl, ?_⟩) (by assumption) ?_
              rotate_left 1
              · (intro w hSw; (try dsimp only at hSw); go_simp) <;> (with_reducible rfl)
              (try simp only [Act.put, List.setIfInBounds_toArray, List.set_cons_succ, List.set_cons_zero])
              refine wpAnyH_take (i := 7) (oi := ⟨some 64, _, _, _, _, _⟩) (v := ?_) rfl (by kernel_rfl) (by kernel_rfl) (by kernel_rfl) (fun _ _ _ h => h) (Or.inl ⟨by kernel_rfl, ?_⟩) (by assumption) ?_
              rotate_left 1
              · (intro w hSw; (try dsimp only at hSw); go_simp) <;> (with_reducible rfl)
              (try simp only [Act.put, List.setIfInBounds_toArray, List.set_cons_succ, List.set_cons_zero])
              refine wpAnyH_ready (rs := [9]) (by kernel_rfl) (by simp) ?_
              refine AllReadyH.cons (o := ⟨none, _, _, _, _, _⟩) rfl (fun K' hK => ?_) AllReadyH.nil
              have x0 := XZ.out.cell 0
              have x1 := XZ.out.cell 1
              have x2 := XZ.out.cell 2
              have x3 := XZ.out.cell 3
              have x4 := XZ.out.cell 4
              simp at x0 x1 x2 x3 x4
              have fb0 := XZ.out.frozen 0
              have fb1 := XZ.out.frozen 1
              have fb2 := XZ.out.frozen 2
              have fb3 := XZ.out.frozen 3
              have fb4 := XZ.out.frozen 4
              have hgl := XZ.out.lt
              go_simp
              have KS := hide (put5_kp (B := w.heap.size) XZ.out HG.out (.int .i64 D0.dep) (.int .i64 D0.nxt) (.slice B1 D0.bl.length d1) (.slice B2 D0.ca.length d2) (.slice B3 D0.qu.length d3))
              have PX := hide (show DB (put5 wmnbac g14 (.int .i64 D0.dep) (.int .i64 D0.nxt) (.slice B1 D0.bl.length d1) (.slice B2 D0.ca.length d2) (.slice B3 D0.qu.length d3)) g14 D0 B1 d1 B2 d2 B3 d3 from ⟨put5_box XZ.out (.int .i64 D0.dep) (.int .i64 D0.nxt) (.slice B1 D0.bl.length d1) (.slice B2 D0.ca.length d2) (.slice B3 D0.qu.length d3), devown_kp DO.out (kp_dv KS.out) (by decide) (by decide) (by decide) (by decide)⟩)
              replace O2 := hide (O2.out.kp (kp_dv KS.out) (by decide))
              replace O3 := hide (O3.out.kp (kp_dv KS.out) (by decide))
              replace XB := hide (XB.out.kp KS.out (by decide))
              replace K := hide (K.out.trans KS.out.below)
              clear x0 x1 x2 x3 x4 fb0 fb1 fb2 fb3 fb4 hgl KS XZ DO
              refine hK.out _ _ ?_ (fun hHeld => ?_)
              · trivial
              clear hK K'
              (try simp only [Act.put, List.setIfInBounds_toArray, List.set_cons_succ, List.set_cons_zero])
              refine wpAnyH_take (i := 10) (oi := ⟨some 15, _, _, _, _, _⟩) (v := ?_) rfl (by kernel_rfl) (by kernel_rfl) (by kernel_rfl) (fun _ _ _ h => h) (Or.inl ⟨by kernel_rfl, ?_⟩) (by assumption) ?_
              rotate_left 1
              · (intro w hSw; (try dsimp only at hSw); go_simp) <;> (with_reducible rfl)
              (try simp only [Act.put, List.setIfInBounds_toArray, List.set_cons_succ, List.set_cons_zero])
              refine wpAnyH_done (by kernel_rfl) ?_ _
              refine NoPanic.normal ?_
              go_wp2_with fail
              go_meet
              exact ⟨g14, rfl, rfl, HG, hide ⟨_, _, _, _, _, _, PX.out⟩, O2, O3, XB, K⟩
            refine AllReadyH.cons (o := ⟨some 14, _, _, _, _, _⟩) rfl (fun K' hK => ?_) AllReadyH.nil
            go_simp
            have XZ := hide (Box.new wmn 57 #[.int .i64 0, .int .i64 0, .slice none 0 0, .slice none 0 0, .slice none 0 0])
            have HG := hide (show w.heap.size ≤ wmn.heap.size from K.out.size)
            replace K := hide (btrans K.out (bal (brefl _) (.cells #[.int .i64 0, .int .i64 0, .slice none 0 0, .slice none 0 0, .slice none 0 0] 57)))
            replace O1 := hide (O1.out.below (bal (brefl _) (.cells #[.int .i64 0, .int .i64 0, .slice none 0 0, .slice none 0 0, .slice none 0 0] 57)))
            replace O2 := hide (O2.out.below (bal (brefl _) (.cells #[.int .i64 0, .int .i64 0, .slice none 0 0, .slice none 0 0, .slice none 0 0] 57)))
            replace O3 := hide (O3.out.below (bal (brefl _) (.cells #[.int .i64 0, .int .i64 0, .slice none 0 0, .slice none 0 0, .slice none 0 0] 57)))
            replace XB := hide (XB.out.below (bal (brefl _) (.cells #[.int .i64 0, .int .i64 0, .slice none 0 0, .slice none 0 0, .slice none 0 0] 57)))
            replace MA := hide (MA.out.below (bal (brefl _) (.cells #[.int .i64 0, .int .i64 0, .slice none 0 0, .slice none 0 0, .slice none 0 0] 57)))
            replace MB := hide (MB.out.below (bal (brefl _) (.cells #[.int .i64 0, .int .i64 0, .slice none 0 0, .slice none 0 0, .slice none 0 0] 57)))
            obtain ⟨g14, hg14⟩ : ∃ g14, g14 = wmn.heap.size := ⟨_, rfl⟩
            rw [← hg14] at XZ HG ⊢
            clear hg14
            generalize wmn.alloc (.cells #[.int .i64 0, .int .i64 0, .slice none 0 0, .slice none 0 0, .slice none 0 0] 57) = wmna at *
            refine hK.out _ _ ?_ (fun hHeld => ?_)
            · trivial
            clear hK K'
            (try simp only [Act.put, List.setIfInBounds_toArray, List.set_cons_succ, List.set_cons_zero])
            refine wpAnyH_ready (rs := [3]) (by kernel_rfl) (by simp) ?_
            refine AllReadyH.cons (o := ⟨some 61, _, _, _, _, _⟩) rfl (fun K' hK => ?_) AllReadyH.nil
            go_simp
            have RW := hide (Box.new wmna 23 #[.slice A1 32 c1, .slice (some ⟨ga, 0, none⟩) 32 32, .slice (some ⟨gb, 0, none⟩) 32 32])
            replace K := hide (btrans K.out (bal (brefl _) (.cells #[.slice A1 32 c1, .slice (some ⟨ga, 0, none⟩) 32 32, .slice (some ⟨gb, 0, none⟩) 32 32] 23)))
            replace O1 := hide (O1.out.below (bal (brefl _) (.cells #[.slice A1 32 c1, .slice (some ⟨ga, 0, none⟩) 32 32, .slice (some ⟨gb, 0, none⟩) 32 32] 23)))
            replace O2 := hide (O2.out.below (bal (brefl _) (.cells #[.slice A1 32 c1, .slice (some ⟨ga, 0, none⟩) 32 32, .slice (some ⟨gb, 0, none⟩) 32 32] 23)))
            replace O3 := hide (O3.out.below (bal (brefl _) (.cells #[.slice A1 32 c1, .slice (some ⟨ga, 0, none⟩) 32 32, .slice (some ⟨gb, 0, none⟩) 32 32] 23)))
            replace XB := hide (XB.out.below (bal (brefl _) (.cells #[.slice A1 32 c1, .slice (some ⟨ga, 0, none⟩) 32 32, .slice (some ⟨gb, 0, none⟩) 32 32] 23)))
            replace MA := hide (MA.out.below (bal (brefl _) (.cells #[.slice A1 32 c1, .slice (some ⟨ga, 0, none⟩) 32 32, .slice (some ⟨gb, 0, none⟩) 32 32] 23)))
            replace MB := hide (MB.out.below (bal (brefl _) (.cells #[.slice A1 32 c1, .slice (some ⟨ga, 0, none⟩) 32 32, .slice (some ⟨gb, 0, none⟩) 32 32] 23)))
            replace XZ := hide (XZ.out.below (bal (brefl _) (.cells #[.slice A1 32 c1, .slice (some ⟨ga, 0, none⟩) 32 32, .slice (some ⟨gb, 0, none⟩) 32 32] 23)))
            obtain ⟨gr, hgr⟩ : ∃ gr, gr = wmna.heap.size := ⟨_, rfl⟩
            rw [← hgr] at RW ⊢
            clear hgr
            generalize wmna.alloc (.cells #[.slice A1 32 c1, .slice (some ⟨ga, 0, none⟩) 32 32, .slice (some ⟨gb, 0, none⟩) 32 32] 23) = wmnab at *
            refine hK.out _ _ ?_ (fun hHeld => ?_)
            · trivial
            clear hK K'
            (try simp only [Act.put, List.setIfInBounds_toArray, List.set_cons_succ, List.set_cons_zero])
            refine wpAnyH_ready (rs := [4]) (by kernel_rfl) (by simp) ?_
            refine AllReadyH.cons (o := ⟨some 62, _, _, _, _, _⟩) rfl (fun K' hK => ?_) AllReadyH.nil
            go_simp
            have CN := hide (new3_at HD0.out A1 c1 ga gb gr wmnab O1.out MA.out MB.out RW.out)
            unfold Dv.DvR2 at CN
            refine CN.out.mono ?_
            rintro e wmnabc ⟨v, rfl, hD, hb⟩
            clear CN
            obtain ⟨B1, d1, B2, d2, B3, d3, rfl⟩ := hD.form
            unfold Dv.dv at hD ⊢
            replace K := hide (btrans K.out hb)
            replace O1 := hide (O1.out.below hb)
            replace O2 := hide (O2.out.below hb)
            replace O3 := hide (O3.out.below hb)
            replace XB := hide (XB.out.below hb)
            replace MA := hide (MA.out.below hb)
            replace MB := hide (MB.out.below hb)
            replace RW := hide (RW.out.below hb)
            replace XZ := hide (XZ.out.below hb)
            have DO := hide (devown_mono hD)
            clear hb hD
            refine hK.out _ _ ?_ (fun hHeld => ?_)
            · trivial
            clear hK K'
            (try simp only [Act.put, List.setIfInBounds_toArray, List.set_cons_succ, List.set_cons_zero])
            refine wpAnyH_take (i := 5) (oi := ⟨some 57, _, _, _, _, _⟩) (v := ?_) rfl (by kernel_rfl) (by kernel_rfl) (by kernel_rfl) (fun _ _ _ h => h) (Or.inl ⟨by kernel_rfl, ?_⟩) (by assumption) ?_
            rotate_left 1
            · (intro w hSw; (try dsimp only at hSw); go_simp) <;> (with_reducible rfl)
            (try simp only [Act.put, List.setIfInBounds_toArray, List.set_cons_succ, List.set_cons_zero])
            refine wpAnyH_take (i := 6) (oi := ⟨some 63, _, _, _, _, _⟩) (v := ?_) rfl (by kernel_rfl) (by kernel_rfl) (by kernel_rfl) (fun _ _ _ h => h) (Or.inl ⟨by kernel_rfl, ?_⟩) (by assumption) ?_
            rotate_left 1
            · (intro w hSw; (try dsimp only at hSw); go_simp) <;> (with_reducible rfl)
            (try simp only [Act.put, List.setIfInBounds_toArray, List.set_cons_succ, List.set_cons_zero])
            refine wpAnyH_take (i := 7) (oi := ⟨some 64, _, _, _, _, _⟩) (v := ?_) rfl (by kernel_rfl) (by kernel_rfl) (by kernel_rfl) (fun _ _ _ h => h) (Or.inl ⟨by kernel_rfl, ?_⟩) (by assumption) ?_
            rotate_left 1
            · (intro w hSw; (try dsimp only at hSw); go_simp) <;> (with_reducible rfl)
            (try simp only [Act.put, List.setIfInBounds_toArray, List.set_cons_succ, List.set_cons_zero])
            refine wpAnyH_ready (rs := [9]) (by kernel_rfl) (by simp) ?_
            refine AllReadyH.cons (o := ⟨none, _, _, _, _, _⟩) rfl (fun K' hK => ?_) AllReadyH.nil
            have x0 := XZ.out.cell 0
            have x1 := XZ.out.cell 1
            have x2 := XZ.out.cell 2
            have x3 := XZ.out.cell 3
            have x4 := XZ.out.cell 4
            simp at x0 x1 x2 x3 x4
            have fb0 := XZ.out.frozen 0
            have fb1 := XZ.out.frozen 1
            have fb2 := XZ.out.frozen 2
            have fb3 := XZ.out.frozen 3
            have fb4 := XZ.out.frozen 4
            have hgl := XZ.out.lt
            go_simp
            have KS := hide (put5_kp (B := w.heap.size) XZ.out HG.out (.int .i64 D0.dep) (.int .i64 D0.nxt) (.slice B1 D0.bl.length d1) (.slice B2 D0.ca.length d2) (.slice B3 D0.qu.length d3))
            have PX := hide (show DB (put5 wmnabc g14 (.int .i64 D0.dep) (.int .i64 D0.nxt) (.slice B1 D0.bl.length d1) (.slice B2 D0.ca.length d2) (.slice B3 D0.qu.length d3)) g14 D0 B1 d1 B2 d2 B3 d3 from ⟨put5_box XZ.out (.int .i64 D0.dep) (.int .i64 D0.nxt) (.slice B1 D0.bl.length d1) (.slice B2 D0.ca.length d2) (.slice B3 D0.qu.length d3), devown_kp DO.out (kp_dv KS.out) (by decide) (by decide) (by decide) (by decide)⟩)
            replace O2 := hide (O2.out.kp (kp_dv KS.out) (by decide))
            replace O3 := hide (O3.out.kp (kp_dv KS.out) (by decide))
            replace XB := hide (XB.out.kp KS.out (by decide))
            replace K := hide (K.out.trans KS.out.below)
            clear x0 x1 x2 x3 x4 fb0 fb1 fb2 fb3 fb4 hgl KS XZ DO
            refine hK.out _ _ ?_ (fun hHeld => ?_)
            · trivial
            clear hK K'
            (try simp only [Act.put, List.setIfInBounds_toArray, List.set_cons_succ, List.set_cons_zero])
            refine wpAnyH_take (i := 10) (oi := ⟨some 15, _, _, _, _, _⟩) (v := ?_) rfl (by kernel_rfl) (by kernel_rfl) (by kernel_rfl) (fun _ _ _ h => h) (Or.inl ⟨by kernel_rfl, ?_⟩) (by assumption) ?_
            rotate_left 1
            · (intro w hSw; (try dsimp only at hSw); go_simp) <;> (with_reducible rfl)
            (try simp only [Act.put, List.setIfInBounds_toArray, List.set_cons_succ, List.set_cons_zero])
            refine wpAnyH_done (by kernel_rfl) ?_ _
            refine NoPanic.normal ?_
            go_wp2_with fail
            go_meet
            exact ⟨g14, rfl, rfl, HG, hide ⟨_, _, _, _, _, _, PX.out⟩, O2, O3, XB, K⟩
          refine AllReadyH.cons (o := ⟨some 14, _, _, _, _, _⟩) rfl (fun K' hK => ?_) AllReadyH.nil
          go_simp
          have XZ := hide (Box.new wm 57 #[.int .i64 0, .int .i64 0, .slice none 0 0, .slice none 0 0, .slice none 0 0])
          have HG := hide (show w.heap.size ≤ wm.heap.size from K.out.size)
          replace K := hide (btrans K.out (bal (brefl _) (.cells #[.int .i64 0, .int .i64 0, .slice none 0 0, .slice none 0 0, .slice none 0 0] 57)))
          replace O1 := hide (O1.out.below (bal (brefl _) (.cells #[.int .i64 0, .int .i64 0, .slice none 0 0, .slice none 0 0, .slice none 0 0] 57)))
          replace O2 := hide (O2.out.below (bal (brefl _) (.cells #[.int .i64 0, .int .i64 0, .slice none 0 0, .slice none 0 0, .slice none 0 0] 57)))
          replace O3 := hide (O3.out.below (bal (brefl _) (.cells #[.int .i64 0, .int .i64 0, .slice none 0 0, .slice none 0 0, .slice none 0 0] 57)))
          replace XB := hide (XB.out.below (bal (brefl _) (.cells #[.int .i64 0, .int .i64 0, .slice none 0 0, .slice none 0 0, .slice none 0 0] 57)))
          replace MA := hide (MA.out.below (bal (brefl _) (.cells #[.int .i64 0, .int .i64 0, .slice none 0 0, .slice none 0 0, .slice none 0 0] 57)))
          obtain ⟨g14, hg14⟩ : ∃ g14, g14 = wm.heap.size := ⟨_, rfl⟩
          rw [← hg14] at XZ HG ⊢
          clear hg14
          generalize wm.alloc (.cells #[.int .i64 0, .int .i64 0, .slice none 0 0, .slice none 0 0, .slice none 0 0] 57) = wma at *
          refine hK.out _ _ ?_ (fun hHeld => ?_)
          · trivial
          clear hK K'
          (try simp only [Act.put, List.setIfInBounds_toArray, List.set_cons_succ, List.set_cons_zero])
          refine wpAnyH_ready (rs := [2]) (by kernel_rfl) (by simp) ?_
          refine AllReadyH.cons (o := ⟨some 60, _, _, _, _, _⟩) rfl (fun K' hK => ?_) AllReadyH.nil
          go_simp
          have MB := hide (bk_new wma)
          replace K := hide (btrans K.out (bal (brefl _) (.cells Z32 5)))
          replace O1 := hide (O1.out.below (bal (brefl _) (.cells Z32 5)))
          replace O2 := hide (O2.out.below (bal (brefl _) (.cells Z32 5)))
          replace O3 := hide (O3.out.below (bal (brefl _) (.cells Z32 5)))
          replace XB := hide (XB.out.below (bal (brefl _) (.cells Z32 5)))
          replace MA := hide (MA.out.below (bal (brefl _) (.cells Z32 5)))
          replace XZ := hide (XZ.out.below (bal (brefl _) (.cells Z32 5)))
          obtain ⟨gb, hgb⟩ : ∃ gb, gb = wma.heap.size := ⟨_, rfl⟩
          rw [← hgb] at MB ⊢
          clear hgb
          generalize wma.alloc (.cells Z32 5) = wman at *
          refine hK.out _ _ ?_ (fun hHeld => ?_)
          · trivial
          clear hK K'
          (try simp only [Act.put, List.setIfInBounds_toArray, List.set_cons_succ, List.set_cons_zero])
          refine wpAnyH_ready (rs := [3]) (by kernel_rfl) (by simp) ?_
          refine AllReadyH.cons (o := ⟨some 61, _, _, _, _, _⟩) rfl (fun K' hK => ?_) AllReadyH.nil
          go_simp
          have RW := hide (Box.new wman 23 #[.slice A1 32 c1, .slice (some ⟨ga, 0, none⟩) 32 32, .slice (some ⟨gb, 0, none⟩) 32 32])
          replace K := hide (btrans K.out (bal (brefl _) (.cells #[.slice A1 32 c1, .slice (some ⟨ga, 0, none⟩) 32 32, .slice (some ⟨gb, 0, none⟩) 32 32] 23)))
          replace O1 := hide (O1.out.below (bal (brefl _) (.cells #[.slice A1 32 c1, .slice (some ⟨ga, 0, none⟩) 32 32, .slice (some ⟨gb, 0, none⟩) 32 32] 23)))
          replace O2 := hide (O2.out.below (bal (brefl _) (.cells #[.slice A1 32 c1, .slice (some ⟨ga, 0, none⟩) 32 32, .slice (some ⟨gb, 0, none⟩) 32 32] 23)))
          replace O3 := hide (O3.out.below (bal (brefl _) (.cells #[.slice A1 32 c1, .slice (some ⟨ga, 0, none⟩) 32 32, .slice (some ⟨gb, 0, none⟩) 32 32] 23)))
          replace XB := hide (XB.out.below (bal (brefl _) (.cells #[.slice A1 32 c1, .slice (some ⟨ga, 0, none⟩) 32 32, .slice (some ⟨gb, 0, none⟩) 32 32] 23)))
          replace MA := hide (MA.out.below (bal (brefl _) (.cells #[.slice A1 32 c1, .slice (some ⟨ga, 0, none⟩) 32 32, .slice (some ⟨gb, 0, none⟩) 32 32] 23)))
          replace MB := hide (MB.out.below (bal (brefl _) (.cells #[.slice A1 32 c1, .slice (some ⟨ga, 0, none⟩) 32 32, .slice (some ⟨gb, 0, none⟩) 32 32] 23)))
          replace XZ := hide (XZ.out.below (bal (brefl _) (.cells #[.slice A1 32 c1, .slice (some ⟨ga, 0, none⟩) 32 32, .slice (some ⟨gb, 0, none⟩) 32 32] 23)))
          obtain ⟨gr, hgr⟩ : ∃ gr, gr = wman.heap.size := ⟨_, rfl⟩
          rw [← hgr] at RW ⊢
          clear hgr
          generalize wman.alloc (.cells #[.slice A1 32 c1, .slice (some ⟨ga, 0, none⟩) 32 32, .slice (some ⟨gb, 0, none⟩) 32 32] 23) = wmanb at *
          refine hK.out _ _ ?_ (fun hHeld => ?_)
          · trivial
          clear hK K'
          (try simp only [Act.put, List.setIfInBounds_toArray, List.set_cons_succ, List.set_cons_zero])
          refine wpAnyH_ready (rs := [4]) (by kernel_rfl) (by simp) ?_
          refine AllReadyH.cons (o := ⟨some 62, _, _, _, _, _⟩) rfl (fun K' hK => ?_) AllReadyH.nil
          go_simp
          have CN := hide (new3_at HD0.out A1 c1 ga gb gr wmanb O1.out MA.out MB.out RW.out)
          unfold Dv.DvR2 at CN
          refine CN.out.mono ?_
          rintro e wmanbc ⟨v, rfl, hD, hb⟩
          clear CN
          obtain ⟨B1, d1, B2, d2, B3, d3, rfl⟩ := hD.form
          unfold Dv.dv at hD ⊢
          replace K := hide (btrans K.out hb)
          replace O1 := hide (O1.out.below hb)
          replace O2 := hide (O2.out.below hb)
          replace O3 := hide (O3.out.below hb)
          replace XB := hide (XB.out.below hb)
          replace MA := hide (MA.out.below hb)
          replace MB := hide (MB.out.below hb)
          replace RW := hide (RW.out.below hb)
          replace XZ := hide (XZ.out.below hb)
          have DO := hide (devown_mono hD)
          clear hb hD
          refine hK.out _ _ ?_ (fun hHeld => ?_)
          · trivial
          clear hK K'
          (try simp only [Act.put, List.setIfInBounds_toArray, List.set_cons_succ, List.set_cons_zero])
          refine wpAnyH_take (i := 5) (oi := ⟨some 57, _, _, _, _, _⟩) (v := ?_) rfl (by kernel_rfl) (by kernel_rfl) (by kernel_rfl) (fun _ _ _ h => h) (Or.inl ⟨by kernel_rfl, ?_⟩) (by assumption) ?_
          rotate_left 1
          · (intro w hSw; (try dsimp only at hSw); go_simp) <;> (with_reducible rfl)
          (try simp only [Act.put, List.setIfInBounds_toArray, List.set_cons_succ, List.set_cons_zero])
          refine wpAnyH_take (i := 6) (oi := ⟨some 63, _, _, _, _, _⟩) (v := ?_) rfl (by kernel_rfl) (by kernel_rfl) (by kernel_rfl) (fun _ _ _ h => h) (Or.inl ⟨by kernel_rfl, ?_⟩) (by assumption) ?_
          rotate_left 1
          · (intro w hSw; (try dsimp only at hSw); go_simp) <;> (with_reducible rfl)
          (try simp only [Act.put, List.setIfInBounds_toArray, List.set_cons_succ, List.set_cons_zero])
          refine wpAnyH_take (i := 7) (oi := ⟨some 64, _, _, _, _, _⟩) (v := ?_) rfl (by kernel_rfl) (by kernel_rfl) (by kernel_rfl) (fun _ _ _ h => h) (Or.inl ⟨by kernel_rfl, ?_⟩) (by assumption) ?_
          rotate_left 1
          · (intro w hSw; (try dsimp only at hSw); go_simp) <;> (with_reducible rfl)
          (try simp only [Act.put, List.setIfInBounds_toArray, List.set_cons_succ, List.set_cons_zero])
          refine wpAnyH_ready (rs := [9]) (by kernel_rfl) (by simp) ?_
          refine AllReadyH.cons (o := ⟨none, _, _, _, _, _⟩) rfl (fun K' hK => ?_) AllReadyH.nil
          have x0 := XZ.out.cell 0
          have x1 := XZ.out.cell 1
          have x2 := XZ.out.cell 2
          have x3 := XZ.out.cell 3
          have x4 := XZ.out.cell 4
          simp at x0 x1 x2 x3 x4
          have fb0 := XZ.out.frozen 0
          have fb1 := XZ.out.frozen 1
          have fb2 := XZ.out.frozen 2
          have fb3 := XZ.out.frozen 3
          have fb4 := XZ.out.frozen 4
          have hgl := XZ.out.lt
          go_simp
          have KS := hide (put5_kp (B := w.heap.size) XZ.out HG.out (.int .i64 D0.dep) (.int .i64 D0.nxt) (.slice B1 D0.bl.length d1) (.slice B2 D0.ca.length d2) (.slice B3 D0.qu.length d3))
          have PX := hide (show DB (put5 wmanbc g14 (.int .i64 D0.dep) (.int .i64 D0.nxt) (.slice B1 D0.bl.length d1) (.slice B2 D0.ca.length d2) (.slice B3 D0.qu.length d3)) g14 D0 B1 d1 B2 d2 B3 d3 from ⟨put5_box XZ.out (.int .i64 D0.dep) (.int .i64 D0.nxt) (.slice B1 D0.bl.length d1) (.slice B2 D0.ca.length d2) (.slice B3 D0.qu.length d3), devown_kp DO.out (kp_dv KS.out) (by decide) (by decide) (by decide) (by decide)⟩)
          replace O2 := hide (O2.out.kp (kp_dv KS.out) (by decide))
          replace O3 := hide (O3.out.kp (kp_dv KS.out) (by decide))
          replace XB := hide (XB.out.kp KS.out (by decide))
          replace K := hide (K.out.trans KS.out.below)
          clear x0 x1 x2 x3 x4 fb0 fb1 fb2 fb3 fb4 hgl KS XZ DO
          refine hK.out _ _ ?_ (fun hHeld => ?_)
          · trivial
          clear hK K'
          (try simp only [Act.put, List.setIfInBounds_toArray, List.set_cons_succ, List.set_cons_zero])
          refine wpAnyH_take (i := 10) (oi := ⟨some 15, _, _, _, _, _⟩) (v := ?_) rfl (by kernel_rfl) (by kernel_rfl) (by kernel_rfl) (fun _ _ _ h => h) (Or.inl ⟨by kernel_rfl, ?_⟩) (by assumption) ?_
          rotate_left 1
          · (intro w hSw; (try dsimp only at hSw); go_simp) <;> (with_reducible rfl)
          (try simp only [Act.put, List.setIfInBounds_toArray, List.set_cons_succ, List.set_cons_zero])
          refine wpAnyH_done (by kernel_rfl) ?_ _
          refine NoPanic.normal ?_
          go_wp2_with fail
          go_meet
          exact ⟨g14, rfl, rfl, HG, hide ⟨_, _, _, _, _, _, PX.out⟩, O2, O3, XB, K⟩
        refine AllReadyH.cons (o := ⟨some 60, _, _, _, _, _⟩) rfl (fun K' hK => ?_) ?_
        · go_simp
          have MB := hide (bk_new wa)
          replace K := hide (btrans K.out (bal (brefl _) (.cells Z32 5)))
          replace O1 := hide (O1.out.below (bal (brefl _) (.cells Z32 5)))
          replace O2 := hide (O2.out.below (bal (brefl _) (.cells Z32 5)))
          replace O3 := hide (O3.out.below (bal (brefl _) (.cells Z32 5)))
          replace XB := hide (XB.out.below (bal (brefl _) (.cells Z32 5)))
          obtain ⟨gb, hgb⟩ : ∃ gb, gb = wa.heap.size := ⟨_, rfl⟩
          rw [← hgb] at MB ⊢
          clear hgb
          generalize wa.alloc (.cells Z32 5) = wn at *
          refine hK.out _ _ ?_ (fun hHeld => ?_)
          · trivial
          clear hK K'
          (try simp only [Act.put, List.setIfInBounds_toArray, List.set_cons_succ, List.set_cons_zero])
          refine wpAnyH_ready (rs := [1, 8]) (by kernel_rfl) (by simp) ?_
          refine AllReadyH.cons (o := ⟨some 59, _, _, _, _, _⟩) rfl (fun K' hK => ?_) ?_
          · go_simp
            have MA := hide (bk_new wn)
            replace K := hide (btrans K.out (bal (brefl _) (.cells Z32 5)))
            replace O1 := hide (O1.out.below (bal (brefl _) (.cells Z32 5)))
            replace O2 := hide (O2.out.below (bal (brefl _) (.cells Z32 5)))
            replace O3 := hide (O3.out.below (bal (brefl _) (.cells Z32 5)))
            replace XB := hide (XB.out.below (bal (brefl _) (.cells Z32 5)))
            replace MB := hide (MB.out.below (bal (brefl _) (.cells Z32 5)))
            obtain ⟨ga, hga⟩ : ∃ ga, ga = wn.heap.size := ⟨_, rfl⟩
            rw [← hga] at MA ⊢
            clear hga
            generalize wn.alloc (.cells Z32 5) = wnm at *
            refine hK.out _ _ ?_ (fun hHeld => ?_)
            · trivial
            clear hK K'
            (try simp only [Act.put, List.setIfInBounds_toArray, List.set_cons_succ, List.set_cons_zero])
            refine wpAnyH_ready (rs := [3, 8]) (by kernel_rfl) (by simp) ?_
            refine AllReadyH.cons (o := ⟨some 61, _, _, _, _, _⟩) rfl (fun K' hK => ?_) ?_
            · go_simp
              have RW := hide (Box.new wnm 23 #[.slice A1 32 c1, .slice (some ⟨ga, 0, none⟩) 32 32, .slice (some ⟨gb, 0, none⟩) 32 32])
              replace K := hide (btrans K.out (bal (brefl _) (.cells #[.slice A1 32 c1, .slice (some ⟨ga, 0, none⟩) 32 32, .slice (some ⟨gb, 0, none⟩) 32 32] 23)))
              replace O1 := hide (O1.out.below (bal (brefl _) (.cells #[.slice A1 32 c1, .slice (some ⟨ga, 0, none⟩) 32 32, .slice (some ⟨gb, 0, none⟩) 32 32] 23)))
              replace O2 := hide (O2.out.below (bal (brefl _) (.cells #[.slice A1 32 c1, .slice (some ⟨ga, 0, none⟩) 32 32, .slice (some ⟨gb, 0, none⟩) 32 32] 23)))
              replace O3 := hide (O3.out.below (bal (brefl _) (.cells #[.slice A1 32 c1, .slice (some ⟨ga, 0, none⟩) 32 32, .slice (some ⟨gb, 0, none⟩) 32 32] 23)))
              replace XB := hide (XB.out.below (bal (brefl _) (.cells #[.slice A1 32 c1, .slice (some ⟨ga, 0, none⟩) 32 32, .slice (some ⟨gb, 0, none⟩) 32 32] 23)))
              replace MA := hide (MA.out.below (bal (brefl _) (.cells #[.slice A1 32 c1, .slice (some ⟨ga, 0, none⟩) 32 32, .slice (some ⟨gb, 0, none⟩) 32 32] 23)))
              replace MB := hide (MB.out.below (bal (brefl _) (.cells #[.slice A1 32 c1, .slice (some ⟨ga, 0, none⟩) 32 32, .slice (some ⟨gb, 0, none⟩) 32 32] 23)))
              obtain ⟨gr, hgr⟩ : ∃ gr, gr = wnm.heap.size := ⟨_, rfl⟩
              rw [← hgr] at RW ⊢
              clear hgr
              generalize wnm.alloc (.cells #[.slice A1 32 c1, .slice (some ⟨ga, 0, none⟩) 32 32, .slice (some ⟨gb, 0, none⟩) 32 32] 23) = wnmb at *
              refine hK.out _ _ ?_ (fun hHeld => ?_)
              · trivial
              clear hK K'
              (try simp only [Act.put, List.setIfInBounds_toArray, List.set_cons_succ, List.set_cons_zero])
              refine wpAnyH_ready (rs := [4, 8]) (by kernel_rfl) (by simp) ?_
              refine AllReadyH.cons (o := ⟨some 62, _, _, _, _, _⟩) rfl (fun K' hK => ?_) ?_
              · go_simp
                have CN := hide (new3_at HD0.out A1 c1 ga gb gr wnmb O1.out MA.out MB.out RW.out)
                unfold Dv.DvR2 at CN
                refine CN.out.mono ?_
                rintro e wnmbc ⟨v, rfl, hD, hb⟩
                clear CN
                obtain ⟨B1, d1, B2, d2, B3, d3, rfl⟩ := hD.form
                unfold Dv.dv at hD ⊢
                replace K := hide (btrans K.out hb)
                replace O1 := hide (O1.out.below hb)
                replace O2 := hide (O2.out.below hb)
                replace O3 := hide (O3.out.below hb)
                replace XB := hide (XB.out.below hb)
                replace MA := hide (MA.out.below hb)
                replace MB := hide (MB.out.below hb)
                replace RW := hide (RW.out.below hb)
                have DO := hide (devown_mono hD)
                clear hb hD
                refine hK.out _ _ ?_ (fun hHeld => ?_)
                · trivial
                clear hK K'
                (try simp only [Act.put, List.setIfInBounds_toArray, List.set_cons_succ, List.set_cons_zero])
                refine wpAnyH_take (i := 5) (oi := ⟨some 57, _, _, _, _, _⟩) (v := ?_) rfl (by kernel_rfl) (by kernel_rfl) (by kernel_rfl) (fun _ _ _ h => h) (Or.inl ⟨by kernel_rfl, ?_⟩) (by assumption) ?_
                rotate_left 1
                · (intro w hSw; (try dsimp only at hSw); go_simp) <;> (with_reducible rfl)
                (try simp only [Act.put, List.setIfInBounds_toArray, List.set_cons_succ, List.set_cons_zero])
                refine wpAnyH_take (i := 6) (oi := ⟨some 63, _, _, _, _, _⟩) (v := ?_) rfl (by kernel_rfl) (by kernel_rfl) (by kernel_rfl) (fun _ _ _ h => h) (Or.inl ⟨by kernel_rfl, ?_⟩) (by assumption) ?_
                rotate_left 1
                · (intro w hSw; (try dsimp only at hSw); go_simp) <;> (with_reducible rfl)
                (try simp only [Act.put, List.setIfInBounds_toArray, List.set_cons_succ, List.set_cons_zero])
                refine wpAnyH_take (i := 7) (oi := ⟨some 64, _, _, _, _, _⟩) (v := ?_) rfl (by kernel_rfl) (by kernel_rfl) (by kernel_rfl) (fun _ _ _ h => h) (Or.inl ⟨by kernel_rfl, ?_⟩) (by assumption) ?_
                rotate_left 1
                · (intro w hSw; (try dsimp only at hSw); go_simp) <;> (with_reducible rfl)
                (try simp only [Act.put, List.setIfInBounds_toArray, List.set_cons_succ, List.set_cons_zero])
                refine wpAnyH_ready (rs := [8]) (by kernel_rfl) (by simp) ?_
                refine AllReadyH.cons (o := ⟨some 14, _, _, _, _, _⟩) rfl (fun K' hK => ?_) AllReadyH.nil
                go_simp
                have XZ := hide (Box.new wnmbc 57 #[.int .i64 0, .int .i64 0, .slice none 0 0, .slice none 0 0, .slice none 0 0])
                have HG := hide (show w.heap.size ≤ wnmbc.heap.size from K.out.size)
                replace K := hide (btrans K.out (bal (brefl _) (.cells #[.int .i64 0, .int .i64 0, .slice none 0 0, .slice none 0 0, .slice none 0 0] 57)))
                replace O1 := hide (O1.out.below (bal (brefl _) (.cells #[.int .i64 0, .int .i64 0, .slice none 0 0, .slice none 0 0, .slice none 0 0] 57)))
                replace O2 := hide (O2.out.below (bal (brefl _) (.cells #[.int .i64 0, .int .i64 0, .slice none 0 0, .slice none 0 0, .slice none 0 0] 57)))
                replace O3 := hide (O3.out.below (bal (brefl _) (.cells #[.int .i64 0, .int .i64 0, .slice none 0 0, .slice none 0 0, .slice none 0 0] 57)))
                replace XB := hide (XB.out.below (bal (brefl _) (.cells #[.int .i64 0, .int .i64 0, .slice none 0 0, .slice none 0 0, .slice none 0 0] 57)))
                replace MA := hide (MA.out.below (bal (brefl _) (.cells #[.int .i64 0, .int .i64 0, .slice none 0 0, .slice none 0 0, .slice none 0 0] 57)))
                replace MB := hide (MB.out.below (bal (brefl _) (.cells #[.int .i64 0, .int .i64 0, .slice none 0 0, .slice none 0 0, .slice none 0 0] 57)))
                replace RW := hide (RW.out.below (bal (brefl _) (.cells #[.int .i64 0, .int .i64 0, .slice none 0 0, .slice none 0 0, .slice none 0 0] 57)))
                replace DO := hide (devown_below DO.out (bal (brefl _) (.cells #[.int .i64 0, .int .i64 0, .slice none 0 0, .slice none 0 0, .slice none 0 0] 57)))
                obtain ⟨g14, hg14⟩ : ∃ g14, g14 = wnmbc.heap.size := ⟨_, rfl⟩
                rw [← hg14] at XZ HG ⊢
                clear hg14
                generalize wnmbc.alloc (.cells #[.int .i64 0, .int .i64 0, .slice none 0 0, .slice none 0 0, .slice none 0 0] 57) = wnmbca at *
                refine hK.out _ _ ?_ (fun hHeld => ?_)
                · trivial
                clear hK K'
                (try simp only [Act.put, List.setIfInBounds_toArray, List.set_cons_succ, List.set_cons_zero])
                refine wpAnyH_ready (rs := [9]) (by kernel_rfl) (by simp) ?_
                refine AllReadyH.cons (o := ⟨none, _, _, _, _, _⟩) rfl (fun K' hK => ?_) AllReadyH.nil
                have x0 := XZ.out.cell 0
                have x1 := XZ.out.cell 1
                have x2 := XZ.out.cell 2
                have x3 := XZ.out.cell 3
                have x4 := XZ.out.cell 4
                simp at x0 x1 x2 x3 x4
                have fb0 := XZ.out.frozen 0
                have fb1 := XZ.out.frozen 1
                have fb2 := XZ.out.frozen 2
                have fb3 := XZ.out.frozen 3
                have fb4 := XZ.out.frozen 4
                have hgl := XZ.out.lt
                go_simp
                have KS := hide (put5_kp (B := w.heap.size) XZ.out HG.out (.int .i64 D0.dep) (.int .i64 D0.nxt) (.slice B1 D0.bl.length d1) (.slice B2 D0.ca.length d2) (.slice B3 D0.qu.length d3))
                have PX := hide (show DB (put5 wnmbca g14 (.int .i64 D0.dep) (.int .i64 D0.nxt) (.slice B1 D0.bl.length d1) (.slice B2 D0.ca.length d2) (.slice B3 D0.qu.length d3)) g14 D0 B1 d1 B2 d2 B3 d3 from ⟨put5_box XZ.out (.int .i64 D0.dep) (.int .i64 D0.nxt) (.slice B1 D0.bl.length d1) (.slice B2 D0.ca.length d2) (.slice B3 D0.qu.length d3), devown_kp DO.out (kp_dv KS.out) (by decide) (by decide) (by decide) (by decide)⟩)
                replace O2 := hide (O2.out.kp (kp_dv KS.out) (by decide))
                replace O3 := hide (O3.out.kp (kp_dv KS.out) (by decide))
                replace XB := hide (XB.out.kp KS.out (by decide))
                replace K := hide (K.out.trans KS.out.below)
                clear x0 x1 x2 x3 x4 fb0 fb1 fb2 fb3 fb4 hgl KS XZ DO
                refine hK.out _ _ ?_ (fun hHeld => ?_)
                · trivial
                clear hK K'
                (try simp only [Act.put, List.setIfInBounds_toArray, List.set_cons_succ, List.set_cons_zero])
                refine wpAnyH_take (i := 10) (oi := ⟨some 15, _, _, _, _, _⟩) (v := ?_) rfl (by kernel_rfl) (by kernel_rfl) (by kernel_rfl) (fun _ _ _ h => h) (Or.inl ⟨by kernel_rfl, ?_⟩) (by assumption) ?_
                rotate_left 1
                · (intro w hSw; (try dsimp only at hSw); go_simp) <;> (with_reducible rfl)
                (try simp only [Act.put, List.setIfInBounds_toArray, List.set_cons_succ, List.set_cons_zero])
                refine wpAnyH_done (by kernel_rfl) ?_ _
                refine NoPanic.normal ?_
                go_wp2_with fail
                go_meet
                exact ⟨g14, rfl, rfl, HG, hide ⟨_, _, _, _, _, _, PX.out⟩, O2, O3, XB, K⟩
              refine AllReadyH.cons (o := ⟨some 14, _, _, _, _, _⟩) rfl (fun K' hK => ?_) AllReadyH.nil
              go_simp
              have XZ := hide (Box.new wnmb 57 #[.int .i64 0, .int .i64 0, .slice none 0 0, .slice none 0 0, .slice none 0 0])
              have HG := hide (show w.heap.size ≤ wnmb.heap.size from K.out.size)
              replace K := hide (btrans K.out (bal (brefl _) (.cells #[.int .i64 0, .int .i64 0, .slice none 0 0, .slice none 0 0, .slice none 0 0] 57)))
              replace O1 := hide (O1.out.below (bal (brefl _) (.cells #[.int .i64 0, .int .i64 0, .slice none 0 0, .slice none 0 0, .slice none 0 0] 57)))
              replace O2 := hide (O2.out.below (bal (brefl _) (.cells #[.int .i64 0, .int .i64 0, .slice none 0 0, .slice none 0 0, .slice none 0 0] 57)))
              replace O3 := hide (O3.out.below (bal (brefl _) (.cells #[.int .i64 0, .int .i64 0, .slice none 0 0, .slice none 0 0, .slice none 0 0] 57)))
              replace XB := hide (XB.out.below (bal (brefl _) (.cells #[.int .i64 0, .int .i64 0, .slice none 0 0, .slice none 0 0, .slice none 0 0] 57)))
              replace MA := hide (MA.out.below (bal (brefl _) (.cells #[.int .i64 0, .int .i64 0, .slice none 0 0, .slice none 0 0, .slice none 0 0] 57)))
              replace MB := hide (MB.out.below (bal (brefl _) (.cells #[.int .i64 0, .int .i64 0, .slice none 0 0, .slice none 0 0, .slice none 0 0] 57)))
              replace RW := hide (RW.out.below (bal (brefl _) (.cells #[.int .i64 0, .int .i64 0, .slice none 0 0, .slice none 0 0, .slice none 0 0] 57)))
              obtain ⟨g14, hg14⟩ : ∃ g14, g14 = wnmb.heap.size := ⟨_, rfl⟩
              rw [← hg14] at XZ HG ⊢
              clear hg14
              generalize wnmb.alloc (.cells #[.int .i64 0, .int .i64 0, .slice none 0 0, .slice none 0 0, .slice none 0 0] 57) = wnmba at *
              refine hK.out _ _ ?_ (fun hHeld => ?_)
              · trivial
              clear hK K'
              (try simp only [Act.put, List.setIfInBounds_toArray, List.set_cons_succ, List.set_cons_zero])
              refine wpAnyH_ready (rs := [4]) (by kernel_rfl) (by simp) ?_
              refine AllReadyH.cons (o := ⟨some 62, _, _, _, _, _⟩) rfl (fun K' hK => ?_) AllReadyH.nil
              go_simp
              have CN := hide (new3_at HD0.out A1 c1 ga gb gr wnmba O1.out MA.out MB.out RW.out)
              unfold Dv.DvR2 at CN
              refine CN.out.mono ?_
              rintro e wnmbac ⟨v, rfl, hD, hb⟩
              clear CN
              obtain ⟨B1, d1, B2, d2, B3, d3, rfl⟩ := hD.form
              unfold Dv.dv at hD ⊢
              replace K := hide (btrans K.out hb)
              replace O1 := hide (O1.out.below hb)
              replace O2 := hide (O2.out.below hb)
              replace O3 := hide (O3.out.below hb)
              replace XB := hide (XB.out.below hb)
              replace MA := hide (MA.out.below hb)
              replace MB := hide (MB.out.below hb)
              replace RW := hide (RW.out.below hb)
              replace XZ := hide (XZ.out.below hb)
              have DO := hide (devown_mono hD)
              clear hb hD
              refine hK.out _ _ ?_ (fun hHeld => ?_)
              · trivial
              clear hK K'
              (try simp only [Act.put, List.setIfInBounds_toArray, List.set_cons_succ, List.set_cons_zero])
              refine wpAnyH_take (i := 5) (oi := ⟨some 57, _, _, _, _, _⟩) (v := ?_) rfl (by kernel_rfl) (by kernel_rfl) (by kernel_rfl) (fun _ _ _ h => h) (Or.inl ⟨by kernel_rfl, ?_⟩) (by assumption) ?_
              rotate_left 1
              · (intro w hSw; (try dsimp only at hSw); go_simp) <;> (with_reducible rfl)
              (try simp only [Act.put, List.setIfInBounds_toArray, List.set_cons_succ, List.set_cons_zero])
              refine wpAnyH_take (i := 6) (oi := ⟨some 63, _, _, _, _, _⟩) (v := ?_) rfl (by kernel_rfl) (by kernel_rfl) (by kernel_rfl) (fun _ _ _ h => h) (Or.inl ⟨by kernel_rfl, ?_⟩) (by assumption) ?_
              rotate_left 1
              · (intro w hSw; (try dsimp only at hSw); go_simp) <;> (with_reducible rfl)
              (try simp only [Act.put, List.setIfInBounds_toArray, List.set_cons_succ, List.set_cons_zero])
              refine wpAnyH_take (i := 7) (oi := ⟨some 64, _, _, _, _, _⟩) (v := ?_) rfl (by kernel_rfl) (by kernel_rfl) (by kernel_rfl) (fun _ _ _ h => h) (Or.inl ⟨by kernel_rfl, ?_⟩) (by assumption) ?_
              rotate_left 1
              · (intro w hSw; (try dsimp only at hSw); go_simp) <;> (with_reducible rfl)
              (try simp only [Act.put, List.setIfInBounds_toArray, List.set_cons_succ, List.set_cons_zero])
              refine wpAnyH_ready (rs := [9]) (by kernel_rfl) (by simp) ?_
              refine AllReadyH.cons (o := ⟨none, _, _, _, _, _⟩) rfl (fun K' hK => ?_) AllReadyH.nil
              have x0 := XZ.out.cell 0
              have x1 := XZ.out.cell 1
              have x2 := XZ.out.cell 2
              have x3 := XZ.out.cell 3
              have x4 := XZ.out.cell 4
              simp at x0 x1 x2 x3 x4
              have fb0 := XZ.out.frozen 0
              have fb1 := XZ.out.frozen 1
              have fb2 := XZ.out.frozen 2
              have fb3 := XZ.out.frozen 3
              have fb4 := XZ.out.frozen 4
              have hgl := XZ.out.lt
              go_simp
              have KS := hide (put5_kp (B := w.heap.size) XZ.out HG.out (.int .i64 D0.dep) (.int .i64 D0.nxt) (.slice B1 D0.bl.length d1) (.slice B2 D0.ca.length d2) (.slice B3 D0.qu.length d3))
              have PX := hide (show DB (put5 wnmbac g14 (.int .i64 D0.dep) (.int .i64 D0.nxt) (.slice B1 D0.bl.length d1) (.slice B2 D0.ca.length d2) (.slice B3 D0.qu.length d3)) g14 D0 B1 d1 B2 d2 B3 d3 from ⟨put5_box XZ.out (.int .i64 D0.dep) (.int .i64 D0.nxt) (.slice B1 D0.bl.length d1) (.slice B2 D0.ca.length d2) (.slice B3 D0.qu.length d3), devown_kp DO.out (kp_dv KS.out) (by decide) (by decide) (by decide) (by decide)⟩)
              replace O2 := hide (O2.out.kp (kp_dv KS.out) (by decide))
              replace O3 := hide (O3.out.kp (kp_dv KS.out) (by decide))
              replace XB := hide (XB.out.kp KS.out (by decide))
              replace K := hide (K.out.trans KS.out.below)
              clear x0 x1 x2 x3 x4 fb0 fb1 fb2 fb3 fb4 hgl KS XZ DO
              refine hK.out _ _ ?_ (fun hHeld => ?_)
              · trivial
              clear hK K'
              (try simp only [Act.put, List.setIfInBounds_toArray, List.set_cons_succ, List.set_cons_zero])
              refine wpAnyH_take (i := 10) (oi := ⟨some 15, _, _, _, _, _⟩) (v := ?_) rfl (by kernel_rfl) (by kernel_rfl) (by kernel_rfl) (fun _ _ _ h => h) (Or.inl ⟨by kernel_rfl, ?_⟩) (by assumption) ?_
              rotate_left 1
              · (intro w hSw; (try dsimp only at hSw); go_simp) <;> (with_reducible rfl)
              (try simp only [Act.put, List.setIfInBounds_toArray, List.set_cons_succ, List.set_cons_zero])
              refine wpAnyH_done (by kernel_rfl) ?_ _
              refine NoPanic.normal ?_
              go_wp2_with fail
              go_meet
              exact ⟨g14, rfl, rfl, HG, hide ⟨_, _, _, _, _, _, PX.out⟩, O2, O3, XB, K⟩
            refine AllReadyH.cons (o := ⟨some 14, _, _, _, _, _⟩) rfl (fun K' hK => ?_) AllReadyH.nil
            go_simp
            have XZ := hide (Box.new wnm 57 #[.int .i64 0, .int .i64 0, .slice none 0 0, .slice none 0 0, .slice none 0 0])
            have HG := hide (show w.heap.size ≤ wnm.heap.size from K.out.size)
            replace K := hide (btrans K.out (bal (brefl _) (.cells #[.int .i64 0, .int .i64 0, .slice none 0 0, .slice none 0 0, .slice none 0 0] 57)))
            replace O1 := hide (O1.out.below (bal (brefl _) (.cells #[.int .i64 0, .int .i64 0, .slice none 0 0, .slice none 0 0, .slice none 0 0] 57)))
            replace O2 := hide (O2.out.below (bal (brefl _) (.cells #[.int .i64 0, .int .i64 0, .slice none 0 0, .slice none 0 0, .slice none 0 0] 57)))
            replace O3 := hide (O3.out.below (bal (brefl _) (.cells #[.int .i64 0, .int .i64 0, .slice none 0 0, .slice none 0 0, .slice none 0 0] 57)))
            replace XB := hide (XB.out.below (bal (brefl _) (.cells #[.int .i64 0, .int .i64 0, .slice none 0 0, .slice none 0 0, .slice none 0 0] 57)))
            replace MA := hide (MA.out.below (bal (brefl _) (.cells #[.int .i64 0, .int .i64 0, .slice none 0 0, .slice none 0 0, .slice none 0 0] 57)))
            replace MB := hide (MB.out.below (bal (brefl _) (.cells #[.int .i64 0, .int .i64 0, .slice none 0 0, .slice none 0 0, .slice none 0 0] 57)))
            obtain ⟨g14, hg14⟩ : ∃ g14, g14 = wnm.heap.size := ⟨_, rfl⟩
            rw [← hg14] at XZ HG ⊢
            clear hg14
            generalize wnm.alloc (.cells #[.int .i64 0, .int .i64 0, .slice none 0 0, .slice none 0 0, .slice none 0 0] 57) = wnma at *
            refine hK.out _ _ ?_ (fun hHeld => ?_)
            · trivial
            clear hK K'
            (try simp only [Act.put, List.setIfInBounds_toArray, List.set_cons_succ, List.set_cons_zero])
            refine wpAnyH_ready (rs := [3]) (by kernel_rfl) (by simp) ?_
            refine AllReadyH.cons (o := ⟨some 61, _, _, _, _, _⟩) rfl (fun K' hK => ?_) AllReadyH.nil
            go_simp
            have RW := hide (Box.new wnma 23 #[.slice A1 32 c1, .slice (some ⟨ga, 0, none⟩) 32 32, .slice (some ⟨gb, 0, none⟩) 32 32])
            replace K := hide (btrans K.out (bal (brefl _) (.cells #[.slice A1 32 c1, .slice (some ⟨ga, 0, none⟩) 32 32, .slice (some ⟨gb, 0, none⟩) 32 32] 23)))
            replace O1 := hide (O1.out.below (bal (brefl _) (.cells #[.slice A1 32 c1, .slice (some ⟨ga, 0, none⟩) 32 32, .slice (some ⟨gb, 0, none⟩) 32 32] 23)))
            replace O2 := hide (O2.out.below (bal (brefl _) (.cells #[.slice A1 32 c1, .slice (some ⟨ga, 0, none⟩) 32 32, .slice (some ⟨gb, 0, none⟩) 32 32] 23)))
            replace O3 := hide (O3.out.below (bal (brefl _) (.cells #[.slice A1 32 c1, .slice (some ⟨ga, 0, none⟩) 32 32, .slice (some ⟨gb, 0, none⟩) 32 32] 23)))
            replace XB := hide (XB.out.below (bal (brefl _) (.cells #[.slice A1 32 c1, .slice (some ⟨ga, 0, none⟩) 32 32, .slice (some ⟨gb, 0, none⟩) 32 32] 23)))
            replace MA := hide (MA.out.below (bal (brefl _) (.cells #[.slice A1 32 c1, .slice (some ⟨ga, 0, none⟩) 32 32, .slice (some ⟨gb, 0, none⟩) 32 32] 23)))
            replace MB := hide (MB.out.below (bal (brefl _) (.cells #[.slice A1 32 c1, .slice (some ⟨ga, 0, none⟩) 32 32, .slice (some ⟨gb, 0, none⟩) 32 32] 23)))
            replace XZ := hide (XZ.out.below (bal (brefl _) (.cells #[.slice A1 32 c1, .slice (some ⟨ga, 0, none⟩) 32 32, .slice (some ⟨gb, 0, none⟩) 32 32] 23)))
            obtain ⟨gr, hgr⟩ : ∃ gr, gr = wnma.heap.size := ⟨_, rfl⟩
            rw [← hgr] at RW ⊢
            clear hgr
            generalize wnma.alloc (.cells #[.slice A1 32 c1, .slice (some ⟨ga, 0, none⟩) 32 32, .slice (some ⟨gb, 0, none⟩) 32 32] 23) = wnmab at *
            refine hK.out _ _ ?_ (fun hHeld => ?_)
            · trivial
            clear hK K'
            (try simp only [Act.put, List.setIfInBounds_toArray, List.set_cons_succ, List.set_cons_zero])
            refine wpAnyH_ready (rs := [4]) (by kernel_rfl) (by simp) ?_
            refine AllReadyH.cons (o := ⟨some 62, _, _, _, _, _⟩) rfl (fun K' hK => ?_) AllReadyH.nil
            go_simp
            have CN := hide (new3_at HD0.out A1 c1 ga gb gr wnmab O1.out MA.out MB.out RW.out)
            unfold Dv.DvR2 at CN
            refine CN.out.mono ?_
            rintro e wnmabc ⟨v, rfl, hD, hb⟩
            clear CN
            obtain ⟨B1, d1, B2, d2, B3, d3, rfl⟩ := hD.form
            unfold Dv.dv at hD ⊢
            replace K := hide (btrans K.out hb)
            replace O1 := hide (O1.out.below hb)
            replace O2 := hide (O2.out.below hb)
            replace O3 := hide (O3.out.below hb)
            replace XB := hide (XB.out.below hb)
            replace MA := hide (MA.out.below hb)
            replace MB := hide (MB.out.below hb)
            replace RW := hide (RW.out.below hb)
            replace XZ := hide (XZ.out.below hb)
            have DO := hide (devown_mono hD)
            clear hb hD
            refine hK.out _ _ ?_ (fun hHeld => ?_)
            · trivial
            clear hK K'
            (try simp only [Act.put, List.setIfInBounds_toArray, List.set_cons_succ, List.set_cons_zero])
            refine wpAnyH_take (i := 5) (oi := ⟨some 57, _, _, _, _, _⟩) (v := ?_) rfl (by kernel_rfl) (by kernel_rfl) (by kernel_rfl) (fun _ _ _ h => h) (Or.inl ⟨by kernel_rfl, ?_⟩) (by assumption) ?_
            rotate_left 1
            · (intro w hSw; (try dsimp only at hSw); go_simp) <;> (with_reducible rfl)
            (try simp only [Act.put, List.setIfInBounds_toArray, List.set_cons_succ, List.set_cons_zero])
            refine wpAnyH_take (i := 6) (oi := ⟨some 63, _, _, _, _, _⟩) (v := ?_) rfl (by kernel_rfl) (by kernel_rfl) (by kernel_rfl) (fun _ _ _ h => h) (Or.inl ⟨by kernel_rfl, ?_⟩) (by assumption) ?_
            rotate_left 1
            · (intro w hSw; (try dsimp only at hSw); go_simp) <;> (with_reducible rfl)
            (try simp only [Act.put, List.setIfInBounds_toArray, List.set_cons_succ, List.set_cons_zero])
            refine wpAnyH_take (i := 7) (oi := ⟨some 64, _, _, _, _, _⟩) (v := ?_) rfl (by kernel_rfl) (by kernel_rfl) (by kernel_rfl) (fun _ _ _ h => h) (Or.inl ⟨by kernel_rfl, ?_⟩) (by assumption) ?_
            rotate_left 1
            · (intro w hSw; (try dsimp only at hSw); go_simp) <;> (with_reducible rfl)
            (try simp only [Act.put, List.setIfInBounds_toArray, List.set_cons_succ, List.set_cons_zero])
            refine wpAnyH_ready (rs := [9]) (by kernel_rfl) (by simp) ?_
            refine AllReadyH.cons (o := ⟨none, _, _, _, _, _⟩) rfl (fun K' hK => ?_) AllReadyH.nil
            have x0 := XZ.out.cell 0
            have x1 := XZ.out.cell 1
            have x2 := XZ.out.cell 2
            have x3 := XZ.out.cell 3
            have x4 := XZ.out.cell 4
            simp at x0 x1 x2 x3 x4
            have fb0 := XZ.out.frozen 0
            have fb1 := XZ.out.frozen 1
            have fb2 := XZ.out.frozen 2
            have fb3 := XZ.out.frozen 3
            have fb4 := XZ.out.frozen 4
            have hgl := XZ.out.lt
            go_simp
            have KS := hide (put5_kp (B := w.heap.size) XZ.out HG.out (.int .i64 D0.dep) (.int .i64 D0.nxt) (.slice B1 D0.bl.length d1) (.slice B2 D0.ca.length d2) (.slice B3 D0.qu.length d3))
            have PX := hide (show DB (put5 wnmabc g14 (.int .i64 D0.dep) (.int .i64 D0.nxt) (.slice B1 D0.bl.length d1) (.slice B2 D0.ca.length d2) (.slice B3 D0.qu.length d3)) g14 D0 B1 d1 B2 d2 B3 d3 from ⟨put5_box XZ.out (.int .i64 D0.dep) (.int .i64 D0.nxt) (.slice B1 D0.bl.length d1) (.slice B2 D0.ca.length d2) (.slice B3 D0.qu.length d3), devown_kp DO.out (kp_dv KS.out) (by decide) (by decide) (by decide) (by decide)⟩)
            replace O2 := hide (O2.out.kp (kp_dv KS.out) (by decide))
            replace O3 := hide (O3.out.kp (kp_dv KS.out) (by decide))
            replace XB := hide (XB.out.kp KS.out (by decide))
            replace K := hide (K.out.trans KS.out.below)
            clear x0 x1 x2 x3 x4 fb0 fb1 fb2 fb3 fb4 hgl KS XZ DO
            refine hK.out _ _ ?_ (fun hHeld => ?_)
            · trivial
            clear hK K'
            (try simp only [Act.put, List.setIfInBounds_toArray, List.set_cons_succ, List.set_cons_zero])
            refine wpAnyH_take (i := 10) (oi := ⟨some 15, _, _, _, _, _⟩) (v := ?_) rfl (by kernel_rfl) (by kernel_rfl) (by kernel_rfl) (fun _ _ _ h => h) (Or.inl ⟨by kernel_rfl, ?_⟩) (by assumption) ?_
            rotate_left 1
            · (intro w hSw; (try dsimp only at hSw); go_simp) <;> (with_reducible rfl)
            (try simp only [Act.put, List.setIfInBounds_toArray, List.set_cons_succ, List.set_cons_zero])
            refine wpAnyH_done (by kernel_rfl) ?_ _
            refine NoPanic.normal ?_
            go_wp2_with fail
            go_meet
            exact ⟨g14, rfl, rfl, HG, hide ⟨_, _, _, _, _, _, PX.out⟩, O2, O3, XB, K⟩
          refine AllReadyH.cons (o := ⟨some 14, _, _, _, _, _⟩) rfl (fun K' hK => ?_) AllReadyH.nil
          go_simp
          have XZ := hide (Box.new wn 57 #[.int .i64 0, .int .i64 0, .slice none 0 0, .slice none 0 0, .slice none 0 0])
          have HG := hide (show w.heap.size ≤ wn.heap.size from K.out.size)
          replace K := hide (btrans K.out (bal (brefl _) (.cells #[.int .i64 0, .int .i64 0, .slice none 0 0, .slice none 0 0, .slice none 0 0] 57)))
          replace O1 := hide (O1.out.below (bal (brefl _) (.cells #[.int .i64 0, .int .i64 0, .slice none 0 0, .slice none 0 0, .slice none 0 0] 57)))
          replace O2 := hide (O2.out.below (bal (brefl _) (.cells #[.int .i64 0, .int .i64 0, .slice none 0 0, .slice none 0 0, .slice none 0 0] 57)))
          replace O3 := hide (O3.out.below (bal (brefl _) (.cells #[.int .i64 0, .int .i64 0, .slice none 0 0, .slice none 0 0, .slice none 0 0] 57)))
          replace XB := hide (XB.out.below (bal (brefl _) (.cells #[.int .i64 0, .int .i64 0, .slice none 0 0, .slice none 0 0, .slice none 0 0] 57)))
          replace MB := hide (MB.out.below (bal (brefl _) (.cells #[.int .i64 0, .int .i64 0, .slice none 0 0, .slice none 0 0, .slice none 0 0] 57)))
          obtain ⟨g14, hg14⟩ : ∃ g14, g14 = wn.heap.size := ⟨_, rfl⟩
          rw [← hg14] at XZ HG ⊢
          clear hg14
          generalize wn.alloc (.cells #[.int .i64 0, .int .i64 0, .slice none 0 0, .slice none 0 0, .slice none 0 0] 57) = wna at *
          refine hK.out _ _ ?_ (fun hHeld => ?_)
          · trivial
          clear hK K'
          (try simp only [Act.put, List.setIfInBounds_toArray, List.set_cons_succ, List.set_cons_zero])
          refine wpAnyH_ready (rs := [1]) (by kernel_rfl) (by simp) ?_
          refine AllReadyH.cons (o := ⟨some 59, _, _, _, _, _⟩) rfl (fun K' hK => ?_) AllReadyH.nil
          go_simp
          have MA := hide (bk_new wna)
          replace K := hide (btrans K.out (bal (brefl _) (.cells Z32 5)))
          replace O1 := hide (O1.out.below (bal (brefl _) (.cells Z32 5)))
          replace O2 := hide (O2.out.below (bal (brefl _) (.cells Z32 5)))
          replace O3 := hide (O3.out.below (bal (brefl _) (.cells Z32 5)))
          replace XB := hide (XB.out.below (bal (brefl _) (.cells Z32 5)))
          replace MB := hide (MB.out.below (bal (brefl _) (.cells Z32 5)))
          replace XZ := hide (XZ.out.below (bal (brefl _) (.cells Z32 5)))
          obtain ⟨ga, hga⟩ : ∃ ga, ga = wna.heap.size := ⟨_, rfl⟩
          rw [← hga] at MA ⊢
          clear hga
          generalize wna.alloc (.cells Z32 5) = wnam at *
          refine hK.out _ _ ?_ (fun hHeld => ?_)
          · trivial
          clear hK K'
          (try simp only [Act.put, List.setIfInBounds_toArray, List.set_cons_succ, List.set_cons_zero])
          refine wpAnyH_ready (rs := [3]) (by kernel_rfl) (by simp) ?_
          refine AllReadyH.cons (o := ⟨some 61, _, _, _, _, _⟩) rfl (fun K' hK => ?_) AllReadyH.nil
          go_simp
          have RW := hide (Box.new wnam 23 #[.slice A1 32 c1, .slice (some ⟨ga, 0, none⟩) 32 32, .slice (some ⟨gb, 0, none⟩) 32 32])
          replace K := hide (btrans K.out (bal (brefl _) (.cells #[.slice A1 32 c1, .slice (some ⟨ga, 0, none⟩) 32 32, .slice (some ⟨gb, 0, none⟩) 32 32] 23)))
          replace O1 := hide (O1.out.below (bal (brefl _) (.cells #[.slice A1 32 c1, .slice (some ⟨ga, 0, none⟩) 32 32, .slice (some ⟨gb, 0, none⟩) 32 32] 23)))
          replace O2 := hide (O2.out.below (bal (brefl _) (.cells #[.slice A1 32 c1, .slice (some ⟨ga, 0, none⟩) 32 32, .slice (some ⟨gb, 0, none⟩) 32 32] 23)))
          replace O3 := hide (O3.out.below (bal (brefl _) (.cells #[.slice A1 32 c1, .slice (some ⟨ga, 0, none⟩) 32 32, .slice (some ⟨gb, 0, none⟩) 32 32] 23)))
          replace XB := hide (XB.out.below (bal (brefl _) (.cells #[.slice A1 32 c1, .slice (some ⟨ga, 0, none⟩) 32 32, .slice (some ⟨gb, 0, none⟩) 32 32] 23)))
          replace MA := hide (MA.out.below (bal (brefl _) (.cells #[.slice A1 32 c1, .slice (some ⟨ga, 0, none⟩) 32 32, .slice (some ⟨gb, 0, none⟩) 32 32] 23)))
          replace MB := hide (MB.out.below (bal (brefl _) (.cells #[.slice A1 32 c1, .slice (some ⟨ga, 0, none⟩) 32 32, .slice (some ⟨gb, 0, none⟩) 32 32] 23)))
          replace XZ := hide (XZ.out.below (bal (brefl _) (.cells #[.slice A1 32 c1, .slice (some ⟨ga, 0, none⟩) 32 32, .slice (some ⟨gb, 0, none⟩) 32 32] 23)))
          obtain ⟨gr, hgr⟩ : ∃ gr, gr = wnam.heap.size := ⟨_, rfl⟩
          rw [← hgr] at RW ⊢
          clear hgr
          generalize wnam.alloc (.cells #[.slice A1 32 c1, .slice (some ⟨ga, 0, none⟩) 32 32, .slice (some ⟨gb, 0, none⟩) 32 32] 23) = wnamb at *
          refine hK.out _ _ ?_ (fun hHeld => ?_)
          · trivial
          clear hK K'
          (try simp only [Act.put, List.setIfInBounds_toArray, List.set_cons_succ, List.set_cons_zero])
          refine wpAnyH_ready (rs := [4]) (by kernel_rfl) (by simp) ?_
          refine AllReadyH.cons (o := ⟨some 62, _, _, _, _, _⟩) rfl (fun K' hK => ?_) AllReadyH.nil
          go_simp
          have CN := hide (new3_at HD0.out A1 c1 ga gb gr wnamb O1.out MA.out MB.out RW.out)
          unfold Dv.DvR2 at CN
          refine CN.out.mono ?_
          rintro e wnambc ⟨v, rfl, hD, hb⟩
          clear CN
          obtain ⟨B1, d1, B2, d2, B3, d3, rfl⟩ := hD.form
          unfold Dv.dv at hD ⊢
          replace K := hide (btrans K.out hb)
          replace O1 := hide (O1.out.below hb)
          replace O2 := hide (O2.out.below hb)
          replace O3 := hide (O3.out.below hb)
          replace XB := hide (XB.out.below hb)
          replace MA := hide (MA.out.below hb)
          replace MB := hide (MB.out.below hb)
          replace RW := hide (RW.out.below hb)
          replace XZ := hide (XZ.out.below hb)
          have DO := hide (devown_mono hD)
          clear hb hD
          refine hK.out _ _ ?_ (fun hHeld => ?_)
          · trivial
          clear hK K'
          (try simp only [Act.put, List.setIfInBounds_toArray, List.set_cons_succ, List.set_cons_zero])
          refine wpAnyH_take (i := 5) (oi := ⟨some 57, _, _, _, _, _⟩) (v := ?_) rfl (by kernel_rfl) (by kernel_rfl) (by kernel_rfl) (fun _ _ _ h => h) (Or.inl ⟨by kernel_rfl, ?_⟩) (by assumption) ?_
          rotate_left 1
          · (intro w hSw; (try dsimp only at hSw); go_simp) <;> (with_reducible rfl)
          (try simp only [Act.put, List.setIfInBounds_toArray, List.set_cons_succ, List.set_cons_zero])
          refine wpAnyH_take (i := 6) (oi := ⟨some 63, _, _, _, _, _⟩) (v := ?_) rfl (by kernel_rfl) (by kernel_rfl) (by kernel_rfl) (fun _ _ _ h => h) (Or.inl ⟨by kernel_rfl, ?_⟩) (by assumption) ?_
          rotate_left 1
          · (intro w hSw; (try dsimp only at hSw); go_simp) <;> (with_reducible rfl)
          (try simp only [Act.put, List.setIfInBounds_toArray, List.set_cons_succ, List.set_cons_zero])
          refine wpAnyH_take (i := 7) (oi := ⟨some 64, _, _, _, _, _⟩) (v := ?_) rfl (by kernel_rfl) (by kernel_rfl) (by kernel_rfl) (fun _ _ _ h => h) (Or.inl ⟨by kernel_rfl, ?_⟩) (by assumption) ?_
          rotate_left 1
          · (intro w hSw; (try dsimp only at hSw); go_simp) <;> (with_reducible rfl)
          (try simp only [Act.put, List.setIfInBounds_toArray, List.set_cons_succ, List.set_cons_zero])
          refine wpAnyH_ready (rs := [9]) (by kernel_rfl) (by simp) ?_
          refine AllReadyH.cons (o := ⟨none, _, _, _, _, _⟩) rfl (fun K' hK => ?_) AllReadyH.nil
          have x0 := XZ.out.cell 0
          have x1 := XZ.out.cell 1
          have x2 := XZ.out.cell 2
          have x3 := XZ.out.cell 3
          have x4 := XZ.out.cell 4
          simp at x0 x1 x2 x3 x4
          have fb0 := XZ.out.frozen 0
          have fb1 := XZ.out.frozen 1
          have fb2 := XZ.out.frozen 2
          have fb3 := XZ.out.frozen 3
          have fb4 := XZ.out.frozen 4
          have hgl := XZ.out.lt
          go_simp
          have KS := hide (put5_kp (B := w.heap.size) XZ.out HG.out (.int .i64 D0.dep) (.int .i64 D0.nxt) (.slice B1 D0.bl.length d1) (.slice B2 D0.ca.length d2) (.slice B3 D0.qu.length d3))
          have PX := hide (show DB (put5 wnambc g14 (.int .i64 D0.dep) (.int .i64 D0.nxt) (.slice B1 D0.bl.length d1) (.slice B2 D0.ca.length d2) (.slice B3 D0.qu.length d3)) g14 D0 B1 d1 B2 d2 B3 d3 from ⟨put5_box XZ.out (.int .i64 D0.dep) (.int .i64 D0.nxt) (.slice B1 D0.bl.length d1) (.slice B2 D0.ca.length d2) (.slice B3 D0.qu.length d3), devown_kp DO.out (kp_dv KS.out) (by decide) (by decide) (by decide) (by decide)⟩)
          replace O2 := hide (O2.out.kp (kp_dv KS.out) (by decide))
          replace O3 := hide (O3.out.kp (kp_dv KS.out) (by decide))
          replace XB := hide (XB.out.kp KS.out (by decide))
          replace K := hide (K.out.trans KS.out.below)
          clear x0 x1 x2 x3 x4 fb0 fb1 fb2 fb3 fb4 hgl KS XZ DO
          refine hK.out _ _ ?_ (fun hHeld => ?_)
          · trivial
          clear hK K'
          (try simp only [Act.put, List.setIfInBounds_toArray, List.set_cons_succ, List.set_cons_zero])
          refine wpAnyH_take (i := 10) (oi := ⟨some 15, _, _, _, _, _⟩) (v := ?_) rfl (by kernel_rfl) (by kernel_rfl) (by kernel_rfl) (fun _ _ _ h => h) (Or.inl ⟨by kernel_rfl, ?_⟩) (by assumption) ?_
          rotate_left 1
          · (intro w hSw; (try dsimp only at hSw); go_simp) <;> (with_reducible rfl)
          (try simp only [Act.put, List.setIfInBounds_toArray, List.set_cons_succ, List.set_cons_zero])
          refine wpAnyH_done (by kernel_rfl) ?_ _
          refine NoPanic.normal ?_
          go_wp2_with fail
          go_meet
          exact ⟨g14, rfl, rfl, HG, hide ⟨_, _, _, _, _, _, PX.out⟩, O2, O3, XB, K⟩
        refine AllReadyH.cons (o := ⟨some 14, _, _, _, _, _⟩) rfl (fun K' hK => ?_) AllReadyH.nil
        go_simp
        have XZ := hide (Box.new wa 57 #[.int .i64 0, .int .i64 0, .slice none 0 0, .slice none 0 0, .slice none 0 0])
        have HG := hide (show w.heap.size ≤ wa.heap.size from K.out.size)
        replace K := hide (btrans K.out (bal (brefl _) (.cells #[.int .i64 0, .int .i64 0, .slice none 0 0, .slice none 0 0, .slice none 0 0] 57)))
        replace O1 := hide (O1.out.below (bal (brefl _) (.cells #[.int .i64 0, .int .i64 0, .slice none 0 0, .slice none 0 0, .slice none 0 0] 57)))
        replace O2 := hide (O2.out.below (bal (brefl _) (.cells #[.int .i64 0, .int .i64 0, .slice none 0 0, .slice none 0 0, .slice none 0 0] 57)))
        replace O3 := hide (O3.out.below (bal (brefl _) (.cells #[.int .i64 0, .int .i64 0, .slice none 0 0, .slice none 0 0, .slice none 0 0] 57)))
        replace XB := hide (XB.out.below (bal (brefl _) (.cells #[.int .i64 0, .int .i64 0, .slice none 0 0, .slice none 0 0, .slice none 0 0] 57)))
        obtain ⟨g14, hg14⟩ : ∃ g14, g14 = wa.heap.size := ⟨_, rfl⟩
        rw [← hg14] at XZ HG ⊢
        clear hg14
        generalize wa.alloc (.cells #[.int .i64 0, .int .i64 0, .slice none 0 0, .slice none 0 0, .slice none 0 0] 57) = wa at *
        refine hK.out _ _ ?_ (fun hHeld => ?_)
        · trivial
        clear hK K'
        (try simp only [Act.put, List.setIfInBounds_toArray, List.set_cons_succ, List.set_cons_zero])
        refine wpAnyH_ready (rs := [1, 2]) (by kernel_rfl) (by simp) ?_
        refine AllReadyH.cons (o := ⟨some 59, _, _, _, _, _⟩) rfl (fun K' hK => ?_) ?_
        · go_simp
          have MA := hide (bk_new wa)
          replace K := hide (btrans K.out (bal (brefl _) (.cells Z32 5)))
          replace O1 := hide (O1.out.below (bal (brefl _) (.cells Z32 5)))
          replace O2 := hide (O2.out.below (bal (brefl _) (.cells Z32 5)))
          replace O3 := hide (O3.out.below (bal (brefl _) (.cells Z32 5)))
          replace XB := hide (XB.out.below (bal (brefl _) (.cells Z32 5)))
          replace XZ := hide (XZ.out.below (bal (brefl _) (.cells Z32 5)))
          obtain ⟨ga, hga⟩ : ∃ ga, ga = wa.heap.size := ⟨_, rfl⟩
          rw [← hga] at MA ⊢
          clear hga
          generalize wa.alloc (.cells Z32 5) = wam at *
          refine hK.out _ _ ?_ (fun hHeld => ?_)
          · trivial
          clear hK K'
          (try simp only [Act.put, List.setIfInBounds_toArray, List.set_cons_succ, List.set_cons_zero])
          refine wpAnyH_ready (rs := [2]) (by kernel_rfl) (by simp) ?_
          refine AllReadyH.cons (o := ⟨some 60, _, _, _, _, _⟩) rfl (fun K' hK => ?_) AllReadyH.nil
          go_simp
          have MB := hide (bk_new wam)
          replace K := hide (btrans K.out (bal (brefl _) (.cells Z32 5)))
          replace O1 := hide (O1.out.below (bal (brefl _) (.cells Z32 5)))
          replace O2 := hide (O2.out.below (bal (brefl _) (.cells Z32 5)))
          replace O3 := hide (O3.out.below (bal (brefl _) (.cells Z32 5)))
          replace XB := hide (XB.out.below (bal (brefl _) (.cells Z32 5)))
          replace MA := hide (MA.out.below (bal (brefl _) (.cells Z32 5)))
          replace XZ := hide (XZ.out.below (bal (brefl _) (.cells Z32 5)))
          obtain ⟨gb, hgb⟩ : ∃ gb, gb = wam.heap.size := ⟨_, rfl⟩
          rw [← hgb] at MB ⊢
          clear hgb
          generalize wam.alloc (.cells Z32 5) = wamn at *
          refine hK.out _ _ ?_ (fun hHeld => ?_)
          · trivial
          clear hK K'
          (try simp only [Act.put, List.setIfInBounds_toArray, List.set_cons_succ, List.set_cons_zero])
          refine wpAnyH_ready (rs := [3]) (by kernel_rfl) (by simp) ?_
          refine AllReadyH.cons (o := ⟨some 61, _, _, _, _, _⟩) rfl (fun K' hK => ?_) AllReadyH.nil
          go_simp
          have RW := hide (Box.new wamn 23 #[.slice A1 32 c1, .slice (some ⟨ga, 0, none⟩) 32 32, .slice (some ⟨gb, 0, none⟩) 32 32])
          replace K := hide (btrans K.out (bal (brefl _) (.cells #[.slice A1 32 c1, .slice (some ⟨ga, 0, none⟩) 32 32, .slice (some ⟨gb, 0, none⟩) 32 32] 23)))
          replace O1 := hide (O1.out.below (bal (brefl _) (.cells #[.slice A1 32 c1, .slice (some ⟨ga, 0, none⟩) 32 32, .slice (some ⟨gb, 0, none⟩) 32 32] 23)))
          replace O2 := hide (O2.out.below (bal (brefl _) (.cells #[.slice A1 32 c1, .slice (some ⟨ga, 0, none⟩) 32 32, .slice (some ⟨gb, 0, none⟩) 32 32] 23)))
          replace O3 := hide (O3.out.below (bal (brefl _) (.cells #[.slice A1 32 c1, .slice (some ⟨ga, 0, none⟩) 32 32, .slice (some ⟨gb, 0, none⟩) 32 32] 23)))
          replace XB := hide (XB.out.below (bal (brefl _) (.cells #[.slice A1 32 c1, .slice (some ⟨ga, 0, none⟩) 32 32, .slice (some ⟨gb, 0, none⟩) 32 32] 23)))
          replace MA := hide (MA.out.below (bal (brefl _) (.cells #[.slice A1 32 c1, .slice (some ⟨ga, 0, none⟩) 32 32, .slice (some ⟨gb, 0, none⟩) 32 32] 23)))
          replace MB := hide (MB.out.below (bal (brefl _) (.cells #[.slice A1 32 c1, .slice (some ⟨ga, 0, none⟩) 32 32, .slice (some ⟨gb, 0, none⟩) 32 32] 23)))
          replace XZ := hide (XZ.out.below (bal (brefl _) (.cells #[.slice A1 32 c1, .slice (some ⟨ga, 0, none⟩) 32 32, .slice (some ⟨gb, 0, none⟩) 32 32] 23)))
          obtain ⟨gr, hgr⟩ : ∃ gr, gr = wamn.heap.size := ⟨_, rfl⟩
          rw [← hgr] at RW ⊢
          clear hgr
          generalize wamn.alloc (.cells #[.slice A1 32 c1, .slice (some ⟨ga, 0, none⟩) 32 32, .slice (some ⟨gb, 0, none⟩) 32 32] 23) = wamnb at *
          refine hK.out _ _ ?_ (fun hHeld => ?_)
          · trivial
          clear hK K'
          (try simp only [Act.put, List.setIfInBounds_toArray, List.set_cons_succ, List.set_cons_zero])
          refine wpAnyH_ready (rs := [4]) (by kernel_rfl) (by simp) ?_
          refine AllReadyH.cons (o := ⟨some 62, _, _, _, _, _⟩) rfl (fun K' hK => ?_) AllReadyH.nil
          go_simp
          have CN := hide (new3_at HD0.out A1 c1 ga gb gr wamnb O1.out MA.out MB.out RW.out)
          unfold Dv.DvR2 at CN
          refine CN.out.mono ?_
          rintro e wamnbc ⟨v, rfl, hD, hb⟩
          clear CN
          obtain ⟨B1, d1, B2, d2, B3, d3, rfl⟩ := hD.form
          unfold Dv.dv at hD ⊢
          replace K := hide (btrans K.out hb)
          replace O1 := hide (O1.out.below hb)
          replace O2 := hide (O2.out.below hb)
          replace O3 := hide (O3.out.below hb)
          replace XB := hide (XB.out.below hb)
          replace MA := hide (MA.out.below hb)
          replace MB := hide (MB.out.below hb)
          replace RW := hide (RW.out.below hb)
          replace XZ := hide (XZ.out.below hb)
          have DO := hide (devown_mono hD)
          clear hb hD
          refine hK.out _ _ ?_ (fun hHeld => ?_)
          · trivial
          clear hK K'
          (try simp only [Act.put, List.setIfInBounds_toArray, List.set_cons_succ, List.set_cons_zero])
          refine wpAnyH_take (i := 5) (oi := ⟨some 57, _, _, _, _, _⟩) (v := ?_) rfl (by kernel_rfl) (by kernel_rfl) (by kernel_rfl) (fun _ _ _ h => h) (Or.inl ⟨by kernel_rfl, ?_⟩) (by assumption) ?_
          rotate_left 1
          · (intro w hSw; (try dsimp only at hSw); go_simp) <;> (with_reducible rfl)
          (try simp only [Act.put, List.setIfInBounds_toArray, List.set_cons_succ, List.set_cons_zero])
          refine wpAnyH_take (i := 6) (oi := ⟨some 63, _, _, _, _, _⟩) (v := ?_) rfl (by kernel_rfl) (by kernel_rfl) (by kernel_rfl) (fun _ _ _ h => h) (Or.inl ⟨by kernel_rfl, ?_⟩) (by assumption) ?_
          rotate_left 1
          · (intro w hSw; (try dsimp only at hSw); go_simp) <;> (with_reducible rfl)
          (try simp only [Act.put, List.setIfInBounds_toArray, List.set_cons_succ, List.set_cons_zero])
          refine wpAnyH_take (i := 7) (oi := ⟨some 64, _, _, _, _, _⟩) (v := ?_) rfl (by kernel_rfl) (by kernel_rfl) (by kernel_rfl) (fun _ _ _ h => h) (Or.inl ⟨by kernel_rfl, ?_⟩) (by assumption) ?_
          rotate_left 1
          · (intro w hSw; (try dsimp only at hSw); go_simp) <;> (with_reducible rfl)
          (try simp only [Act.put, List.setIfInBounds_toArray, List.set_cons_succ, List.set_cons_zero])
          refine wpAnyH_ready (rs := [9]) (by kernel_rfl) (by simp) ?_
          refine AllReadyH.cons (o := ⟨none, _, _, _, _, _⟩) rfl (fun K' hK => ?_) AllReadyH.nil
          have x0 := XZ.out.cell 0
          have x1 := XZ.out.cell 1
          have x2 := XZ.out.cell 2
          have x3 := XZ.out.cell 3
          have x4 := XZ.out.cell 4
          simp at x0 x1 x2 x3 x4
          have fb0 := XZ.out.frozen 0
          have fb1 := XZ.out.frozen 1
          have fb2 := XZ.out.frozen 2
          have fb3 := XZ.out.frozen 3
          have fb4 := XZ.out.frozen 4
          have hgl := XZ.out.lt
          go_simp
          have KS := hide (put5_kp (B := w.heap.size) XZ.out HG.out (.int .i64 D0.dep) (.int .i64 D0.nxt) (.slice B1 D0.bl.length d1) (.slice B2 D0.ca.length d2) (.slice B3 D0.qu.length d3))
          have PX := hide (show DB (put5 wamnbc g14 (.int .i64 D0.dep) (.int .i64 D0.nxt) (.slice B1 D0.bl.length d1) (.slice B2 D0.ca.length d2) (.slice B3 D0.qu.length d3)) g14 D0 B1 d1 B2 d2 B3 d3 from ⟨put5_box XZ.out (.int .i64 D0.dep) (.int .i64 D0.nxt) (.slice B1 D0.bl.length d1) (.slice B2 D0.ca.length d2) (.slice B3 D0.qu.length d3), devown_kp DO.out (kp_dv KS.out) (by decide) (by decide) (by decide) (by decide)⟩)
          replace O2 := hide (O2.out.kp (kp_dv KS.out) (by decide))
          replace O3 := hide (O3.out.kp (kp_dv KS.out) (by decide))
          replace XB := hide (XB.out.kp KS.out (by decide))
          replace K := hide (K.out.trans KS.out.below)
          clear x0 x1 x2 x3 x4 fb0 fb1 fb2 fb3 fb4 hgl KS XZ DO
          refine hK.out _ _ ?_ (fun hHeld => ?_)
          · trivial
          clear hK K'
          (try simp only [Act.put, List.setIfInBounds_toArray, List.set_cons_succ, List.set_cons_zero])
          refine wpAnyH_take (i := 10) (oi := ⟨some 15, _, _, _, _, _⟩) (v := ?_) rfl (by kernel_rfl) (by kernel_rfl) (by kernel_rfl) (fun _ _ _ h => h) (Or.inl ⟨by kernel_rfl, ?_⟩) (by assumption) ?_
          rotate_left 1
          · (intro w hSw; (try dsimp only at hSw); go_simp) <;> (with_reducible rfl)
          (try simp only [Act.put, List.setIfInBounds_toArray, List.set_cons_succ, List.set_cons_zero])
          refine wpAnyH_done (by kernel_rfl) ?_ _
          refine NoPanic.normal ?_
          go_wp2_with fail
          go_meet
          exact ⟨g14, rfl, rfl, HG, hide ⟨_, _, _, _, _, _, PX.out⟩, O2, O3, XB, K⟩
        refine AllReadyH.cons (o := ⟨some 60, _, _, _, _, _⟩) rfl (fun K' hK => ?_) AllReadyH.nil
        go_simp
        have MB := hide (bk_new wa)
        replace K := hide (btrans K.out (bal (brefl _) (.cells Z32 5)))
        replace O1 := hide (O1.out.below (bal (brefl _) (.cells Z32 5)))
        replace O2 := hide (O2.out.below (bal (brefl _) (.cells Z32 5)))
        replace O3 := hide (O3.out.below (bal (brefl _) (.cells Z32 5)))
        replace XB := hide (XB.out.below (bal (brefl _) (.cells Z32 5)))
        replace XZ := hide (XZ.out.below (bal (brefl _) (.cells Z32 5)))
        obtain ⟨gb, hgb⟩ : ∃ gb, gb = wa.heap.size := ⟨_, rfl⟩
        rw [← hgb] at MB ⊢
        clear hgb
        generalize wa.alloc (.cells Z32 5) = wan at *
        refine hK.out _ _ ?_ (fun hHeld => ?_)
        · trivial
        clear hK K'
        (try simp only [Act.put, List.setIfInBounds_toArray, List.set_cons_succ, List.set_cons_zero])
        refine wpAnyH_ready (rs := [1]) (by kernel_rfl) (by simp) ?_
        refine AllReadyH.cons (o := ⟨some 59, _, _, _, _, _⟩) rfl (fun K' hK => ?_) AllReadyH.nil
        go_simp
        have MA := hide (bk_new wan)
        replace K := hide (btrans K.out (bal (brefl _) (.cells Z32 5)))
        replace O1 := hide (O1.out.below (bal (brefl _) (.cells Z32 5)))
        replace O2 := hide (O2.out.below (bal (brefl _) (.cells Z32 5)))
        replace O3 := hide (O3.out.below (bal (brefl _) (.cells Z32 5)))
        replace XB := hide (XB.out.below (bal (brefl _) (.cells Z32 5)))
        replace MB := hide (MB.out.below (bal (brefl _) (.cells Z32 5)))
        replace XZ := hide (XZ.out.below (bal (brefl _) (.cells Z32 5)))
        obtain ⟨ga, hga⟩ : ∃ ga, ga = wan.heap.size := ⟨_, rfl⟩
        rw [← hga] at MA ⊢
        clear hga
        generalize wan.alloc (.cells Z32 5) = wanm at *
        refine hK.out _ _ ?_ (fun hHeld => ?_)
        · trivial
        clear hK K'
        (try simp only [Act.put, List.setIfInBounds_toArray, List.set_cons_succ, List.set_cons_zero])
        refine wpAnyH_ready (rs := [3]) (by kernel_rfl) (by simp) ?_
        refine AllReadyH.cons (o := ⟨some 61, _, _, _, _, _⟩) rfl (fun K' hK => ?_) AllReadyH.nil
        go_simp
        have RW := hide (Box.new wanm 23 #[.slice A1 32 c1, .slice (some ⟨ga, 0, none⟩) 32 32, .slice (some ⟨gb, 0, none⟩) 32 32])
        replace K := hide (btrans K.out (bal (brefl _) (.cells #[.slice A1 32 c1, .slice (some ⟨ga, 0, none⟩) 32 32, .slice (some ⟨gb, 0, none⟩) 32 32] 23)))
        replace O1 := hide (O1.out.below (bal (brefl _) (.cells #[.slice A1 32 c1, .slice (some ⟨ga, 0, none⟩) 32 32, .slice (some ⟨gb, 0, none⟩) 32 32] 23)))
        replace O2 := hide (O2.out.below (bal (brefl _) (.cells #[.slice A1 32 c1, .slice (some ⟨ga, 0, none⟩) 32 32, .slice (some ⟨gb, 0, none⟩) 32 32] 23)))
        replace O3 := hide (O3.out.below (bal (brefl _) (.cells #[.slice A1 32 c1, .slice (some ⟨ga, 0, none⟩) 32 32, .slice (some ⟨gb, 0, none⟩) 32 32] 23)))
        replace XB := hide (XB.out.below (bal (brefl _) (.cells #[.slice A1 32 c1, .slice (some ⟨ga, 0, none⟩) 32 32, .slice (some ⟨gb, 0, none⟩) 32 32] 23)))
        replace MA := hide (MA.out.below (bal (brefl _) (.cells #[.slice A1 32 c1, .slice (some ⟨ga, 0, none⟩) 32 32, .slice (some ⟨gb, 0, none⟩) 32 32] 23)))
        replace MB := hide (MB.out.below (bal (brefl _) (.cells #[.slice A1 32 c1, .slice (some ⟨ga, 0, none⟩) 32 32, .slice (some ⟨gb, 0, none⟩) 32 32] 23)))
        replace XZ := hide (XZ.out.below (bal (brefl _) (.cells #[.slice A1 32 c1, .slice (some ⟨ga, 0, none⟩) 32 32, .slice (some ⟨gb, 0, none⟩) 32 32] 23)))
        obtain ⟨gr, hgr⟩ : ∃ gr, gr = wanm.heap.size := ⟨_, rfl⟩
        rw [← hgr] at RW ⊢
        clear hgr
        generalize wanm.alloc (.cells #[.slice A1 32 c1, .slice (some ⟨ga, 0, none⟩) 32 32, .slice (some ⟨gb, 0, none⟩) 32 32] 23) = wanmb at *
        refine hK.out _ _ ?_ (fun hHeld => ?_)
        · trivial
        clear hK K'
        (try simp only [Act.put, List.setIfInBounds_toArray, List.set_cons_succ, List.set_cons_zero])
        refine wpAnyH_ready (rs := [4]) (by kernel_rfl) (by simp) ?_
        refine AllReadyH.cons (o := ⟨some 62, _, _, _, _, _⟩) rfl (fun K' hK => ?_) AllReadyH.nil
        go_simp
        have CN := hide (new3_at HD0.out A1 c1 ga gb gr wanmb O1.out MA.out MB.out RW.out)
        unfold Dv.DvR2 at CN
        refine CN.out.mono ?_
        rintro e wanmbc ⟨v, rfl, hD, hb⟩
        clear CN
        obtain ⟨B1, d1, B2, d2, B3, d3, rfl⟩ := hD.form
        unfold Dv.dv at hD ⊢
        replace K := hide (btrans K.out hb)
        replace O1 := hide (O1.out.below hb)
        replace O2 := hide (O2.out.below hb)
        replace O3 := hide (O3.out.below hb)
        replace XB := hide (XB.out.below hb)
        replace MA := hide (MA.out.below hb)
        replace MB := hide (MB.out.below hb)
        replace RW := hide (RW.out.below hb)
        replace XZ := hide (XZ.out.below hb)
        have DO := hide (devown_mono hD)
        clear hb hD
        refine hK.out _ _ ?_ (fun hHeld => ?_)
        · trivial
        clear hK K'
        (try simp only [Act.put, List.setIfInBounds_toArray, List.set_cons_succ, List.set_cons_zero])
        refine wpAnyH_take (i := 5) (oi := ⟨some 57, _, _, _, _, _⟩) (v := ?_) rfl (by kernel_rfl) (by kernel_rfl) (by kernel_rfl) (fun _ _ _ h => h) (Or.inl ⟨by kernel_rfl, ?_⟩) (by assumption) ?_
        rotate_left 1
        · (intro w hSw; (try dsimp only at hSw); go_simp) <;> (with_reducible rfl)
        (try simp only [Act.put, List.setIfInBounds_toArray, List.set_cons_succ, List.set_cons_zero])
        refine wpAnyH_take (i := 6) (oi := ⟨some 63, _, _, _, _, _⟩) (v := ?_) rfl (by kernel_rfl) (by kernel_rfl) (by kernel_rfl) (fun _ _ _ h => h) (Or.inl ⟨by kernel_rfl, ?_⟩) (by assumption) ?_
        rotate_left 1
        · (intro w hSw; (try dsimp only at hSw); go_simp) <;> (with_reducible rfl)
        (try simp only [Act.put, List.setIfInBounds_toArray, List.set_cons_succ, List.set_cons_zero])
        refine wpAnyH_take (i := 7) (oi := ⟨some 64, _, _, _, _, _⟩) (v := ?_) rfl (by kernel_rfl) (by kernel_rfl) (by kernel_rfl) (fun _ _ _ h => h) (Or.inl ⟨by kernel_rfl, ?_⟩) (by assumption) ?_
        rotate_left 1
        · (intro w hSw; (try dsimp only at hSw); go_simp) <;> (with_reducible rfl)
        (try simp only [Act.put, List.setIfInBounds_toArray, List.set_cons_succ, List.set_cons_zero])
        refine wpAnyH_ready (rs := [9]) (by kernel_rfl) (by simp) ?_
        refine AllReadyH.cons (o := ⟨none, _, _, _, _, _⟩) rfl (fun K' hK => ?_) AllReadyH.nil
        have x0 := XZ.out.cell 0
        have x1 := XZ.out.cell 1
        have x2 := XZ.out.cell 2
        have x3 := XZ.out.cell 3
        have x4 := XZ.out.cell 4
        simp at x0 x1 x2 x3 x4
        have fb0 := XZ.out.frozen 0
        have fb1 := XZ.out.frozen 1
        have fb2 := XZ.out.frozen 2
        have fb3 := XZ.out.frozen 3
        have fb4 := XZ.out.frozen 4
        have hgl := XZ.out.lt
        go_simp
        have KS := hide (put5_kp (B := w.heap.size) XZ.out HG.out (.int .i64 D0.dep) (.int .i64 D0.nxt) (.slice B1 D0.bl.length d1) (.slice B2 D0.ca.length d2) (.slice B3 D0.qu.length d3))
        have PX := hide (show DB (put5 wanmbc g14 (.int .i64 D0.dep) (.int .i64 D0.nxt) (.slice B1 D0.bl.length d1) (.slice B2 D0.ca.length d2) (.slice B3 D0.qu.length d3)) g14 D0 B1 d1 B2 d2 B3 d3 from ⟨put5_box XZ.out (.int .i64 D0.dep) (.int .i64 D0.nxt) (.slice B1 D0.bl.length d1) (.slice B2 D0.ca.length d2) (.slice B3 D0.qu.length d3), devown_kp DO.out (kp_dv KS.out) (by decide) (by decide) (by decide) (by decide)⟩)
        replace O2 := hide (O2.out.kp (kp_dv KS.out) (by decide))
        replace O3 := hide (O3.out.kp (kp_dv KS.out) (by decide))
        replace XB := hide (XB.out.kp KS.out (by decide))
        replace K := hide (K.out.trans KS.out.below)
        clear x0 x1 x2 x3 x4 fb0 fb1 fb2 fb3 fb4 hgl KS XZ DO
        refine hK.out _ _ ?_ (fun hHeld => ?_)
        · trivial
        clear hK K'
        (try simp only [Act.put, List.setIfInBounds_toArray, List.set_cons_succ, List.set_cons_zero])
        refine wpAnyH_take (i := 10) (oi := ⟨some 15, _, _, _, _, _⟩) (v := ?_) rfl (by kernel_rfl) (by kernel_rfl) (by kernel_rfl) (fun _ _ _ h => h) (Or.inl ⟨by kernel_rfl, ?_⟩) (by assumption) ?_
        rotate_left 1
        · (intro w hSw; (try dsimp only at hSw); go_simp) <;> (with_reducible rfl)
        (try simp only [Act.put, List.setIfInBounds_toArray, List.set_cons_succ, List.set_cons_zero])
        refine wpAnyH_done (by kernel_rfl) ?_ _
        refine NoPanic.normal ?_
        go_wp2_with fail
        go_meet
        exact ⟨g14, rfl, rfl, HG, hide ⟨_, _, _, _, _, _, PX.out⟩, O2, O3, XB, K⟩
      case rest =>
        clear O1 O2 O3 XB K MK
        obtain ⟨g14, rfl, rfl, HG, X, O2, O3, XB, K⟩ := hcut
        have x1 := XB.out.cell 1
        simp at x1
        have tp : p1.tmod 50 = p1 % 50 := Int.tmod_eq_emod_of_nonneg hp1.1
        have hl : 0 ≤ p1 % 50 ∧ p1 % 50 < 50 := by omega
        obtain ⟨lf0, hlf⟩ : ∃ lf : Nat, (lf : Int) = p1 % 50 := ⟨(p1 % 50).toNat, by omega⟩
        have hl50 : lf0 < 50 := by omega
        rw [← hlf] at tp
        have u1 : IntKind.u8.wrap (lf0 : Int) = (lf0 : Int) := by rw [IntKind.wrap_u8']; omega
        have u2 : IntKind.i64.wrap (lf0 : Int) = (lf0 : Int) := by rw [IntKind.wrap_i64]; omega
        clear hlf hl
        go_wp2
        go_quiet (fail)
        replace X := hide (show ∃ A1 d1 A2 d2 A3 d3, DB (wc.drewN nq) g14 (DS 0 ((0 : Nat) : Int) [] pg) A1 d1 A2 d2 A3 d3 by
          obtain ⟨A1, d1, A2, d2, A3, d3, h⟩ := X.out
          rw [HD0.out] at h
          exact ⟨A1, d1, A2, d2, A3, d3, h.below (below_drewN (brefl _) _)⟩)
        replace O2 := hide (O2.out.below (below_drewN (brefl _) nq))
        replace O3 := hide (O3.out.below (below_drewN (brefl _) nq))
        replace K := hide (below_drewN K.out nq)
        clear XB x1 tp u1 u2 HD0
        generalize wc.drewN nq = wd at *
        go_upto_block 0 with fail
        go_cut [16] (fun a16 wx => ∃ (st : Nat) (D : Dv.Dev), st ≤ 4 ∧ a16 = .int .i64 st ∧ Hid (Fin (Dv.crD D ps) st pg) ∧ Hid (Dv.Vd D) ∧ Hid (∃ A1 d1 A2 d2 A3 d3, DB wx g14 D A1 d1 A2 d2 A3 d3) ∧ Hid (Dv.OwnBy wx (.slice (some ⟨g13, 0, none⟩) 32 32) pg) ∧ Hid (Below w.heap.size w wx))
        case first =>
          go_wp2_with fail
          go_loopw [16, 17, 18] (fun a l t wx => ∃ (st lf n : Nat), st ≤ 4 ∧ n + lf < 50 ∧ a = .int .i64 st ∧ l = .int .i64 lf ∧ t = .int .i64 n ∧ Hid (∃ A1 d1 A2 d2 A3 d3, DB wx g14 (DS st (n : Int) [] pg) A1 d1 A2 d2 A3 d3) ∧ Hid (Dv.OwnBy wx (.slice A2 32 c2) aft) ∧ Hid (Dv.OwnBy wx (.slice (some ⟨g13, 0, none⟩) 32 32) pg) ∧ Hid (Below w.heap.size w wx)) (fun _ l _ _ => (intOf l).toNat)
          case atStart => exact ⟨0, lf0, 0, by omega, by omega, rfl, rfl, rfl, X, O2, O3, K⟩
          case round =>
            clear X O2 O3 K
            obtain ⟨st, lf, n, hst, hnl, rfl, rfl, rfl, X, O2, O3, K⟩ := hrel
            have V0 := hide (vdS (n := (n : Int)) hst (by omega) LP.out)
            have B0 := hide (vdB V0.out)
            by_cases h4 : st < 4
            · have h42 : (st : Int) < 4 := by omega
              by_cases hl0 : 0 < lf
              · have hl02 : (0 : Int) < (lf : Int) := by omega
                have SB0 := hide (sbS (n := (n : Int)) h4 (by omega) LP.out)
                have SD0 := hide (sdS (st := st) (n := (n : Int)) (pg := pg))
                have V1 := hide (vdQ (n := (n : Int)) h4 (by omega) LP.out)
                have FQ := hide (finS (ps := ps) hst V1.out (.inr ⟨h4, (n : Int), rfl⟩))
                have CM0 := hide (cmES (n := (n : Int)) h4 (by omega) LP.out)
                have CMF := hide (cmFS (st := st) (n := (n : Int)) (pg := pg))
                have CMT := hide (cmTS (n := (n : Int)) (pg := pg) h4)
                obtain ⟨A1', a1', A2', a2', A3', a3', X⟩ := X.out
                replace X := hide X
                generalize DS st (n : Int) [] pg = D at *
                by_cases s0 : st = 0
                · have e0 : ((st : Int) == 0) = true := by simp [s0]
                  have e2 : ((st : Int) == 2) = false := by simp [s0]
                  have E1D := hide (show rk st = 2 ∧ rb st = 2 ∧ rd st pg = pg by unfold rk rb rd; simp [*])
                  rw [E1D.out.1, E1D.out.2.1, E1D.out.2.2] at SB0 SD0 V1 FQ CM0 CMF CMT
                  obtain ⟨E1, hE1⟩ : ∃ E, E = DS st ((n : Int) + 1) [((n : Int), 2, 2, pg)] pg := ⟨_, rfl⟩
                  rw [← hE1] at SD0 V1 FQ CM0 CMF CMT
                  have B1 := hide (vdB V1.out)
                  clear hE1 E1D
                  clear s0
                  have C2 := hide (Dv.submit_any _ D 2 2 (.slice (some ⟨g13, 0, none⟩) 32 32) pg wr X.out.2.is B0.out O3.out.is)
                  rw [SB0.out, if_pos rfl, if_pos rfl, SD0.out] at C2
                  unfold Dv.DvR3 at C2
                  obtain ⟨x0, x1, x2, x3, x4⟩ := X.out.cells
                  go_upto_if 93 with (go_at_call 30; refine C2.out.mono ?_; rintro e w12 ⟨v, rfl, hD, hB⟩; obtain ⟨F1, f1, F2, f2, F3, f3, rfl⟩ := hD.form; unfold Dv.dv)
                  replace X := hide (X.out.1.below hB)
                  replace O2 := hide (O2.out.below hB)
                  replace O3 := hide (O3.out.below hB)
                  replace K := hide (btrans K.out hB)
                  have NE := hide (show g14 < w12.heap.size from X.out.lt)
                  have M := bal (brefl w12) (.cells #[.int .i64 E1.dep, .int .i64 E1.nxt, .slice F1 E1.bl.length f1, .slice F2 E1.ca.length f2, .slice F3 E1.qu.length f3] 57)
                  have Y := hide (Box.new w12 57 #[.int .i64 E1.dep, .int .i64 E1.nxt, .slice F1 E1.bl.length f1, .slice F2 E1.ca.length f2, .slice F3 E1.qu.length f3])
                  have DE := hide (devown_below (devown_mono hD) M)
                  replace X := hide (X.out.below M)
                  replace O2 := hide (O2.out.below M)
                  replace O3 := hide (O3.out.below M)
                  have KW := hide K.out.size
                  replace K := hide (btrans K.out M)
                  obtain ⟨g22, hg22⟩ : ∃ g, g = w12.heap.size := ⟨_, rfl⟩
                  rw [← hg22] at Y NE KW ⊢
                  clear hg22 hB hD M x0 x1 x2 x3 x4 C2
                  generalize w12.alloc (.cells #[.int .i64 E1.dep, .int .i64 E1.nxt, .slice F1 E1.bl.length f1, .slice F2 E1.ca.length f2, .slice F3 E1.qu.length f3] 57) = w13 at *
                  have x0 : w13.cell? ⟨g14, 0, none⟩ = some (.int .i64 D.dep) := X.out.cell 0
                  have x1 : w13.cell? ⟨g14, 1, none⟩ = some (.int .i64 D.nxt) := X.out.cell 1
                  have x2 : w13.cell? ⟨g14, 2, none⟩ = some (.slice A1' D.bl.length a1') := X.out.cell 2
                  have x3 : w13.cell? ⟨g14, 3, none⟩ = some (.slice A2' D.ca.length a2') := X.out.cell 3
                  have x4 : w13.cell? ⟨g14, 4, none⟩ = some (.slice A3' D.qu.length a3') := X.out.cell 4
                  have fx0 : w13.frozen? ⟨g14, 0, none⟩ = false := X.out.frozen 0
                  have fx1 : w13.frozen? ⟨g14, 1, none⟩ = false := X.out.frozen 1
                  have fx2 : w13.frozen? ⟨g14, 2, none⟩ = false := X.out.frozen 2
                  have fx3 : w13.frozen? ⟨g14, 3, none⟩ = false := X.out.frozen 3
                  have fx4 : w13.frozen? ⟨g14, 4, none⟩ = false := X.out.frozen 4
                  have hx : g14 < w13.heap.size := X.out.lt
                  have y0 : w13.cell? ⟨g22, 0, none⟩ = some (.int .i64 E1.dep) := Y.out.cell 0
                  have y1 : w13.cell? ⟨g22, 1, none⟩ = some (.int .i64 E1.nxt) := Y.out.cell 1
                  have y2 : w13.cell? ⟨g22, 2, none⟩ = some (.slice F1 E1.bl.length f1) := Y.out.cell 2
                  have y3 : w13.cell? ⟨g22, 3, none⟩ = some (.slice F2 E1.ca.length f2) := Y.out.cell 3
                  have y4 : w13.cell? ⟨g22, 4, none⟩ = some (.slice F3 E1.qu.length f3) := Y.out.cell 4
                  have fy0 : w13.frozen? ⟨g22, 0, none⟩ = false := Y.out.frozen 0
                  have fy1 : w13.frozen? ⟨g22, 1, none⟩ = false := Y.out.frozen 1
                  have fy2 : w13.frozen? ⟨g22, 2, none⟩ = false := Y.out.frozen 2
                  have fy3 : w13.frozen? ⟨g22, 3, none⟩ = false := Y.out.frozen 3
                  have fy4 : w13.frozen? ⟨g22, 4, none⟩ = false := Y.out.frozen 4
                  have hy : g22 < w13.heap.size := Y.out.lt
                  go_upto_region 20 with fail
                  obtain ⟨w14, hw14⟩ : ∃ x, x = put5 w13 g14 (.int .i64 E1.dep) (.int .i64 E1.nxt) (.slice F1 E1.bl.length f1) (.slice F2 E1.ca.length f2) (.slice F3 E1.qu.length f3) := ⟨_, rfl⟩
                  have KP := put5_kp (B := w.heap.size) X.out HG.out (.int .i64 E1.dep) (.int .i64 E1.nxt) (.slice F1 E1.bl.length f1) (.slice F2 E1.ca.length f2) (.slice F3 E1.qu.length f3)
                  have PX := hide (show Box w14 g14 57 #[.int .i64 E1.dep, .int .i64 E1.nxt, .slice F1 E1.bl.length f1, .slice F2 E1.ca.length f2, .slice F3 E1.qu.length f3] by rw [hw14]; exact put5_box X.out _ _ _ _ _)
                  have PY := hide (show Box w14 g22 57 #[.int .i64 E1.dep, .int .i64 E1.nxt, .slice F1 E1.bl.length f1, .slice F2 E1.ca.length f2, .slice F3 E1.qu.length f3] by rw [hw14]; exact put5_far Y.out (by have := NE.out; omega) _ _ _ _ _)
                  have PD := hide (show Dv.DevOwn 0 w14 (.agg #[.int .i64 E1.dep, .int .i64 E1.nxt, .slice F1 E1.bl.length f1, .slice F2 E1.ca.length f2, .slice F3 E1.qu.length f3]) E1 by rw [hw14]; exact devown_kp DE.out (kp_dv KP) (by decide) (by decide) (by decide) (by decide))
                  have PO2 := hide (show Dv.OwnBy w14 (.slice A2 32 c2) aft by rw [hw14]; exact O2.out.kp (kp_dv KP) (by decide))
                  have PO3 := hide (show Dv.OwnBy w14 (.slice (some ⟨g13, 0, none⟩) 32 32) pg by rw [hw14]; exact O3.out.kp (kp_dv KP) (by decide))
                  have PK := hide (show Below w.heap.size w w14 by rw [hw14]; exact K.out.trans KP.below)
                  unfold put5 at hw14
                  rw [← hw14]
                  clear hw14 KP x0 fx0 x1 fx1 x2 fx2 x3 fx3 x4 fx4 hx y0 fy0 y1 fy1 y2 fy2 y3 fy3 y4 fy4 hy X Y DE O2 O3 K
                  have X := PX
                  have Y := PY
                  have DE := PD
                  have O2 := PO2
                  have O3 := PO3
                  have K := PK
                  clear PX PY PD PO2 PO3 PK
                  by_cases hl1 : lf = 1
                  · subst hl1
                    go_wp2
                    go_meet
                    exact ⟨st, E1, hst, rfl, FQ, V1, hide ⟨_, _, _, _, _, _, X.out, DE.out⟩, O3, K⟩
                  · have lne : ((lf : Int) - 1 == 0) = false := by simp; omega
                    have wl : IntKind.i64.wrap ((lf : Int) - 1) = (lf : Int) - 1 := by rw [IntKind.wrap_i64]; omega
                    have wl2 : IntKind.i64.wrap ((lf : Int) - 1 - 1) = (lf : Int) - 1 - 1 := by rw [IntKind.wrap_i64]; omega
                    have wt : IntKind.i64.wrap ((n : Int) + 1) = (n : Int) + 1 := by rw [IntKind.wrap_i64]; omega
                    have ws : IntKind.i64.wrap ((st : Int) + 1) = (st : Int) + 1 := by rw [IntKind.wrap_i64]; omega
                    by_cases hnf : n < fs.length
                    · have hnf2 : ¬ (fs.length : Int) ≤ (n : Int) := by omega
                      have hnf3 : (n : Int) < (fs.length : Int) := by omega
                      obtain ⟨bf, of, rfl, _, xf⟩ := HF.out.cells K.out hnf
                      cases hfb : fs.getD n false
                      · rw [hfb] at xf
                        clear hfb
                        have C3 := hide (Dv.complete_any _ E1 0 true w14 DE.out.is B1.out)
                        rw [CM0.out, if_pos rfl, if_pos rfl, show (0 : Int).toNat = 0 from rfl, CMT.out] at C3
                        obtain ⟨E2, hE2⟩ : ∃ E, E = DS (st + 1) ((n : Int) + 1) [] pg := ⟨_, rfl⟩
                        rw [← hE2] at C3
                        have HE2 := hide hE2
                        clear hE2
                        unfold Dv.DqR at C3
                        have x0 : w14.cell? ⟨g14, 0, none⟩ = some (.int .i64 E1.dep) := X.out.cell 0
                        have x1 : w14.cell? ⟨g14, 1, none⟩ = some (.int .i64 E1.nxt) := X.out.cell 1
                        have x2 : w14.cell? ⟨g14, 2, none⟩ = some (.slice F1 E1.bl.length f1) := X.out.cell 2
                        have x3 : w14.cell? ⟨g14, 3, none⟩ = some (.slice F2 E1.ca.length f2) := X.out.cell 3
                        have x4 : w14.cell? ⟨g14, 4, none⟩ = some (.slice F3 E1.qu.length f3) := X.out.cell 4
                        have fx0 : w14.frozen? ⟨g14, 0, none⟩ = false := X.out.frozen 0
                        have fx1 : w14.frozen? ⟨g14, 1, none⟩ = false := X.out.frozen 1
                        have fx2 : w14.frozen? ⟨g14, 2, none⟩ = false := X.out.frozen 2
                        have fx3 : w14.frozen? ⟨g14, 3, none⟩ = false := X.out.frozen 3
                        have fx4 : w14.frozen? ⟨g14, 4, none⟩ = false := X.out.frozen 4
                        have hx : g14 < w14.heap.size := X.out.lt
                        go_upto_if 120 with (go_at_call 31; refine C3.out.mono ?_; rintro e w15 ⟨v, u, rfl, hD, hu, hB⟩; obtain ⟨G1, g1, G2, g2, G3, g3', rfl⟩ := hD.form; obtain ⟨Au, cu, rfl, _, _⟩ := Dv.OwnBy.is hu; unfold Dv.dv; have Y5 := hide (Y.out.below hB); have q0 : w15.cell? ⟨g22, 0, none⟩ = some (.int .i64 E1.dep) := Y5.out.cell 0; have q1 : w15.cell? ⟨g22, 1, none⟩ = some (.int .i64 E1.nxt) := Y5.out.cell 1; have q2 : w15.cell? ⟨g22, 2, none⟩ = some (.slice F1 E1.bl.length f1) := Y5.out.cell 2; have q3 : w15.cell? ⟨g22, 3, none⟩ = some (.slice F2 E1.ca.length f2) := Y5.out.cell 3; have q4 : w15.cell? ⟨g22, 4, none⟩ = some (.slice F3 E1.qu.length f3) := Y5.out.cell 4; have fq0 : w15.frozen? ⟨g22, 0, none⟩ = false := Y5.out.frozen 0; have fq1 : w15.frozen? ⟨g22, 1, none⟩ = false := Y5.out.frozen 1; have fq2 : w15.frozen? ⟨g22, 2, none⟩ = false := Y5.out.frozen 2; have fq3 : w15.frozen? ⟨g22, 3, none⟩ = false := Y5.out.frozen 3; have fq4 : w15.frozen? ⟨g22, 4, none⟩ = false := Y5.out.frozen 4; have hq : g22 < w15.heap.size := Y5.out.lt)
                        replace X := hide (X.out.below hB)
                        replace O2 := hide (O2.out.below hB)
                        replace O3 := hide (O3.out.below hB)
                        replace K := hide (btrans K.out hB)
                        have DG := hide (devown_mono hD)
                        have KP := put5_kp (B := w.heap.size) Y5.out KW.out (.int .i64 E2.dep) (.int .i64 E2.nxt) (.slice G1 E2.bl.length g1) (.slice G2 E2.ca.length g2) (.slice G3 E2.qu.length g3')
                        obtain ⟨w16, hw16⟩ : ∃ x, x = put5 w15 g22 (.int .i64 E2.dep) (.int .i64 E2.nxt) (.slice G1 E2.bl.length g1) (.slice G2 E2.ca.length g2) (.slice G3 E2.qu.length g3') := ⟨_, rfl⟩
                        have PY := hide (show Box w16 g22 57 #[.int .i64 E2.dep, .int .i64 E2.nxt, .slice G1 E2.bl.length g1, .slice G2 E2.ca.length g2, .slice G3 E2.qu.length g3'] by rw [hw16]; exact put5_box Y5.out _ _ _ _ _)
                        have PX := hide (show Box w16 g14 57 #[.int .i64 E1.dep, .int .i64 E1.nxt, .slice F1 E1.bl.length f1, .slice F2 E1.ca.length f2, .slice F3 E1.qu.length f3] by rw [hw16]; exact put5_far X.out (by have := NE.out; omega) _ _ _ _ _)
                        have PD := hide (show Dv.DevOwn 0 w16 (.agg #[.int .i64 E2.dep, .int .i64 E2.nxt, .slice G1 E2.bl.length g1, .slice G2 E2.ca.length g2, .slice G3 E2.qu.length g3']) E2 by rw [hw16]; exact devown_kp DG.out (kp_dv KP) (by decide) (by decide) (by decide) (by decide))
                        have PO2 := hide (show Dv.OwnBy w16 (.slice A2 32 c2) aft by rw [hw16]; exact O2.out.kp (kp_dv KP) (by decide))
                        have PO3 := hide (show Dv.OwnBy w16 (.slice (some ⟨g13, 0, none⟩) 32 32) pg by rw [hw16]; exact O3.out.kp (kp_dv KP) (by decide))
                        have PK := hide (show Below w.heap.size w w16 by rw [hw16]; exact K.out.trans KP.below)
                        unfold put5 at hw16
                        rw [← hw16]
                        clear hw16 KP q0 fq0 q1 fq1 q2 fq2 q3 fq3 q4 fq4 hq x0 fx0 x1 fx1 x2 fx2 x3 fx3 x4 fx4 hx X Y Y5 DE O2 O3 K DG hD hu hB C3
                        have x0 : w16.cell? ⟨g14, 0, none⟩ = some (.int .i64 E1.dep) := PX.out.cell 0
                        have x1 : w16.cell? ⟨g14, 1, none⟩ = some (.int .i64 E1.nxt) := PX.out.cell 1
                        have x2 : w16.cell? ⟨g14, 2, none⟩ = some (.slice F1 E1.bl.length f1) := PX.out.cell 2
                        have x3 : w16.cell? ⟨g14, 3, none⟩ = some (.slice F2 E1.ca.length f2) := PX.out.cell 3
                        have x4 : w16.cell? ⟨g14, 4, none⟩ = some (.slice F3 E1.qu.length f3) := PX.out.cell 4
                        have fx0 : w16.frozen? ⟨g14, 0, none⟩ = false := PX.out.frozen 0
                        have fx1 : w16.frozen? ⟨g14, 1, none⟩ = false := PX.out.frozen 1
                        have fx2 : w16.frozen? ⟨g14, 2, none⟩ = false := PX.out.frozen 2
                        have fx3 : w16.frozen? ⟨g14, 3, none⟩ = false := PX.out.frozen 3
                        have fx4 : w16.frozen? ⟨g14, 4, none⟩ = false := PX.out.frozen 4
                        have hx : g14 < w16.heap.size := PX.out.lt
                        have q0 : w16.cell? ⟨g22, 0, none⟩ = some (.int .i64 E2.dep) := PY.out.cell 0
                        have q1 : w16.cell? ⟨g22, 1, none⟩ = some (.int .i64 E2.nxt) := PY.out.cell 1
                        have q2 : w16.cell? ⟨g22, 2, none⟩ = some (.slice G1 E2.bl.length g1) := PY.out.cell 2
                        have q3 : w16.cell? ⟨g22, 3, none⟩ = some (.slice G2 E2.ca.length g2) := PY.out.cell 3
                        have q4 : w16.cell? ⟨g22, 4, none⟩ = some (.slice G3 E2.qu.length g3') := PY.out.cell 4
                        have fq0 : w16.frozen? ⟨g22, 0, none⟩ = false := PY.out.frozen 0
                        have fq1 : w16.frozen? ⟨g22, 1, none⟩ = false := PY.out.frozen 1
                        have fq2 : w16.frozen? ⟨g22, 2, none⟩ = false := PY.out.frozen 2
                        have fq3 : w16.frozen? ⟨g22, 3, none⟩ = false := PY.out.frozen 3
                        have fq4 : w16.frozen? ⟨g22, 4, none⟩ = false := PY.out.frozen 4
                        have hq : g22 < w16.heap.size := PY.out.lt
                        go_upto_region 28 with fail
                        obtain ⟨w17, hw17⟩ : ∃ x, x = put5 w16 g14 (.int .i64 E2.dep) (.int .i64 E2.nxt) (.slice G1 E2.bl.length g1) (.slice G2 E2.ca.length g2) (.slice G3 E2.qu.length g3') := ⟨_, rfl⟩
                        have KP := put5_kp (B := w.heap.size) PX.out HG.out (.int .i64 E2.dep) (.int .i64 E2.nxt) (.slice G1 E2.bl.length g1) (.slice G2 E2.ca.length g2) (.slice G3 E2.qu.length g3')
                        have X := hide (show ∃ A1 d1 A2 d2 A3 d3, DB w17 g14 (DS (st + 1) (((n + 1 : Nat)) : Int) [] pg) A1 d1 A2 d2 A3 d3 by
                          have he : E2 = DS (st + 1) (((n + 1 : Nat)) : Int) [] pg := HE2.out
                          rw [← he]
                          exact ⟨_, _, _, _, _, _, by rw [hw17]; exact put5_box PX.out _ _ _ _ _, by rw [hw17]; exact devown_kp PD.out (kp_dv KP) (by decide) (by decide) (by decide) (by decide)⟩)
                        have O2 := hide (show Dv.OwnBy w17 (.slice A2 32 c2) aft by rw [hw17]; exact PO2.out.kp (kp_dv KP) (by decide))
                        have O3 := hide (show Dv.OwnBy w17 (.slice (some ⟨g13, 0, none⟩) 32 32) pg by rw [hw17]; exact PO3.out.kp (kp_dv KP) (by decide))
                        have K := hide (show Below w.heap.size w w17 by rw [hw17]; exact PK.out.trans KP.below)
                        unfold put5 at hw17
                        rw [← hw17]
                        clear hw17 KP q0 fq0 q1 fq1 q2 fq2 q3 fq3 q4 fq4 hq x0 fx0 x1 fx1 x2 fx2 x3 fx3 x4 fx4 hx PX PY PD PO2 PO3 PK HE2
                        go_wp2
                        go_roundw
                        case rel => first | exact ⟨st + 1, lf - 2, n + 1, by omega, by omega, by go_num, (by congr 1; omega), by go_num, X, O2, O3, K⟩ | ((repeat apply Exists.intro); exact ⟨⟨st + 1, lf - 2, n + 1, by omega, by omega, by go_num, (by congr 1; omega), by go_num, X, O2, O3, K⟩, rfl⟩)
                        case measure => simp [intOf]; omega
                      · rw [hfb] at xf
                        clear hfb
                        have C3 := hide (Dv.complete_any _ E1 0 false w14 DE.out.is B1.out)
                        rw [CM0.out, if_pos rfl, if_pos rfl, show (0 : Int).toNat = 0 from rfl, CMF.out] at C3
                        obtain ⟨E2, hE2⟩ : ∃ E, E = DS (st) ((n : Int) + 1) [] pg := ⟨_, rfl⟩
                        rw [← hE2] at C3
                        have HE2 := hide hE2
                        clear hE2
                        unfold Dv.DqR at C3
                        have x0 : w14.cell? ⟨g14, 0, none⟩ = some (.int .i64 E1.dep) := X.out.cell 0
                        have x1 : w14.cell? ⟨g14, 1, none⟩ = some (.int .i64 E1.nxt) := X.out.cell 1
                        have x2 : w14.cell? ⟨g14, 2, none⟩ = some (.slice F1 E1.bl.length f1) := X.out.cell 2
                        have x3 : w14.cell? ⟨g14, 3, none⟩ = some (.slice F2 E1.ca.length f2) := X.out.cell 3
                        have x4 : w14.cell? ⟨g14, 4, none⟩ = some (.slice F3 E1.qu.length f3) := X.out.cell 4
                        have fx0 : w14.frozen? ⟨g14, 0, none⟩ = false := X.out.frozen 0
                        have fx1 : w14.frozen? ⟨g14, 1, none⟩ = false := X.out.frozen 1
                        have fx2 : w14.frozen? ⟨g14, 2, none⟩ = false := X.out.frozen 2
                        have fx3 : w14.frozen? ⟨g14, 3, none⟩ = false := X.out.frozen 3
                        have fx4 : w14.frozen? ⟨g14, 4, none⟩ = false := X.out.frozen 4
                        have hx : g14 < w14.heap.size := X.out.lt
                        go_upto_if 120 with (go_at_call 31; refine C3.out.mono ?_; rintro e w15 ⟨v, u, rfl, hD, hu, hB⟩; obtain ⟨G1, g1, G2, g2, G3, g3', rfl⟩ := hD.form; obtain ⟨Au, cu, rfl, _, _⟩ := Dv.OwnBy.is hu; unfold Dv.dv; have Y5 := hide (Y.out.below hB); have q0 : w15.cell? ⟨g22, 0, none⟩ = some (.int .i64 E1.dep) := Y5.out.cell 0; have q1 : w15.cell? ⟨g22, 1, none⟩ = some (.int .i64 E1.nxt) := Y5.out.cell 1; have q2 : w15.cell? ⟨g22, 2, none⟩ = some (.slice F1 E1.bl.length f1) := Y5.out.cell 2; have q3 : w15.cell? ⟨g22, 3, none⟩ = some (.slice F2 E1.ca.length f2) := Y5.out.cell 3; have q4 : w15.cell? ⟨g22, 4, none⟩ = some (.slice F3 E1.qu.length f3) := Y5.out.cell 4; have fq0 : w15.frozen? ⟨g22, 0, none⟩ = false := Y5.out.frozen 0; have fq1 : w15.frozen? ⟨g22, 1, none⟩ = false := Y5.out.frozen 1; have fq2 : w15.frozen? ⟨g22, 2, none⟩ = false := Y5.out.frozen 2; have fq3 : w15.frozen? ⟨g22, 3, none⟩ = false := Y5.out.frozen 3; have fq4 : w15.frozen? ⟨g22, 4, none⟩ = false := Y5.out.frozen 4; have hq : g22 < w15.heap.size := Y5.out.lt)
                        replace X := hide (X.out.below hB)
                        replace O2 := hide (O2.out.below hB)
                        replace O3 := hide (O3.out.below hB)
                        replace K := hide (btrans K.out hB)
                        have DG := hide (devown_mono hD)
                        have KP := put5_kp (B := w.heap.size) Y5.out KW.out (.int .i64 E2.dep) (.int .i64 E2.nxt) (.slice G1 E2.bl.length g1) (.slice G2 E2.ca.length g2) (.slice G3 E2.qu.length g3')
                        obtain ⟨w16, hw16⟩ : ∃ x, x = put5 w15 g22 (.int .i64 E2.dep) (.int .i64 E2.nxt) (.slice G1 E2.bl.length g1) (.slice G2 E2.ca.length g2) (.slice G3 E2.qu.length g3') := ⟨_, rfl⟩
                        have PY := hide (show Box w16 g22 57 #[.int .i64 E2.dep, .int .i64 E2.nxt, .slice G1 E2.bl.length g1, .slice G2 E2.ca.length g2, .slice G3 E2.qu.length g3'] by rw [hw16]; exact put5_box Y5.out _ _ _ _ _)
                        have PX := hide (show Box w16 g14 57 #[.int .i64 E1.dep, .int .i64 E1.nxt, .slice F1 E1.bl.length f1, .slice F2 E1.ca.length f2, .slice F3 E1.qu.length f3] by rw [hw16]; exact put5_far X.out (by have := NE.out; omega) _ _ _ _ _)
                        have PD := hide (show Dv.DevOwn 0 w16 (.agg #[.int .i64 E2.dep, .int .i64 E2.nxt, .slice G1 E2.bl.length g1, .slice G2 E2.ca.length g2, .slice G3 E2.qu.length g3']) E2 by rw [hw16]; exact devown_kp DG.out (kp_dv KP) (by decide) (by decide) (by decide) (by decide))
                        have PO2 := hide (show Dv.OwnBy w16 (.slice A2 32 c2) aft by rw [hw16]; exact O2.out.kp (kp_dv KP) (by decide))
                        have PO3 := hide (show Dv.OwnBy w16 (.slice (some ⟨g13, 0, none⟩) 32 32) pg by rw [hw16]; exact O3.out.kp (kp_dv KP) (by decide))
                        have PK := hide (show Below w.heap.size w w16 by rw [hw16]; exact K.out.trans KP.below)
                        unfold put5 at hw16
                        rw [← hw16]
                        clear hw16 KP q0 fq0 q1 fq1 q2 fq2 q3 fq3 q4 fq4 hq x0 fx0 x1 fx1 x2 fx2 x3 fx3 x4 fx4 hx X Y Y5 DE O2 O3 K DG hD hu hB C3
                        have x0 : w16.cell? ⟨g14, 0, none⟩ = some (.int .i64 E1.dep) := PX.out.cell 0
                        have x1 : w16.cell? ⟨g14, 1, none⟩ = some (.int .i64 E1.nxt) := PX.out.cell 1
                        have x2 : w16.cell? ⟨g14, 2, none⟩ = some (.slice F1 E1.bl.length f1) := PX.out.cell 2
                        have x3 : w16.cell? ⟨g14, 3, none⟩ = some (.slice F2 E1.ca.length f2) := PX.out.cell 3
                        have x4 : w16.cell? ⟨g14, 4, none⟩ = some (.slice F3 E1.qu.length f3) := PX.out.cell 4
                        have fx0 : w16.frozen? ⟨g14, 0, none⟩ = false := PX.out.frozen 0
                        have fx1 : w16.frozen? ⟨g14, 1, none⟩ = false := PX.out.frozen 1
                        have fx2 : w16.frozen? ⟨g14, 2, none⟩ = false := PX.out.frozen 2
                        have fx3 : w16.frozen? ⟨g14, 3, none⟩ = false := PX.out.frozen 3
                        have fx4 : w16.frozen? ⟨g14, 4, none⟩ = false := PX.out.frozen 4
                        have hx : g14 < w16.heap.size := PX.out.lt
                        have q0 : w16.cell? ⟨g22, 0, none⟩ = some (.int .i64 E2.dep) := PY.out.cell 0
                        have q1 : w16.cell? ⟨g22, 1, none⟩ = some (.int .i64 E2.nxt) := PY.out.cell 1
                        have q2 : w16.cell? ⟨g22, 2, none⟩ = some (.slice G1 E2.bl.length g1) := PY.out.cell 2
                        have q3 : w16.cell? ⟨g22, 3, none⟩ = some (.slice G2 E2.ca.length g2) := PY.out.cell 3
                        have q4 : w16.cell? ⟨g22, 4, none⟩ = some (.slice G3 E2.qu.length g3') := PY.out.cell 4
                        have fq0 : w16.frozen? ⟨g22, 0, none⟩ = false := PY.out.frozen 0
                        have fq1 : w16.frozen? ⟨g22, 1, none⟩ = false := PY.out.frozen 1
                        have fq2 : w16.frozen? ⟨g22, 2, none⟩ = false := PY.out.frozen 2
                        have fq3 : w16.frozen? ⟨g22, 3, none⟩ = false := PY.out.frozen 3
                        have fq4 : w16.frozen? ⟨g22, 4, none⟩ = false := PY.out.frozen 4
                        have hq : g22 < w16.heap.size := PY.out.lt
                        go_upto_region 28 with fail
                        obtain ⟨w17, hw17⟩ : ∃ x, x = put5 w16 g14 (.int .i64 E2.dep) (.int .i64 E2.nxt) (.slice G1 E2.bl.length g1) (.slice G2 E2.ca.length g2) (.slice G3 E2.qu.length g3') := ⟨_, rfl⟩
                        have KP := put5_kp (B := w.heap.size) PX.out HG.out (.int .i64 E2.dep) (.int .i64 E2.nxt) (.slice G1 E2.bl.length g1) (.slice G2 E2.ca.length g2) (.slice G3 E2.qu.length g3')
                        have X := hide (show ∃ A1 d1 A2 d2 A3 d3, DB w17 g14 (DS (st) (((n + 1 : Nat)) : Int) [] pg) A1 d1 A2 d2 A3 d3 by
                          have he : E2 = DS (st) (((n + 1 : Nat)) : Int) [] pg := HE2.out
                          rw [← he]
                          exact ⟨_, _, _, _, _, _, by rw [hw17]; exact put5_box PX.out _ _ _ _ _, by rw [hw17]; exact devown_kp PD.out (kp_dv KP) (by decide) (by decide) (by decide) (by decide)⟩)
                        have O2 := hide (show Dv.OwnBy w17 (.slice A2 32 c2) aft by rw [hw17]; exact PO2.out.kp (kp_dv KP) (by decide))
                        have O3 := hide (show Dv.OwnBy w17 (.slice (some ⟨g13, 0, none⟩) 32 32) pg by rw [hw17]; exact PO3.out.kp (kp_dv KP) (by decide))
                        have K := hide (show Below w.heap.size w w17 by rw [hw17]; exact PK.out.trans KP.below)
                        unfold put5 at hw17
                        rw [← hw17]
                        clear hw17 KP q0 fq0 q1 fq1 q2 fq2 q3 fq3 q4 fq4 hq x0 fx0 x1 fx1 x2 fx2 x3 fx3 x4 fx4 hx PX PY PD PO2 PO3 PK HE2
                        go_wp2
                        go_roundw
                        case rel => first | exact ⟨st, lf - 2, n + 1, by omega, by omega, by go_num, (by congr 1; omega), by go_num, X, O2, O3, K⟩ | ((repeat apply Exists.intro); exact ⟨⟨st, lf - 2, n + 1, by omega, by omega, by go_num, (by congr 1; omega), by go_num, X, O2, O3, K⟩, rfl⟩)
                        case measure => simp [intOf]; omega
                    · have hnf2 : (fs.length : Int) ≤ (n : Int) := by omega
                      have C3 := hide (Dv.complete_any _ E1 0 true w14 DE.out.is B1.out)
                      rw [CM0.out, if_pos rfl, if_pos rfl, show (0 : Int).toNat = 0 from rfl, CMT.out] at C3
                      obtain ⟨E2, hE2⟩ : ∃ E, E = DS (st + 1) ((n : Int) + 1) [] pg := ⟨_, rfl⟩
                      rw [← hE2] at C3
                      have HE2 := hide hE2
                      clear hE2
                      unfold Dv.DqR at C3
                      have x0 : w14.cell? ⟨g14, 0, none⟩ = some (.int .i64 E1.dep) := X.out.cell 0
                      have x1 : w14.cell? ⟨g14, 1, none⟩ = some (.int .i64 E1.nxt) := X.out.cell 1
                      have x2 : w14.cell? ⟨g14, 2, none⟩ = some (.slice F1 E1.bl.length f1) := X.out.cell 2
                      have x3 : w14.cell? ⟨g14, 3, none⟩ = some (.slice F2 E1.ca.length f2) := X.out.cell 3
                      have x4 : w14.cell? ⟨g14, 4, none⟩ = some (.slice F3 E1.qu.length f3) := X.out.cell 4
                      have fx0 : w14.frozen? ⟨g14, 0, none⟩ = false := X.out.frozen 0
                      have fx1 : w14.frozen? ⟨g14, 1, none⟩ = false := X.out.frozen 1
                      have fx2 : w14.frozen? ⟨g14, 2, none⟩ = false := X.out.frozen 2
                      have fx3 : w14.frozen? ⟨g14, 3, none⟩ = false := X.out.frozen 3
                      have fx4 : w14.frozen? ⟨g14, 4, none⟩ = false := X.out.frozen 4
                      have hx : g14 < w14.heap.size := X.out.lt
                      go_upto_if 120 with (go_at_call 31; refine C3.out.mono ?_; rintro e w15 ⟨v, u, rfl, hD, hu, hB⟩; obtain ⟨G1, g1, G2, g2, G3, g3', rfl⟩ := hD.form; obtain ⟨Au, cu, rfl, _, _⟩ := Dv.OwnBy.is hu; unfold Dv.dv; have Y5 := hide (Y.out.below hB); have q0 : w15.cell? ⟨g22, 0, none⟩ = some (.int .i64 E1.dep) := Y5.out.cell 0; have q1 : w15.cell? ⟨g22, 1, none⟩ = some (.int .i64 E1.nxt) := Y5.out.cell 1; have q2 : w15.cell? ⟨g22, 2, none⟩ = some (.slice F1 E1.bl.length f1) := Y5.out.cell 2; have q3 : w15.cell? ⟨g22, 3, none⟩ = some (.slice F2 E1.ca.length f2) := Y5.out.cell 3; have q4 : w15.cell? ⟨g22, 4, none⟩ = some (.slice F3 E1.qu.length f3) := Y5.out.cell 4; have fq0 : w15.frozen? ⟨g22, 0, none⟩ = false := Y5.out.frozen 0; have fq1 : w15.frozen? ⟨g22, 1, none⟩ = false := Y5.out.frozen 1; have fq2 : w15.frozen? ⟨g22, 2, none⟩ = false := Y5.out.frozen 2; have fq3 : w15.frozen? ⟨g22, 3, none⟩ = false := Y5.out.frozen 3; have fq4 : w15.frozen? ⟨g22, 4, none⟩ = false := Y5.out.frozen 4; have hq : g22 < w15.heap.size := Y5.out.lt)
                      replace X := hide (X.out.below hB)
                      replace O2 := hide (O2.out.below hB)
                      replace O3 := hide (O3.out.below hB)
                      replace K := hide (btrans K.out hB)
                      have DG := hide (devown_mono hD)
                      have KP := put5_kp (B := w.heap.size) Y5.out KW.out (.int .i64 E2.dep) (.int .i64 E2.nxt) (.slice G1 E2.bl.length g1) (.slice G2 E2.ca.length g2) (.slice G3 E2.qu.length g3')
                      obtain ⟨w16, hw16⟩ : ∃ x, x = put5 w15 g22 (.int .i64 E2.dep) (.int .i64 E2.nxt) (.slice G1 E2.bl.length g1) (.slice G2 E2.ca.length g2) (.slice G3 E2.qu.length g3') := ⟨_, rfl⟩
                      have PY := hide (show Box w16 g22 57 #[.int .i64 E2.dep, .int .i64 E2.nxt, .slice G1 E2.bl.length g1, .slice G2 E2.ca.length g2, .slice G3 E2.qu.length g3'] by rw [hw16]; exact put5_box Y5.out _ _ _ _ _)
                      have PX := hide (show Box w16 g14 57 #[.int .i64 E1.dep, .int .i64 E1.nxt, .slice F1 E1.bl.length f1, .slice F2 E1.ca.length f2, .slice F3 E1.qu.length f3] by rw [hw16]; exact put5_far X.out (by have := NE.out; omega) _ _ _ _ _)
                      have PD := hide (show Dv.DevOwn 0 w16 (.agg #[.int .i64 E2.dep, .int .i64 E2.nxt, .slice G1 E2.bl.length g1, .slice G2 E2.ca.length g2, .slice G3 E2.qu.length g3']) E2 by rw [hw16]; exact devown_kp DG.out (kp_dv KP) (by decide) (by decide) (by decide) (by decide))
                      have PO2 := hide (show Dv.OwnBy w16 (.slice A2 32 c2) aft by rw [hw16]; exact O2.out.kp (kp_dv KP) (by decide))
                      have PO3 := hide (show Dv.OwnBy w16 (.slice (some ⟨g13, 0, none⟩) 32 32) pg by rw [hw16]; exact O3.out.kp (kp_dv KP) (by decide))
                      have PK := hide (show Below w.heap.size w w16 by rw [hw16]; exact K.out.trans KP.below)
                      unfold put5 at hw16
                      rw [← hw16]
                      clear hw16 KP q0 fq0 q1 fq1 q2 fq2 q3 fq3 q4 fq4 hq x0 fx0 x1 fx1 x2 fx2 x3 fx3 x4 fx4 hx X Y Y5 DE O2 O3 K DG hD hu hB C3
                      have x0 : w16.cell? ⟨g14, 0, none⟩ = some (.int .i64 E1.dep) := PX.out.cell 0
                      have x1 : w16.cell? ⟨g14, 1, none⟩ = some (.int .i64 E1.nxt) := PX.out.cell 1
                      have x2 : w16.cell? ⟨g14, 2, none⟩ = some (.slice F1 E1.bl.length f1) := PX.out.cell 2
                      have x3 : w16.cell? ⟨g14, 3, none⟩ = some (.slice F2 E1.ca.length f2) := PX.out.cell 3
                      have x4 : w16.cell? ⟨g14, 4, none⟩ = some (.slice F3 E1.qu.length f3) := PX.out.cell 4
                      have fx0 : w16.frozen? ⟨g14, 0, none⟩ = false := PX.out.frozen 0
                      have fx1 : w16.frozen? ⟨g14, 1, none⟩ = false := PX.out.frozen 1
                      have fx2 : w16.frozen? ⟨g14, 2, none⟩ = false := PX.out.frozen 2
                      have fx3 : w16.frozen? ⟨g14, 3, none⟩ = false := PX.out.frozen 3
                      have fx4 : w16.frozen? ⟨g14, 4, none⟩ = false := PX.out.frozen 4
                      have hx : g14 < w16.heap.size := PX.out.lt
                      have q0 : w16.cell? ⟨g22, 0, none⟩ = some (.int .i64 E2.dep) := PY.out.cell 0
                      have q1 : w16.cell? ⟨g22, 1, none⟩ = some (.int .i64 E2.nxt) := PY.out.cell 1
                      have q2 : w16.cell? ⟨g22, 2, none⟩ = some (.slice G1 E2.bl.length g1) := PY.out.cell 2
                      have q3 : w16.cell? ⟨g22, 3, none⟩ = some (.slice G2 E2.ca.length g2) := PY.out.cell 3
                      have q4 : w16.cell? ⟨g22, 4, none⟩ = some (.slice G3 E2.qu.length g3') := PY.out.cell 4
                      have fq0 : w16.frozen? ⟨g22, 0, none⟩ = false := PY.out.frozen 0
                      have fq1 : w16.frozen? ⟨g22, 1, none⟩ = false := PY.out.frozen 1
                      have fq2 : w16.frozen? ⟨g22, 2, none⟩ = false := PY.out.frozen 2
                      have fq3 : w16.frozen? ⟨g22, 3, none⟩ = false := PY.out.frozen 3
                      have fq4 : w16.frozen? ⟨g22, 4, none⟩ = false := PY.out.frozen 4
                      have hq : g22 < w16.heap.size := PY.out.lt
                      go_upto_region 28 with fail
                      obtain ⟨w17, hw17⟩ : ∃ x, x = put5 w16 g14 (.int .i64 E2.dep) (.int .i64 E2.nxt) (.slice G1 E2.bl.length g1) (.slice G2 E2.ca.length g2) (.slice G3 E2.qu.length g3') := ⟨_, rfl⟩
                      have KP := put5_kp (B := w.heap.size) PX.out HG.out (.int .i64 E2.dep) (.int .i64 E2.nxt) (.slice G1 E2.bl.length g1) (.slice G2 E2.ca.length g2) (.slice G3 E2.qu.length g3')
                      have X := hide (show ∃ A1 d1 A2 d2 A3 d3, DB w17 g14 (DS (st + 1) (((n + 1 : Nat)) : Int) [] pg) A1 d1 A2 d2 A3 d3 by
                        have he : E2 = DS (st + 1) (((n + 1 : Nat)) : Int) [] pg := HE2.out
                        rw [← he]
                        exact ⟨_, _, _, _, _, _, by rw [hw17]; exact put5_box PX.out _ _ _ _ _, by rw [hw17]; exact devown_kp PD.out (kp_dv KP) (by decide) (by decide) (by decide) (by decide)⟩)
                      have O2 := hide (show Dv.OwnBy w17 (.slice A2 32 c2) aft by rw [hw17]; exact PO2.out.kp (kp_dv KP) (by decide))
                      have O3 := hide (show Dv.OwnBy w17 (.slice (some ⟨g13, 0, none⟩) 32 32) pg by rw [hw17]; exact PO3.out.kp (kp_dv KP) (by decide))
                      have K := hide (show Below w.heap.size w w17 by rw [hw17]; exact PK.out.trans KP.below)
                      unfold put5 at hw17
                      rw [← hw17]
                      clear hw17 KP q0 fq0 q1 fq1 q2 fq2 q3 fq3 q4 fq4 hq x0 fx0 x1 fx1 x2 fx2 x3 fx3 x4 fx4 hx PX PY PD PO2 PO3 PK HE2
                      go_wp2
                      go_roundw
                      case rel => first | exact ⟨st + 1, lf - 2, n + 1, by omega, by omega, by go_num, (by congr 1; omega), by go_num, X, O2, O3, K⟩ | ((repeat apply Exists.intro); exact ⟨⟨st + 1, lf - 2, n + 1, by omega, by omega, by go_num, (by congr 1; omega), by go_num, X, O2, O3, K⟩, rfl⟩)
                      case measure => simp [intOf]; omega
                · have e0 : ((st : Int) == 0) = false := by simp; omega
                  by_cases s2 : st = 2
                  · have e2 : ((st : Int) == 2) = true := by simp [s2]
                    have E1D := hide (show rk st = 2 ∧ rb st = 0 ∧ rd st pg = aft by unfold rk rb rd; simp [*])
                    rw [E1D.out.1, E1D.out.2.1, E1D.out.2.2] at SB0 SD0 V1 FQ CM0 CMF CMT
                    obtain ⟨E1, hE1⟩ : ∃ E, E = DS st ((n : Int) + 1) [((n : Int), 2, 0, aft)] pg := ⟨_, rfl⟩
                    rw [← hE1] at SD0 V1 FQ CM0 CMF CMT
                    have B1 := hide (vdB V1.out)
                    clear hE1 E1D
                    clear s0 s2
                    have C2 := hide (Dv.submit_any _ D 2 0 (.slice A2 32 c2) aft wr X.out.2.is B0.out O2.out.is)
                    rw [SB0.out, if_pos rfl, if_pos rfl, SD0.out] at C2
                    unfold Dv.DvR3 at C2
                    obtain ⟨x0, x1, x2, x3, x4⟩ := X.out.cells
                    go_upto_if 93 with (go_at_call 30; refine C2.out.mono ?_; rintro e w12 ⟨v, rfl, hD, hB⟩; obtain ⟨F1, f1, F2, f2, F3, f3, rfl⟩ := hD.form; unfold Dv.dv)
                    replace X := hide (X.out.1.below hB)
                    replace O2 := hide (O2.out.below hB)
                    replace O3 := hide (O3.out.below hB)
                    replace K := hide (btrans K.out hB)
                    have NE := hide (show g14 < w12.heap.size from X.out.lt)
                    have M := bal (brefl w12) (.cells #[.int .i64 E1.dep, .int .i64 E1.nxt, .slice F1 E1.bl.length f1, .slice F2 E1.ca.length f2, .slice F3 E1.qu.length f3] 57)
                    have Y := hide (Box.new w12 57 #[.int .i64 E1.dep, .int .i64 E1.nxt, .slice F1 E1.bl.length f1, .slice F2 E1.ca.length f2, .slice F3 E1.qu.length f3])
                    have DE := hide (devown_below (devown_mono hD) M)
                    replace X := hide (X.out.below M)
                    replace O2 := hide (O2.out.below M)
                    replace O3 := hide (O3.out.below M)
                    have KW := hide K.out.size
                    replace K := hide (btrans K.out M)
                    obtain ⟨g22, hg22⟩ : ∃ g, g = w12.heap.size := ⟨_, rfl⟩
                    rw [← hg22] at Y NE KW ⊢
                    clear hg22 hB hD M x0 x1 x2 x3 x4 C2
                    generalize w12.alloc (.cells #[.int .i64 E1.dep, .int .i64 E1.nxt, .slice F1 E1.bl.length f1, .slice F2 E1.ca.length f2, .slice F3 E1.qu.length f3] 57) = w13 at *
                    have x0 : w13.cell? ⟨g14, 0, none⟩ = some (.int .i64 D.dep) := X.out.cell 0
                    have x1 : w13.cell? ⟨g14, 1, none⟩ = some (.int .i64 D.nxt) := X.out.cell 1
                    have x2 : w13.cell? ⟨g14, 2, none⟩ = some (.slice A1' D.bl.length a1') := X.out.cell 2
                    have x3 : w13.cell? ⟨g14, 3, none⟩ = some (.slice A2' D.ca.length a2') := X.out.cell 3
                    have x4 : w13.cell? ⟨g14, 4, none⟩ = some (.slice A3' D.qu.length a3') := X.out.cell 4
                    have fx0 : w13.frozen? ⟨g14, 0, none⟩ = false := X.out.frozen 0
                    have fx1 : w13.frozen? ⟨g14, 1, none⟩ = false := X.out.frozen 1
                    have fx2 : w13.frozen? ⟨g14, 2, none⟩ = false := X.out.frozen 2
                    have fx3 : w13.frozen? ⟨g14, 3, none⟩ = false := X.out.frozen 3
                    have fx4 : w13.frozen? ⟨g14, 4, none⟩ = false := X.out.frozen 4
                    have hx : g14 < w13.heap.size := X.out.lt
                    have y0 : w13.cell? ⟨g22, 0, none⟩ = some (.int .i64 E1.dep) := Y.out.cell 0
                    have y1 : w13.cell? ⟨g22, 1, none⟩ = some (.int .i64 E1.nxt) := Y.out.cell 1
                    have y2 : w13.cell? ⟨g22, 2, none⟩ = some (.slice F1 E1.bl.length f1) := Y.out.cell 2
                    have y3 : w13.cell? ⟨g22, 3, none⟩ = some (.slice F2 E1.ca.length f2) := Y.out.cell 3
                    have y4 : w13.cell? ⟨g22, 4, none⟩ = some (.slice F3 E1.qu.length f3) := Y.out.cell 4
                    have fy0 : w13.frozen? ⟨g22, 0, none⟩ = false := Y.out.frozen 0
                    have fy1 : w13.frozen? ⟨g22, 1, none⟩ = false := Y.out.frozen 1
                    have fy2 : w13.frozen? ⟨g22, 2, none⟩ = false := Y.out.frozen 2
                    have fy3 : w13.frozen? ⟨g22, 3, none⟩ = false := Y.out.frozen 3
                    have fy4 : w13.frozen? ⟨g22, 4, none⟩ = false := Y.out.frozen 4
                    have hy : g22 < w13.heap.size := Y.out.lt
                    go_upto_region 20 with fail
                    obtain ⟨w14, hw14⟩ : ∃ x, x = put5 w13 g14 (.int .i64 E1.dep) (.int .i64 E1.nxt) (.slice F1 E1.bl.length f1) (.slice F2 E1.ca.length f2) (.slice F3 E1.qu.length f3) := ⟨_, rfl⟩
                    have KP := put5_kp (B := w.heap.size) X.out HG.out (.int .i64 E1.dep) (.int .i64 E1.nxt) (.slice F1 E1.bl.length f1) (.slice F2 E1.ca.length f2) (.slice F3 E1.qu.length f3)
                    have PX := hide (show Box w14 g14 57 #[.int .i64 E1.dep, .int .i64 E1.nxt, .slice F1 E1.bl.length f1, .slice F2 E1.ca.length f2, .slice F3 E1.qu.length f3] by rw [hw14]; exact put5_box X.out _ _ _ _ _)
                    have PY := hide (show Box w14 g22 57 #[.int .i64 E1.dep, .int .i64 E1.nxt, .slice F1 E1.bl.length f1, .slice F2 E1.ca.length f2, .slice F3 E1.qu.length f3] by rw [hw14]; exact put5_far Y.out (by have := NE.out; omega) _ _ _ _ _)
                    have PD := hide (show Dv.DevOwn 0 w14 (.agg #[.int .i64 E1.dep, .int .i64 E1.nxt, .slice F1 E1.bl.length f1, .slice F2 E1.ca.length f2, .slice F3 E1.qu.length f3]) E1 by rw [hw14]; exact devown_kp DE.out (kp_dv KP) (by decide) (by decide) (by decide) (by decide))
                    have PO2 := hide (show Dv.OwnBy w14 (.slice A2 32 c2) aft by rw [hw14]; exact O2.out.kp (kp_dv KP) (by decide))
                    have PO3 := hide (show Dv.OwnBy w14 (.slice (some ⟨g13, 0, none⟩) 32 32) pg by rw [hw14]; exact O3.out.kp (kp_dv KP) (by decide))
                    have PK := hide (show Below w.heap.size w w14 by rw [hw14]; exact K.out.trans KP.below)
                    unfold put5 at hw14
                    rw [← hw14]
                    clear hw14 KP x0 fx0 x1 fx1 x2 fx2 x3 fx3 x4 fx4 hx y0 fy0 y1 fy1 y2 fy2 y3 fy3 y4 fy4 hy X Y DE O2 O3 K
                    have X := PX
                    have Y := PY
                    have DE := PD
                    have O2 := PO2
                    have O3 := PO3
                    have K := PK
                    clear PX PY PD PO2 PO3 PK
                    by_cases hl1 : lf = 1
                    · subst hl1
                      go_wp2
                      go_meet
                      exact ⟨st, E1, hst, rfl, FQ, V1, hide ⟨_, _, _, _, _, _, X.out, DE.out⟩, O3, K⟩
                    · have lne : ((lf : Int) - 1 == 0) = false := by simp; omega
                      have wl : IntKind.i64.wrap ((lf : Int) - 1) = (lf : Int) - 1 := by rw [IntKind.wrap_i64]; omega
                      have wl2 : IntKind.i64.wrap ((lf : Int) - 1 - 1) = (lf : Int) - 1 - 1 := by rw [IntKind.wrap_i64]; omega
                      have wt : IntKind.i64.wrap ((n : Int) + 1) = (n : Int) + 1 := by rw [IntKind.wrap_i64]; omega
                      have ws : IntKind.i64.wrap ((st : Int) + 1) = (st : Int) + 1 := by rw [IntKind.wrap_i64]; omega
                      by_cases hnf : n < fs.length
                      · have hnf2 : ¬ (fs.length : Int) ≤ (n : Int) := by omega
                        have hnf3 : (n : Int) < (fs.length : Int) := by omega
                        obtain ⟨bf, of, rfl, _, xf⟩ := HF.out.cells K.out hnf
                        cases hfb : fs.getD n false
                        · rw [hfb] at xf
                          clear hfb
                          have C3 := hide (Dv.complete_any _ E1 0 true w14 DE.out.is B1.out)
                          rw [CM0.out, if_pos rfl, if_pos rfl, show (0 : Int).toNat = 0 from rfl, CMT.out] at C3
                          obtain ⟨E2, hE2⟩ : ∃ E, E = DS (st + 1) ((n : Int) + 1) [] pg := ⟨_, rfl⟩
                          rw [← hE2] at C3
                          have HE2 := hide hE2
                          clear hE2
                          unfold Dv.DqR at C3
                          have x0 : w14.cell? ⟨g14, 0, none⟩ = some (.int .i64 E1.dep) := X.out.cell 0
                          have x1 : w14.cell? ⟨g14, 1, none⟩ = some (.int .i64 E1.nxt) := X.out.cell 1
                          have x2 : w14.cell? ⟨g14, 2, none⟩ = some (.slice F1 E1.bl.length f1) := X.out.cell 2
                          have x3 : w14.cell? ⟨g14, 3, none⟩ = some (.slice F2 E1.ca.length f2) := X.out.cell 3
                          have x4 : w14.cell? ⟨g14, 4, none⟩ = some (.slice F3 E1.qu.length f3) := X.out.cell 4
                          have fx0 : w14.frozen? ⟨g14, 0, none⟩ = false := X.out.frozen 0
                          have fx1 : w14.frozen? ⟨g14, 1, none⟩ = false := X.out.frozen 1
                          have fx2 : w14.frozen? ⟨g14, 2, none⟩ = false := X.out.frozen 2
                          have fx3 : w14.frozen? ⟨g14, 3, none⟩ = false := X.out.frozen 3
                          have fx4 : w14.frozen? ⟨g14, 4, none⟩ = false := X.out.frozen 4
                          have hx : g14 < w14.heap.size := X.out.lt
                          go_upto_if 120 with (go_at_call 31; refine C3.out.mono ?_; rintro e w15 ⟨v, u, rfl, hD, hu, hB⟩; obtain ⟨G1, g1, G2, g2, G3, g3', rfl⟩ := hD.form; obtain ⟨Au, cu, rfl, _, _⟩ := Dv.OwnBy.is hu; unfold Dv.dv; have Y5 := hide (Y.out.below hB); have q0 : w15.cell? ⟨g22, 0, none⟩ = some (.int .i64 E1.dep) := Y5.out.cell 0; have q1 : w15.cell? ⟨g22, 1, none⟩ = some (.int .i64 E1.nxt) := Y5.out.cell 1; have q2 : w15.cell? ⟨g22, 2, none⟩ = some (.slice F1 E1.bl.length f1) := Y5.out.cell 2; have q3 : w15.cell? ⟨g22, 3, none⟩ = some (.slice F2 E1.ca.length f2) := Y5.out.cell 3; have q4 : w15.cell? ⟨g22, 4, none⟩ = some (.slice F3 E1.qu.length f3) := Y5.out.cell 4; have fq0 : w15.frozen? ⟨g22, 0, none⟩ = false := Y5.out.frozen 0; have fq1 : w15.frozen? ⟨g22, 1, none⟩ = false := Y5.out.frozen 1; have fq2 : w15.frozen? ⟨g22, 2, none⟩ = false := Y5.out.frozen 2; have fq3 : w15.frozen? ⟨g22, 3, none⟩ = false := Y5.out.frozen 3; have fq4 : w15.frozen? ⟨g22, 4, none⟩ = false := Y5.out.frozen 4; have hq : g22 < w15.heap.size := Y5.out.lt)
                          replace X := hide (X.out.below hB)
                          replace O2 := hide (O2.out.below hB)
                          replace O3 := hide (O3.out.below hB)
                          replace K := hide (btrans K.out hB)
                          have DG := hide (devown_mono hD)
                          have KP := put5_kp (B := w.heap.size) Y5.out KW.out (.int .i64 E2.dep) (.int .i64 E2.nxt) (.slice G1 E2.bl.length g1) (.slice G2 E2.ca.length g2) (.slice G3 E2.qu.length g3')
                          obtain ⟨w16, hw16⟩ : ∃ x, x = put5 w15 g22 (.int .i64 E2.dep) (.int .i64 E2.nxt) (.slice G1 E2.bl.length g1) (.slice G2 E2.ca.length g2) (.slice G3 E2.qu.length g3') := ⟨_, rfl⟩
                          have PY := hide (show Box w16 g22 57 #[.int .i64 E2.dep, .int .i64 E2.nxt, .slice G1 E2.bl.length g1, .slice G2 E2.ca.length g2, .slice G3 E2.qu.length g3'] by rw [hw16]; exact put5_box Y5.out _ _ _ _ _)
                          have PX := hide (show Box w16 g14 57 #[.int .i64 E1.dep, .int .i64 E1.nxt, .slice F1 E1.bl.length f1, .slice F2 E1.ca.length f2, .slice F3 E1.qu.length f3] by rw [hw16]; exact put5_far X.out (by have := NE.out; omega) _ _ _ _ _)
                          have PD := hide (show Dv.DevOwn 0 w16 (.agg #[.int .i64 E2.dep, .int .i64 E2.nxt, .slice G1 E2.bl.length g1, .slice G2 E2.ca.length g2, .slice G3 E2.qu.length g3']) E2 by rw [hw16]; exact devown_kp DG.out (kp_dv KP) (by decide) (by decide) (by decide) (by decide))
                          have PO2 := hide (show Dv.OwnBy w16 (.slice A2 32 c2) aft by rw [hw16]; exact O2.out.kp (kp_dv KP) (by decide))
                          have PO3 := hide (show Dv.OwnBy w16 (.slice (some ⟨g13, 0, none⟩) 32 32) pg by rw [hw16]; exact O3.out.kp (kp_dv KP) (by decide))
                          have PK := hide (show Below w.heap.size w w16 by rw [hw16]; exact K.out.trans KP.below)
                          unfold put5 at hw16
                          rw [← hw16]
                          clear hw16 KP q0 fq0 q1 fq1 q2 fq2 q3 fq3 q4 fq4 hq x0 fx0 x1 fx1 x2 fx2 x3 fx3 x4 fx4 hx X Y Y5 DE O2 O3 K DG hD hu hB C3
                          have x0 : w16.cell? ⟨g14, 0, none⟩ = some (.int .i64 E1.dep) := PX.out.cell 0
                          have x1 : w16.cell? ⟨g14, 1, none⟩ = some (.int .i64 E1.nxt) := PX.out.cell 1
                          have x2 : w16.cell? ⟨g14, 2, none⟩ = some (.slice F1 E1.bl.length f1) := PX.out.cell 2
                          have x3 : w16.cell? ⟨g14, 3, none⟩ = some (.slice F2 E1.ca.length f2) := PX.out.cell 3
                          have x4 : w16.cell? ⟨g14, 4, none⟩ = some (.slice F3 E1.qu.length f3) := PX.out.cell 4
                          have fx0 : w16.frozen? ⟨g14, 0, none⟩ = false := PX.out.frozen 0
                          have fx1 : w16.frozen? ⟨g14, 1, none⟩ = false := PX.out.frozen 1
                          have fx2 : w16.frozen? ⟨g14, 2, none⟩ = false := PX.out.frozen 2
                          have fx3 : w16.frozen? ⟨g14, 3, none⟩ = false := PX.out.frozen 3
                          have fx4 : w16.frozen? ⟨g14, 4, none⟩ = false := PX.out.frozen 4
                          have hx : g14 < w16.heap.size := PX.out.lt
                          have q0 : w16.cell? ⟨g22, 0, none⟩ = some (.int .i64 E2.dep) := PY.out.cell 0
                          have q1 : w16.cell? ⟨g22, 1, none⟩ = some (.int .i64 E2.nxt) := PY.out.cell 1
                          have q2 : w16.cell? ⟨g22, 2, none⟩ = some (.slice G1 E2.bl.length g1) := PY.out.cell 2
                          have q3 : w16.cell? ⟨g22, 3, none⟩ = some (.slice G2 E2.ca.length g2) := PY.out.cell 3
                          have q4 : w16.cell? ⟨g22, 4, none⟩ = some (.slice G3 E2.qu.length g3') := PY.out.cell 4
                          have fq0 : w16.frozen? ⟨g22, 0, none⟩ = false := PY.out.frozen 0
                          have fq1 : w16.frozen? ⟨g22, 1, none⟩ = false := PY.out.frozen 1
                          have fq2 : w16.frozen? ⟨g22, 2, none⟩ = false := PY.out.frozen 2
                          have fq3 : w16.frozen? ⟨g22, 3, none⟩ = false := PY.out.frozen 3
                          have fq4 : w16.frozen? ⟨g22, 4, none⟩ = false := PY.out.frozen 4
                          have hq : g22 < w16.heap.size := PY.out.lt
                          go_upto_region 28 with fail
                          obtain ⟨w17, hw17⟩ : ∃ x, x = put5 w16 g14 (.int .i64 E2.dep) (.int .i64 E2.nxt) (.slice G1 E2.bl.length g1) (.slice G2 E2.ca.length g2) (.slice G3 E2.qu.length g3') := ⟨_, rfl⟩
                          have KP := put5_kp (B := w.heap.size) PX.out HG.out (.int .i64 E2.dep) (.int .i64 E2.nxt) (.slice G1 E2.bl.length g1) (.slice G2 E2.ca.length g2) (.slice G3 E2.qu.length g3')
                          have X := hide (show ∃ A1 d1 A2 d2 A3 d3, DB w17 g14 (DS (st + 1) (((n + 1 : Nat)) : Int) [] pg) A1 d1 A2 d2 A3 d3 by
                            have he : E2 = DS (st + 1) (((n + 1 : Nat)) : Int) [] pg := HE2.out
                            rw [← he]
                            exact ⟨_, _, _, _, _, _, by rw [hw17]; exact put5_box PX.out _ _ _ _ _, by rw [hw17]; exact devown_kp PD.out (kp_dv KP) (by decide) (by decide) (by decide) (by decide)⟩)
                          have O2 := hide (show Dv.OwnBy w17 (.slice A2 32 c2) aft by rw [hw17]; exact PO2.out.kp (kp_dv KP) (by decide))
                          have O3 := hide (show Dv.OwnBy w17 (.slice (some ⟨g13, 0, none⟩) 32 32) pg by rw [hw17]; exact PO3.out.kp (kp_dv KP) (by decide))
                          have K := hide (show Below w.heap.size w w17 by rw [hw17]; exact PK.out.trans KP.below)
                          unfold put5 at hw17
                          rw [← hw17]
                          clear hw17 KP q0 fq0 q1 fq1 q2 fq2 q3 fq3 q4 fq4 hq x0 fx0 x1 fx1 x2 fx2 x3 fx3 x4 fx4 hx PX PY PD PO2 PO3 PK HE2
                          go_wp2
                          go_roundw
                          case rel => first | exact ⟨st + 1, lf - 2, n + 1, by omega, by omega, by go_num, (by congr 1; omega), by go_num, X, O2, O3, K⟩ | ((repeat apply Exists.intro); exact ⟨⟨st + 1, lf - 2, n + 1, by omega, by omega, by go_num, (by congr 1; omega), by go_num, X, O2, O3, K⟩, rfl⟩)
                          case measure => simp [intOf]; omega
                        · rw [hfb] at xf
                          clear hfb
                          have C3 := hide (Dv.complete_any _ E1 0 false w14 DE.out.is B1.out)
                          rw [CM0.out, if_pos rfl, if_pos rfl, show (0 : Int).toNat = 0 from rfl, CMF.out] at C3
                          obtain ⟨E2, hE2⟩ : ∃ E, E = DS (st) ((n : Int) + 1) [] pg := ⟨_, rfl⟩
                          rw [← hE2] at C3
                          have HE2 := hide hE2
                          clear hE2
                          unfold Dv.DqR at C3
                          have x0 : w14.cell? ⟨g14, 0, none⟩ = some (.int .i64 E1.dep) := X.out.cell 0
                          have x1 : w14.cell? ⟨g14, 1, none⟩ = some (.int .i64 E1.nxt) := X.out.cell 1
                          have x2 : w14.cell? ⟨g14, 2, none⟩ = some (.slice F1 E1.bl.length f1) := X.out.cell 2
                          have x3 : w14.cell? ⟨g14, 3, none⟩ = some (.slice F2 E1.ca.length f2) := X.out.cell 3
                          have x4 : w14.cell? ⟨g14, 4, none⟩ = some (.slice F3 E1.qu.length f3) := X.out.cell 4
                          have fx0 : w14.frozen? ⟨g14, 0, none⟩ = false := X.out.frozen 0
                          have fx1 : w14.frozen? ⟨g14, 1, none⟩ = false := X.out.frozen 1
                          have fx2 : w14.frozen? ⟨g14, 2, none⟩ = false := X.out.frozen 2
                          have fx3 : w14.frozen? ⟨g14, 3, none⟩ = false := X.out.frozen 3
                          have fx4 : w14.frozen? ⟨g14, 4, none⟩ = false := X.out.frozen 4
                          have hx : g14 < w14.heap.size := X.out.lt
                          go_upto_if 120 with (go_at_call 31; refine C3.out.mono ?_; rintro e w15 ⟨v, u, rfl, hD, hu, hB⟩; obtain ⟨G1, g1, G2, g2, G3, g3', rfl⟩ := hD.form; obtain ⟨Au, cu, rfl, _, _⟩ := Dv.OwnBy.is hu; unfold Dv.dv; have Y5 := hide (Y.out.below hB); have q0 : w15.cell? ⟨g22, 0, none⟩ = some (.int .i64 E1.dep) := Y5.out.cell 0; have q1 : w15.cell? ⟨g22, 1, none⟩ = some (.int .i64 E1.nxt) := Y5.out.cell 1; have q2 : w15.cell? ⟨g22, 2, none⟩ = some (.slice F1 E1.bl.length f1) := Y5.out.cell 2; have q3 : w15.cell? ⟨g22, 3, none⟩ = some (.slice F2 E1.ca.length f2) := Y5.out.cell 3; have q4 : w15.cell? ⟨g22, 4, none⟩ = some (.slice F3 E1.qu.length f3) := Y5.out.cell 4; have fq0 : w15.frozen? ⟨g22, 0, none⟩ = false := Y5.out.frozen 0; have fq1 : w15.frozen? ⟨g22, 1, none⟩ = false := Y5.out.frozen 1; have fq2 : w15.frozen? ⟨g22, 2, none⟩ = false := Y5.out.frozen 2; have fq3 : w15.frozen? ⟨g22, 3, none⟩ = false := Y5.out.frozen 3; have fq4 : w15.frozen? ⟨g22, 4, none⟩ = false := Y5.out.frozen 4; have hq : g22 < w15.heap.size := Y5.out.lt)
                          replace X := hide (X.out.below hB)
                          replace O2 := hide (O2.out.below hB)
                          replace O3 := hide (O3.out.below hB)
                          replace K := hide (btrans K.out hB)
                          have DG := hide (devown_mono hD)
                          have KP := put5_kp (B := w.heap.size) Y5.out KW.out (.int .i64 E2.dep) (.int .i64 E2.nxt) (.slice G1 E2.bl.length g1) (.slice G2 E2.ca.length g2) (.slice G3 E2.qu.length g3')
                          obtain ⟨w16, hw16⟩ : ∃ x, x = put5 w15 g22 (.int .i64 E2.dep) (.int .i64 E2.nxt) (.slice G1 E2.bl.length g1) (.slice G2 E2.ca.length g2) (.slice G3 E2.qu.length g3') := ⟨_, rfl⟩
                          have PY := hide (show Box w16 g22 57 #[.int .i64 E2.dep, .int .i64 E2.nxt, .slice G1 E2.bl.length g1, .slice G2 E2.ca.length g2, .slice G3 E2.qu.length g3'] by rw [hw16]; exact put5_box Y5.out _ _ _ _ _)
                          have PX := hide (show Box w16 g14 57 #[.int .i64 E1.dep, .int .i64 E1.nxt, .slice F1 E1.bl.length f1, .slice F2 E1.ca.length f2, .slice F3 E1.qu.length f3] by rw [hw16]; exact put5_far X.out (by have := NE.out; omega) _ _ _ _ _)
                          have PD := hide (show Dv.DevOwn 0 w16 (.agg #[.int .i64 E2.dep, .int .i64 E2.nxt, .slice G1 E2.bl.length g1, .slice G2 E2.ca.length g2, .slice G3 E2.qu.length g3']) E2 by rw [hw16]; exact devown_kp DG.out (kp_dv KP) (by decide) (by decide) (by decide) (by decide))
                          have PO2 := hide (show Dv.OwnBy w16 (.slice A2 32 c2) aft by rw [hw16]; exact O2.out.kp (kp_dv KP) (by decide))
                          have PO3 := hide (show Dv.OwnBy w16 (.slice (some ⟨g13, 0, none⟩) 32 32) pg by rw [hw16]; exact O3.out.kp (kp_dv KP) (by decide))
                          have PK := hide (show Below w.heap.size w w16 by rw [hw16]; exact K.out.trans KP.below)
                          unfold put5 at hw16
                          rw [← hw16]
                          clear hw16 KP q0 fq0 q1 fq1 q2 fq2 q3 fq3 q4 fq4 hq x0 fx0 x1 fx1 x2 fx2 x3 fx3 x4 fx4 hx X Y Y5 DE O2 O3 K DG hD hu hB C3
                          have x0 : w16.cell? ⟨g14, 0, none⟩ = some (.int .i64 E1.dep) := PX.out.cell 0
                          have x1 : w16.cell? ⟨g14, 1, none⟩ = some (.int .i64 E1.nxt) := PX.out.cell 1
                          have x2 : w16.cell? ⟨g14, 2, none⟩ = some (.slice F1 E1.bl.length f1) := PX.out.cell 2
                          have x3 : w16.cell? ⟨g14, 3, none⟩ = some (.slice F2 E1.ca.length f2) := PX.out.cell 3
                          have x4 : w16.cell? ⟨g14, 4, none⟩ = some (.slice F3 E1.qu.length f3) := PX.out.cell 4
                          have fx0 : w16.frozen? ⟨g14, 0, none⟩ = false := PX.out.frozen 0
                          have fx1 : w16.frozen? ⟨g14, 1, none⟩ = false := PX.out.frozen 1
                          have fx2 : w16.frozen? ⟨g14, 2, none⟩ = false := PX.out.frozen 2
                          have fx3 : w16.frozen? ⟨g14, 3, none⟩ = false := PX.out.frozen 3
                          have fx4 : w16.frozen? ⟨g14, 4, none⟩ = false := PX.out.frozen 4
                          have hx : g14 < w16.heap.size := PX.out.lt
                          have q0 : w16.cell? ⟨g22, 0, none⟩ = some (.int .i64 E2.dep) := PY.out.cell 0
                          have q1 : w16.cell? ⟨g22, 1, none⟩ = some (.int .i64 E2.nxt) := PY.out.cell 1
                          have q2 : w16.cell? ⟨g22, 2, none⟩ = some (.slice G1 E2.bl.length g1) := PY.out.cell 2
                          have q3 : w16.cell? ⟨g22, 3, none⟩ = some (.slice G2 E2.ca.length g2) := PY.out.cell 3
                          have q4 : w16.cell? ⟨g22, 4, none⟩ = some (.slice G3 E2.qu.length g3') := PY.out.cell 4
                          have fq0 : w16.frozen? ⟨g22, 0, none⟩ = false := PY.out.frozen 0
                          have fq1 : w16.frozen? ⟨g22, 1, none⟩ = false := PY.out.frozen 1
                          have fq2 : w16.frozen? ⟨g22, 2, none⟩ = false := PY.out.frozen 2
                          have fq3 : w16.frozen? ⟨g22, 3, none⟩ = false := PY.out.frozen 3
                          have fq4 : w16.frozen? ⟨g22, 4, none⟩ = false := PY.out.frozen 4
                          have hq : g22 < w16.heap.size := PY.out.lt
                          go_upto_region 28 with fail
                          obtain ⟨w17, hw17⟩ : ∃ x, x = put5 w16 g14 (.int .i64 E2.dep) (.int .i64 E2.nxt) (.slice G1 E2.bl.length g1) (.slice G2 E2.ca.length g2) (.slice G3 E2.qu.length g3') := ⟨_, rfl⟩
                          have KP := put5_kp (B := w.heap.size) PX.out HG.out (.int .i64 E2.dep) (.int .i64 E2.nxt) (.slice G1 E2.bl.length g1) (.slice G2 E2.ca.length g2) (.slice G3 E2.qu.length g3')
                          have X := hide (show ∃ A1 d1 A2 d2 A3 d3, DB w17 g14 (DS (st) (((n + 1 : Nat)) : Int) [] pg) A1 d1 A2 d2 A3 d3 by
                            have he : E2 = DS (st) (((n + 1 : Nat)) : Int) [] pg := HE2.out
                            rw [← he]
                            exact ⟨_, _, _, _, _, _, by rw [hw17]; exact put5_box PX.out _ _ _ _ _, by rw [hw17]; exact devown_kp PD.out (kp_dv KP) (by decide) (by decide) (by decide) (by decide)⟩)
                          have O2 := hide (show Dv.OwnBy w17 (.slice A2 32 c2) aft by rw [hw17]; exact PO2.out.kp (kp_dv KP) (by decide))
                          have O3 := hide (show Dv.OwnBy w17 (.slice (some ⟨g13, 0, none⟩) 32 32) pg by rw [hw17]; exact PO3.out.kp (kp_dv KP) (by decide))
                          have K := hide (show Below w.heap.size w w17 by rw [hw17]; exact PK.out.trans KP.below)
                          unfold put5 at hw17
                          rw [← hw17]
                          clear hw17 KP q0 fq0 q1 fq1 q2 fq2 q3 fq3 q4 fq4 hq x0 fx0 x1 fx1 x2 fx2 x3 fx3 x4 fx4 hx PX PY PD PO2 PO3 PK HE2
                          go_wp2
                          go_roundw
                          case rel => first | exact ⟨st, lf - 2, n + 1, by omega, by omega, by go_num, (by congr 1; omega), by go_num, X, O2, O3, K⟩ | ((repeat apply Exists.intro); exact ⟨⟨st, lf - 2, n + 1, by omega, by omega, by go_num, (by congr 1; omega), by go_num, X, O2, O3, K⟩, rfl⟩)
                          case measure => simp [intOf]; omega
                      · have hnf2 : (fs.length : Int) ≤ (n : Int) := by omega
                        have C3 := hide (Dv.complete_any _ E1 0 true w14 DE.out.is B1.out)
                        rw [CM0.out, if_pos rfl, if_pos rfl, show (0 : Int).toNat = 0 from rfl, CMT.out] at C3
                        obtain ⟨E2, hE2⟩ : ∃ E, E = DS (st + 1) ((n : Int) + 1) [] pg := ⟨_, rfl⟩
                        rw [← hE2] at C3
                        have HE2 := hide hE2
                        clear hE2
                        unfold Dv.DqR at C3
                        have x0 : w14.cell? ⟨g14, 0, none⟩ = some (.int .i64 E1.dep) := X.out.cell 0
                        have x1 : w14.cell? ⟨g14, 1, none⟩ = some (.int .i64 E1.nxt) := X.out.cell 1
                        have x2 : w14.cell? ⟨g14, 2, none⟩ = some (.slice F1 E1.bl.length f1) := X.out.cell 2
                        have x3 : w14.cell? ⟨g14, 3, none⟩ = some (.slice F2 E1.ca.length f2) := X.out.cell 3
                        have x4 : w14.cell? ⟨g14, 4, none⟩ = some (.slice F3 E1.qu.length f3) := X.out.cell 4
                        have fx0 : w14.frozen? ⟨g14, 0, none⟩ = false := X.out.frozen 0
                        have fx1 : w14.frozen? ⟨g14, 1, none⟩ = false := X.out.frozen 1
                        have fx2 : w14.frozen? ⟨g14, 2, none⟩ = false := X.out.frozen 2
                        have fx3 : w14.frozen? ⟨g14, 3, none⟩ = false := X.out.frozen 3
                        have fx4 : w14.frozen? ⟨g14, 4, none⟩ = false := X.out.frozen 4
                        have hx : g14 < w14.heap.size := X.out.lt
                        go_upto_if 120 with (go_at_call 31; refine C3.out.mono ?_; rintro e w15 ⟨v, u, rfl, hD, hu, hB⟩; obtain ⟨G1, g1, G2, g2, G3, g3', rfl⟩ := hD.form; obtain ⟨Au, cu, rfl, _, _⟩ := Dv.OwnBy.is hu; unfold Dv.dv; have Y5 := hide (Y.out.below hB); have q0 : w15.cell? ⟨g22, 0, none⟩ = some (.int .i64 E1.dep) := Y5.out.cell 0; have q1 : w15.cell? ⟨g22, 1, none⟩ = some (.int .i64 E1.nxt) := Y5.out.cell 1; have q2 : w15.cell? ⟨g22, 2, none⟩ = some (.slice F1 E1.bl.length f1) := Y5.out.cell 2; have q3 : w15.cell? ⟨g22, 3, none⟩ = some (.slice F2 E1.ca.length f2) := Y5.out.cell 3; have q4 : w15.cell? ⟨g22, 4, none⟩ = some (.slice F3 E1.qu.length f3) := Y5.out.cell 4; have fq0 : w15.frozen? ⟨g22, 0, none⟩ = false := Y5.out.frozen 0; have fq1 : w15.frozen? ⟨g22, 1, none⟩ = false := Y5.out.frozen 1; have fq2 : w15.frozen? ⟨g22, 2, none⟩ = false := Y5.out.frozen 2; have fq3 : w15.frozen? ⟨g22, 3, none⟩ = false := Y5.out.frozen 3; have fq4 : w15.frozen? ⟨g22, 4, none⟩ = false := Y5.out.frozen 4; have hq : g22 < w15.heap.size := Y5.out.lt)
                        replace X := hide (X.out.below hB)
                        replace O2 := hide (O2.out.below hB)
                        replace O3 := hide (O3.out.below hB)
                        replace K := hide (btrans K.out hB)
                        have DG := hide (devown_mono hD)
                        have KP := put5_kp (B := w.heap.size) Y5.out KW.out (.int .i64 E2.dep) (.int .i64 E2.nxt) (.slice G1 E2.bl.length g1) (.slice G2 E2.ca.length g2) (.slice G3 E2.qu.length g3')
                        obtain ⟨w16, hw16⟩ : ∃ x, x = put5 w15 g22 (.int .i64 E2.dep) (.int .i64 E2.nxt) (.slice G1 E2.bl.length g1) (.slice G2 E2.ca.length g2) (.slice G3 E2.qu.length g3') := ⟨_, rfl⟩
                        have PY := hide (show Box w16 g22 57 #[.int .i64 E2.dep, .int .i64 E2.nxt, .slice G1 E2.bl.length g1, .slice G2 E2.ca.length g2, .slice G3 E2.qu.length g3'] by rw [hw16]; exact put5_box Y5.out _ _ _ _ _)
                        have PX := hide (show Box w16 g14 57 #[.int .i64 E1.dep, .int .i64 E1.nxt, .slice F1 E1.bl.length f1, .slice F2 E1.ca.length f2, .slice F3 E1.qu.length f3] by rw [hw16]; exact put5_far X.out (by have := NE.out; omega) _ _ _ _ _)
                        have PD := hide (show Dv.DevOwn 0 w16 (.agg #[.int .i64 E2.dep, .int .i64 E2.nxt, .slice G1 E2.bl.length g1, .slice G2 E2.ca.length g2, .slice G3 E2.qu.length g3']) E2 by rw [hw16]; exact devown_kp DG.out (kp_dv KP) (by decide) (by decide) (by decide) (by decide))
                        have PO2 := hide (show Dv.OwnBy w16 (.slice A2 32 c2) aft by rw [hw16]; exact O2.out.kp (kp_dv KP) (by decide))
                        have PO3 := hide (show Dv.OwnBy w16 (.slice (some ⟨g13, 0, none⟩) 32 32) pg by rw [hw16]; exact O3.out.kp (kp_dv KP) (by decide))
                        have PK := hide (show Below w.heap.size w w16 by rw [hw16]; exact K.out.trans KP.below)
                        unfold put5 at hw16
                        rw [← hw16]
                        clear hw16 KP q0 fq0 q1 fq1 q2 fq2 q3 fq3 q4 fq4 hq x0 fx0 x1 fx1 x2 fx2 x3 fx3 x4 fx4 hx X Y Y5 DE O2 O3 K DG hD hu hB C3
                        have x0 : w16.cell? ⟨g14, 0, none⟩ = some (.int .i64 E1.dep) := PX.out.cell 0
                        have x1 : w16.cell? ⟨g14, 1, none⟩ = some (.int .i64 E1.nxt) := PX.out.cell 1
                        have x2 : w16.cell? ⟨g14, 2, none⟩ = some (.slice F1 E1.bl.length f1) := PX.out.cell 2
                        have x3 : w16.cell? ⟨g14, 3, none⟩ = some (.slice F2 E1.ca.length f2) := PX.out.cell 3
                        have x4 : w16.cell? ⟨g14, 4, none⟩ = some (.slice F3 E1.qu.length f3) := PX.out.cell 4
                        have fx0 : w16.frozen? ⟨g14, 0, none⟩ = false := PX.out.frozen 0
                        have fx1 : w16.frozen? ⟨g14, 1, none⟩ = false := PX.out.frozen 1
                        have fx2 : w16.frozen? ⟨g14, 2, none⟩ = false := PX.out.frozen 2
                        have fx3 : w16.frozen? ⟨g14, 3, none⟩ = false := PX.out.frozen 3
                        have fx4 : w16.frozen? ⟨g14, 4, none⟩ = false := PX.out.frozen 4
                        have hx : g14 < w16.heap.size := PX.out.lt
                        have q0 : w16.cell? ⟨g22, 0, none⟩ = some (.int .i64 E2.dep) := PY.out.cell 0
                        have q1 : w16.cell? ⟨g22, 1, none⟩ = some (.int .i64 E2.nxt) := PY.out.cell 1
                        have q2 : w16.cell? ⟨g22, 2, none⟩ = some (.slice G1 E2.bl.length g1) := PY.out.cell 2
                        have q3 : w16.cell? ⟨g22, 3, none⟩ = some (.slice G2 E2.ca.length g2) := PY.out.cell 3
                        have q4 : w16.cell? ⟨g22, 4, none⟩ = some (.slice G3 E2.qu.length g3') := PY.out.cell 4
                        have fq0 : w16.frozen? ⟨g22, 0, none⟩ = false := PY.out.frozen 0
                        have fq1 : w16.frozen? ⟨g22, 1, none⟩ = false := PY.out.frozen 1
                        have fq2 : w16.frozen? ⟨g22, 2, none⟩ = false := PY.out.frozen 2
                        have fq3 : w16.frozen? ⟨g22, 3, none⟩ = false := PY.out.frozen 3
                        have fq4 : w16.frozen? ⟨g22, 4, none⟩ = false := PY.out.frozen 4
                        have hq : g22 < w16.heap.size := PY.out.lt
                        go_upto_region 28 with fail
                        obtain ⟨w17, hw17⟩ : ∃ x, x = put5 w16 g14 (.int .i64 E2.dep) (.int .i64 E2.nxt) (.slice G1 E2.bl.length g1) (.slice G2 E2.ca.length g2) (.slice G3 E2.qu.length g3') := ⟨_, rfl⟩
                        have KP := put5_kp (B := w.heap.size) PX.out HG.out (.int .i64 E2.dep) (.int .i64 E2.nxt) (.slice G1 E2.bl.length g1) (.slice G2 E2.ca.length g2) (.slice G3 E2.qu.length g3')
                        have X := hide (show ∃ A1 d1 A2 d2 A3 d3, DB w17 g14 (DS (st + 1) (((n + 1 : Nat)) : Int) [] pg) A1 d1 A2 d2 A3 d3 by
                          have he : E2 = DS (st + 1) (((n + 1 : Nat)) : Int) [] pg := HE2.out
                          rw [← he]
                          exact ⟨_, _, _, _, _, _, by rw [hw17]; exact put5_box PX.out _ _ _ _ _, by rw [hw17]; exact devown_kp PD.out (kp_dv KP) (by decide) (by decide) (by decide) (by decide)⟩)
                        have O2 := hide (show Dv.OwnBy w17 (.slice A2 32 c2) aft by rw [hw17]; exact PO2.out.kp (kp_dv KP) (by decide))
                        have O3 := hide (show Dv.OwnBy w17 (.slice (some ⟨g13, 0, none⟩) 32 32) pg by rw [hw17]; exact PO3.out.kp (kp_dv KP) (by decide))
                        have K := hide (show Below w.heap.size w w17 by rw [hw17]; exact PK.out.trans KP.below)
                        unfold put5 at hw17
                        rw [← hw17]
                        clear hw17 KP q0 fq0 q1 fq1 q2 fq2 q3 fq3 q4 fq4 hq x0 fx0 x1 fx1 x2 fx2 x3 fx3 x4 fx4 hx PX PY PD PO2 PO3 PK HE2
                        go_wp2
                        go_roundw
                        case rel => first | exact ⟨st + 1, lf - 2, n + 1, by omega, by omega, by go_num, (by congr 1; omega), by go_num, X, O2, O3, K⟩ | ((repeat apply Exists.intro); exact ⟨⟨st + 1, lf - 2, n + 1, by omega, by omega, by go_num, (by congr 1; omega), by go_num, X, O2, O3, K⟩, rfl⟩)
                        case measure => simp [intOf]; omega
                  · have e2 : ((st : Int) == 2) = false := by simp; omega
                    have E1D := hide (show rk st = 3 ∧ rb st = 0 ∧ rd st pg = [] by unfold rk rb rd; simp [*])
                    rw [E1D.out.1, E1D.out.2.1, E1D.out.2.2] at SB0 SD0 V1 FQ CM0 CMF CMT
                    obtain ⟨E1, hE1⟩ : ∃ E, E = DS st ((n : Int) + 1) [((n : Int), 3, 0, [])] pg := ⟨_, rfl⟩
                    rw [← hE1] at SD0 V1 FQ CM0 CMF CMT
                    have B1 := hide (vdB V1.out)
                    clear hE1 E1D
                    clear s0 s2
                    have C2 := hide (Dv.submit_any _ D 3 0 (.slice none 0 0) [] wr X.out.2.is B0.out ⟨none, 0, rfl, Nat.le_refl _, fun h => absurd rfl h⟩)
                    rw [SB0.out, if_pos rfl, if_pos rfl, SD0.out] at C2
                    unfold Dv.DvR3 at C2
                    obtain ⟨x0, x1, x2, x3, x4⟩ := X.out.cells
                    go_upto_if 93 with (go_at_call 30; refine C2.out.mono ?_; rintro e w12 ⟨v, rfl, hD, hB⟩; obtain ⟨F1, f1, F2, f2, F3, f3, rfl⟩ := hD.form; unfold Dv.dv)
                    replace X := hide (X.out.1.below hB)
                    replace O2 := hide (O2.out.below hB)
                    replace O3 := hide (O3.out.below hB)
                    replace K := hide (btrans K.out hB)
                    have NE := hide (show g14 < w12.heap.size from X.out.lt)
                    have M := bal (brefl w12) (.cells #[.int .i64 E1.dep, .int .i64 E1.nxt, .slice F1 E1.bl.length f1, .slice F2 E1.ca.length f2, .slice F3 E1.qu.length f3] 57)
                    have Y := hide (Box.new w12 57 #[.int .i64 E1.dep, .int .i64 E1.nxt, .slice F1 E1.bl.length f1, .slice F2 E1.ca.length f2, .slice F3 E1.qu.length f3])
                    have DE := hide (devown_below (devown_mono hD) M)
                    replace X := hide (X.out.below M)
                    replace O2 := hide (O2.out.below M)
                    replace O3 := hide (O3.out.below M)
                    have KW := hide K.out.size
                    replace K := hide (btrans K.out M)
                    obtain ⟨g22, hg22⟩ : ∃ g, g = w12.heap.size := ⟨_, rfl⟩
                    rw [← hg22] at Y NE KW ⊢
                    clear hg22 hB hD M x0 x1 x2 x3 x4 C2
                    generalize w12.alloc (.cells #[.int .i64 E1.dep, .int .i64 E1.nxt, .slice F1 E1.bl.length f1, .slice F2 E1.ca.length f2, .slice F3 E1.qu.length f3] 57) = w13 at *
                    have x0 : w13.cell? ⟨g14, 0, none⟩ = some (.int .i64 D.dep) := X.out.cell 0
                    have x1 : w13.cell? ⟨g14, 1, none⟩ = some (.int .i64 D.nxt) := X.out.cell 1
                    have x2 : w13.cell? ⟨g14, 2, none⟩ = some (.slice A1' D.bl.length a1') := X.out.cell 2
                    have x3 : w13.cell? ⟨g14, 3, none⟩ = some (.slice A2' D.ca.length a2') := X.out.cell 3
                    have x4 : w13.cell? ⟨g14, 4, none⟩ = some (.slice A3' D.qu.length a3') := X.out.cell 4
                    have fx0 : w13.frozen? ⟨g14, 0, none⟩ = false := X.out.frozen 0
                    have fx1 : w13.frozen? ⟨g14, 1, none⟩ = false := X.out.frozen 1
                    have fx2 : w13.frozen? ⟨g14, 2, none⟩ = false := X.out.frozen 2
                    have fx3 : w13.frozen? ⟨g14, 3, none⟩ = false := X.out.frozen 3
                    have fx4 : w13.frozen? ⟨g14, 4, none⟩ = false := X.out.frozen 4
                    have hx : g14 < w13.heap.size := X.out.lt
                    have y0 : w13.cell? ⟨g22, 0, none⟩ = some (.int .i64 E1.dep) := Y.out.cell 0
                    have y1 : w13.cell? ⟨g22, 1, none⟩ = some (.int .i64 E1.nxt) := Y.out.cell 1
                    have y2 : w13.cell? ⟨g22, 2, none⟩ = some (.slice F1 E1.bl.length f1) := Y.out.cell 2
                    have y3 : w13.cell? ⟨g22, 3, none⟩ = some (.slice F2 E1.ca.length f2) := Y.out.cell 3
                    have y4 : w13.cell? ⟨g22, 4, none⟩ = some (.slice F3 E1.qu.length f3) := Y.out.cell 4
                    have fy0 : w13.frozen? ⟨g22, 0, none⟩ = false := Y.out.frozen 0
                    have fy1 : w13.frozen? ⟨g22, 1, none⟩ = false := Y.out.frozen 1
                    have fy2 : w13.frozen? ⟨g22, 2, none⟩ = false := Y.out.frozen 2
                    have fy3 : w13.frozen? ⟨g22, 3, none⟩ = false := Y.out.frozen 3
                    have fy4 : w13.frozen? ⟨g22, 4, none⟩ = false := Y.out.frozen 4
                    have hy : g22 < w13.heap.size := Y.out.lt
                    go_upto_region 20 with fail
                    obtain ⟨w14, hw14⟩ : ∃ x, x = put5 w13 g14 (.int .i64 E1.dep) (.int .i64 E1.nxt) (.slice F1 E1.bl.length f1) (.slice F2 E1.ca.length f2) (.slice F3 E1.qu.length f3) := ⟨_, rfl⟩
                    have KP := put5_kp (B := w.heap.size) X.out HG.out (.int .i64 E1.dep) (.int .i64 E1.nxt) (.slice F1 E1.bl.length f1) (.slice F2 E1.ca.length f2) (.slice F3 E1.qu.length f3)
                    have PX := hide (show Box w14 g14 57 #[.int .i64 E1.dep, .int .i64 E1.nxt, .slice F1 E1.bl.length f1, .slice F2 E1.ca.length f2, .slice F3 E1.qu.length f3] by rw [hw14]; exact put5_box X.out _ _ _ _ _)
                    have PY := hide (show Box w14 g22 57 #[.int .i64 E1.dep, .int .i64 E1.nxt, .slice F1 E1.bl.length f1, .slice F2 E1.ca.length f2, .slice F3 E1.qu.length f3] by rw [hw14]; exact put5_far Y.out (by have := NE.out; omega) _ _ _ _ _)
                    have PD := hide (show Dv.DevOwn 0 w14 (.agg #[.int .i64 E1.dep, .int .i64 E1.nxt, .slice F1 E1.bl.length f1, .slice F2 E1.ca.length f2, .slice F3 E1.qu.length f3]) E1 by rw [hw14]; exact devown_kp DE.out (kp_dv KP) (by decide) (by decide) (by decide) (by decide))
                    have PO2 := hide (show Dv.OwnBy w14 (.slice A2 32 c2) aft by rw [hw14]; exact O2.out.kp (kp_dv KP) (by decide))
                    have PO3 := hide (show Dv.OwnBy w14 (.slice (some ⟨g13, 0, none⟩) 32 32) pg by rw [hw14]; exact O3.out.kp (kp_dv KP) (by decide))
                    have PK := hide (show Below w.heap.size w w14 by rw [hw14]; exact K.out.trans KP.below)
                    unfold put5 at hw14
                    rw [← hw14]
                    clear hw14 KP x0 fx0 x1 fx1 x2 fx2 x3 fx3 x4 fx4 hx y0 fy0 y1 fy1 y2 fy2 y3 fy3 y4 fy4 hy X Y DE O2 O3 K
                    have X := PX
                    have Y := PY
                    have DE := PD
                    have O2 := PO2
                    have O3 := PO3
                    have K := PK
                    clear PX PY PD PO2 PO3 PK
                    by_cases hl1 : lf = 1
                    · subst hl1
                      go_wp2
                      go_meet
                      exact ⟨st, E1, hst, rfl, FQ, V1, hide ⟨_, _, _, _, _, _, X.out, DE.out⟩, O3, K⟩
                    · have lne : ((lf : Int) - 1 == 0) = false := by simp; omega
                      have wl : IntKind.i64.wrap ((lf : Int) - 1) = (lf : Int) - 1 := by rw [IntKind.wrap_i64]; omega
                      have wl2 : IntKind.i64.wrap ((lf : Int) - 1 - 1) = (lf : Int) - 1 - 1 := by rw [IntKind.wrap_i64]; omega
                      have wt : IntKind.i64.wrap ((n : Int) + 1) = (n : Int) + 1 := by rw [IntKind.wrap_i64]; omega
                      have ws : IntKind.i64.wrap ((st : Int) + 1) = (st : Int) + 1 := by rw [IntKind.wrap_i64]; omega
                      by_cases hnf : n < fs.length
                      · have hnf2 : ¬ (fs.length : Int) ≤ (n : Int) := by omega
                        have hnf3 : (n : Int) < (fs.length : Int) := by omega
                        obtain ⟨bf, of, rfl, _, xf⟩ := HF.out.cells K.out hnf
                        cases hfb : fs.getD n false
                        · rw [hfb] at xf
                          clear hfb
                          have C3 := hide (Dv.complete_any _ E1 0 true w14 DE.out.is B1.out)
                          rw [CM0.out, if_pos rfl, if_pos rfl, show (0 : Int).toNat = 0 from rfl, CMT.out] at C3
                          obtain ⟨E2, hE2⟩ : ∃ E, E = DS (st + 1) ((n : Int) + 1) [] pg := ⟨_, rfl⟩
                          rw [← hE2] at C3
                          have HE2 := hide hE2
                          clear hE2
                          unfold Dv.DqR at C3
                          have x0 : w14.cell? ⟨g14, 0, none⟩ = some (.int .i64 E1.dep) := X.out.cell 0
                          have x1 : w14.cell? ⟨g14, 1, none⟩ = some (.int .i64 E1.nxt) := X.out.cell 1
                          have x2 : w14.cell? ⟨g14, 2, none⟩ = some (.slice F1 E1.bl.length f1) := X.out.cell 2
                          have x3 : w14.cell? ⟨g14, 3, none⟩ = some (.slice F2 E1.ca.length f2) := X.out.cell 3
                          have x4 : w14.cell? ⟨g14, 4, none⟩ = some (.slice F3 E1.qu.length f3) := X.out.cell 4
                          have fx0 : w14.frozen? ⟨g14, 0, none⟩ = false := X.out.frozen 0
                          have fx1 : w14.frozen? ⟨g14, 1, none⟩ = false := X.out.frozen 1
                          have fx2 : w14.frozen? ⟨g14, 2, none⟩ = false := X.out.frozen 2
                          have fx3 : w14.frozen? ⟨g14, 3, none⟩ = false := X.out.frozen 3
                          have fx4 : w14.frozen? ⟨g14, 4, none⟩ = false := X.out.frozen 4
                          have hx : g14 < w14.heap.size := X.out.lt
                          go_upto_if 120 with (go_at_call 31; refine C3.out.mono ?_; rintro e w15 ⟨v, u, rfl, hD, hu, hB⟩; obtain ⟨G1, g1, G2, g2, G3, g3', rfl⟩ := hD.form; obtain ⟨Au, cu, rfl, _, _⟩ := Dv.OwnBy.is hu; unfold Dv.dv; have Y5 := hide (Y.out.below hB); have q0 : w15.cell? ⟨g22, 0, none⟩ = some (.int .i64 E1.dep) := Y5.out.cell 0; have q1 : w15.cell? ⟨g22, 1, none⟩ = some (.int .i64 E1.nxt) := Y5.out.cell 1; have q2 : w15.cell? ⟨g22, 2, none⟩ = some (.slice F1 E1.bl.length f1) := Y5.out.cell 2; have q3 : w15.cell? ⟨g22, 3, none⟩ = some (.slice F2 E1.ca.length f2) := Y5.out.cell 3; have q4 : w15.cell? ⟨g22, 4, none⟩ = some (.slice F3 E1.qu.length f3) := Y5.out.cell 4; have fq0 : w15.frozen? ⟨g22, 0, none⟩ = false := Y5.out.frozen 0; have fq1 : w15.frozen? ⟨g22, 1, none⟩ = false := Y5.out.frozen 1; have fq2 : w15.frozen? ⟨g22, 2, none⟩ = false := Y5.out.frozen 2; have fq3 : w15.frozen? ⟨g22, 3, none⟩ = false := Y5.out.frozen 3; have fq4 : w15.frozen? ⟨g22, 4, none⟩ = false := Y5.out.frozen 4; have hq : g22 < w15.heap.size := Y5.out.lt)
                          replace X := hide (X.out.below hB)
                          replace O2 := hide (O2.out.below hB)
                          replace O3 := hide (O3.out.below hB)
                          replace K := hide (btrans K.out hB)
                          have DG := hide (devown_mono hD)
                          have KP := put5_kp (B := w.heap.size) Y5.out KW.out (.int .i64 E2.dep) (.int .i64 E2.nxt) (.slice G1 E2.bl.length g1) (.slice G2 E2.ca.length g2) (.slice G3 E2.qu.length g3')
                          obtain ⟨w16, hw16⟩ : ∃ x, x = put5 w15 g22 (.int .i64 E2.dep) (.int .i64 E2.nxt) (.slice G1 E2.bl.length g1) (.slice G2 E2.ca.length g2) (.slice G3 E2.qu.length g3') := ⟨_, rfl⟩
                          have PY := hide (show Box w16 g22 57 #[.int .i64 E2.dep, .int .i64 E2.nxt, .slice G1 E2.bl.length g1, .slice G2 E2.ca.length g2, .slice G3 E2.qu.length g3'] by rw [hw16]; exact put5_box Y5.out _ _ _ _ _)
                          have PX := hide (show Box w16 g14 57 #[.int .i64 E1.dep, .int .i64 E1.nxt, .slice F1 E1.bl.length f1, .slice F2 E1.ca.length f2, .slice F3 E1.qu.length f3] by rw [hw16]; exact put5_far X.out (by have := NE.out; omega) _ _ _ _ _)
                          have PD := hide (show Dv.DevOwn 0 w16 (.agg #[.int .i64 E2.dep, .int .i64 E2.nxt, .slice G1 E2.bl.length g1, .slice G2 E2.ca.length g2, .slice G3 E2.qu.length g3']) E2 by rw [hw16]; exact devown_kp DG.out (kp_dv KP) (by decide) (by decide) (by decide) (by decide))
                          have PO2 := hide (show Dv.OwnBy w16 (.slice A2 32 c2) aft by rw [hw16]; exact O2.out.kp (kp_dv KP) (by decide))
                          have PO3 := hide (show Dv.OwnBy w16 (.slice (some ⟨g13, 0, none⟩) 32 32) pg by rw [hw16]; exact O3.out.kp (kp_dv KP) (by decide))
                          have PK := hide (show Below w.heap.size w w16 by rw [hw16]; exact K.out.trans KP.below)
                          unfold put5 at hw16
                          rw [← hw16]
                          clear hw16 KP q0 fq0 q1 fq1 q2 fq2 q3 fq3 q4 fq4 hq x0 fx0 x1 fx1 x2 fx2 x3 fx3 x4 fx4 hx X Y Y5 DE O2 O3 K DG hD hu hB C3
                          have x0 : w16.cell? ⟨g14, 0, none⟩ = some (.int .i64 E1.dep) := PX.out.cell 0
                          have x1 : w16.cell? ⟨g14, 1, none⟩ = some (.int .i64 E1.nxt) := PX.out.cell 1
                          have x2 : w16.cell? ⟨g14, 2, none⟩ = some (.slice F1 E1.bl.length f1) := PX.out.cell 2
                          have x3 : w16.cell? ⟨g14, 3, none⟩ = some (.slice F2 E1.ca.length f2) := PX.out.cell 3
                          have x4 : w16.cell? ⟨g14, 4, none⟩ = some (.slice F3 E1.qu.length f3) := PX.out.cell 4
                          have fx0 : w16.frozen? ⟨g14, 0, none⟩ = false := PX.out.frozen 0
                          have fx1 : w16.frozen? ⟨g14, 1, none⟩ = false := PX.out.frozen 1
                          have fx2 : w16.frozen? ⟨g14, 2, none⟩ = false := PX.out.frozen 2
                          have fx3 : w16.frozen? ⟨g14, 3, none⟩ = false := PX.out.frozen 3
                          have fx4 : w16.frozen? ⟨g14, 4, none⟩ = false := PX.out.frozen 4
                          have hx : g14 < w16.heap.size := PX.out.lt
                          have q0 : w16.cell? ⟨g22, 0, none⟩ = some (.int .i64 E2.dep) := PY.out.cell 0
                          have q1 : w16.cell? ⟨g22, 1, none⟩ = some (.int .i64 E2.nxt) := PY.out.cell 1
                          have q2 : w16.cell? ⟨g22, 2, none⟩ = some (.slice G1 E2.bl.length g1) := PY.out.cell 2
                          have q3 : w16.cell? ⟨g22, 3, none⟩ = some (.slice G2 E2.ca.length g2) := PY.out.cell 3
                          have q4 : w16.cell? ⟨g22, 4, none⟩ = some (.slice G3 E2.qu.length g3') := PY.out.cell 4
                          have fq0 : w16.frozen? ⟨g22, 0, none⟩ = false := PY.out.frozen 0
                          have fq1 : w16.frozen? ⟨g22, 1, none⟩ = false := PY.out.frozen 1
                          have fq2 : w16.frozen? ⟨g22, 2, none⟩ = false := PY.out.frozen 2
                          have fq3 : w16.frozen? ⟨g22, 3, none⟩ = false := PY.out.frozen 3
                          have fq4 : w16.frozen? ⟨g22, 4, none⟩ = false := PY.out.frozen 4
                          have hq : g22 < w16.heap.size := PY.out.lt
                          go_upto_region 28 with fail
                          obtain ⟨w17, hw17⟩ : ∃ x, x = put5 w16 g14 (.int .i64 E2.dep) (.int .i64 E2.nxt) (.slice G1 E2.bl.length g1) (.slice G2 E2.ca.length g2) (.slice G3 E2.qu.length g3') := ⟨_, rfl⟩
                          have KP := put5_kp (B := w.heap.size) PX.out HG.out (.int .i64 E2.dep) (.int .i64 E2.nxt) (.slice G1 E2.bl.length g1) (.slice G2 E2.ca.length g2) (.slice G3 E2.qu.length g3')
                          have X := hide (show ∃ A1 d1 A2 d2 A3 d3, DB w17 g14 (DS (st + 1) (((n + 1 : Nat)) : Int) [] pg) A1 d1 A2 d2 A3 d3 by
                            have he : E2 = DS (st + 1) (((n + 1 : Nat)) : Int) [] pg := HE2.out
                            rw [← he]
                            exact ⟨_, _, _, _, _, _, by rw [hw17]; exact put5_box PX.out _ _ _ _ _, by rw [hw17]; exact devown_kp PD.out (kp_dv KP) (by decide) (by decide) (by decide) (by decide)⟩)
                          have O2 := hide (show Dv.OwnBy w17 (.slice A2 32 c2) aft by rw [hw17]; exact PO2.out.kp (kp_dv KP) (by decide))
                          have O3 := hide (show Dv.OwnBy w17 (.slice (some ⟨g13, 0, none⟩) 32 32) pg by rw [hw17]; exact PO3.out.kp (kp_dv KP) (by decide))
                          have K := hide (show Below w.heap.size w w17 by rw [hw17]; exact PK.out.trans KP.below)
                          unfold put5 at hw17
                          rw [← hw17]
                          clear hw17 KP q0 fq0 q1 fq1 q2 fq2 q3 fq3 q4 fq4 hq x0 fx0 x1 fx1 x2 fx2 x3 fx3 x4 fx4 hx PX PY PD PO2 PO3 PK HE2
                          go_wp2
                          go_roundw
                          case rel => first | exact ⟨st + 1, lf - 2, n + 1, by omega, by omega, by go_num, (by congr 1; omega), by go_num, X, O2, O3, K⟩ | ((repeat apply Exists.intro); exact ⟨⟨st + 1, lf - 2, n + 1, by omega, by omega, by go_num, (by congr 1; omega), by go_num, X, O2, O3, K⟩, rfl⟩)
                          case measure => simp [intOf]; omega
                        · rw [hfb] at xf
                          clear hfb
                          have C3 := hide (Dv.complete_any _ E1 0 false w14 DE.out.is B1.out)
                          rw [CM0.out, if_pos rfl, if_pos rfl, show (0 : Int).toNat = 0 from rfl, CMF.out] at C3
                          obtain ⟨E2, hE2⟩ : ∃ E, E = DS (st) ((n : Int) + 1) [] pg := ⟨_, rfl⟩
                          rw [← hE2] at C3
                          have HE2 := hide hE2
                          clear hE2
                          unfold Dv.DqR at C3
                          have x0 : w14.cell? ⟨g14, 0, none⟩ = some (.int .i64 E1.dep) := X.out.cell 0
                          have x1 : w14.cell? ⟨g14, 1, none⟩ = some (.int .i64 E1.nxt) := X.out.cell 1
                          have x2 : w14.cell? ⟨g14, 2, none⟩ = some (.slice F1 E1.bl.length f1) := X.out.cell 2
                          have x3 : w14.cell? ⟨g14, 3, none⟩ = some (.slice F2 E1.ca.length f2) := X.out.cell 3
                          have x4 : w14.cell? ⟨g14, 4, none⟩ = some (.slice F3 E1.qu.length f3) := X.out.cell 4
                          have fx0 : w14.frozen? ⟨g14, 0, none⟩ = false := X.out.frozen 0
                          have fx1 : w14.frozen? ⟨g14, 1, none⟩ = false := X.out.frozen 1
                          have fx2 : w14.frozen? ⟨g14, 2, none⟩ = false := X.out.frozen 2
                          have fx3 : w14.frozen? ⟨g14, 3, none⟩ = false := X.out.frozen 3
                          have fx4 : w14.frozen? ⟨g14, 4, none⟩ = false := X.out.frozen 4
                          have hx : g14 < w14.heap.size := X.out.lt
                          go_upto_if 120 with (go_at_call 31; refine C3.out.mono ?_; rintro e w15 ⟨v, u, rfl, hD, hu, hB⟩; obtain ⟨G1, g1, G2, g2, G3, g3', rfl⟩ := hD.form; obtain ⟨Au, cu, rfl, _, _⟩ := Dv.OwnBy.is hu; unfold Dv.dv; have Y5 := hide (Y.out.below hB); have q0 : w15.cell? ⟨g22, 0, none⟩ = some (.int .i64 E1.dep) := Y5.out.cell 0; have q1 : w15.cell? ⟨g22, 1, none⟩ = some (.int .i64 E1.nxt) := Y5.out.cell 1; have q2 : w15.cell? ⟨g22, 2, none⟩ = some (.slice F1 E1.bl.length f1) := Y5.out.cell 2; have q3 : w15.cell? ⟨g22, 3, none⟩ = some (.slice F2 E1.ca.length f2) := Y5.out.cell 3; have q4 : w15.cell? ⟨g22, 4, none⟩ = some (.slice F3 E1.qu.length f3) := Y5.out.cell 4; have fq0 : w15.frozen? ⟨g22, 0, none⟩ = false := Y5.out.frozen 0; have fq1 : w15.frozen? ⟨g22, 1, none⟩ = false := Y5.out.frozen 1; have fq2 : w15.frozen? ⟨g22, 2, none⟩ = false := Y5.out.frozen 2; have fq3 : w15.frozen? ⟨g22, 3, none⟩ = false := Y5.out.frozen 3; have fq4 : w15.frozen? ⟨g22, 4, none⟩ = false := Y5.out.frozen 4; have hq : g22 < w15.heap.size := Y5.out.lt)
                          replace X := hide (X.out.below hB)
                          replace O2 := hide (O2.out.below hB)
                          replace O3 := hide (O3.out.below hB)
                          replace K := hide (btrans K.out hB)
                          have DG := hide (devown_mono hD)
                          have KP := put5_kp (B := w.heap.size) Y5.out KW.out (.int .i64 E2.dep) (.int .i64 E2.nxt) (.slice G1 E2.bl.length g1) (.slice G2 E2.ca.length g2) (.slice G3 E2.qu.length g3')
                          obtain ⟨w16, hw16⟩ : ∃ x, x = put5 w15 g22 (.int .i64 E2.dep) (.int .i64 E2.nxt) (.slice G1 E2.bl.length g1) (.slice G2 E2.ca.length g2) (.slice G3 E2.qu.length g3') := ⟨_, rfl⟩
                          have PY := hide (show Box w16 g22 57 #[.int .i64 E2.dep, .int .i64 E2.nxt, .slice G1 E2.bl.length g1, .slice G2 E2.ca.length g2, .slice G3 E2.qu.length g3'] by rw [hw16]; exact put5_box Y5.out _ _ _ _ _)
                          have PX := hide (show Box w16 g14 57 #[.int .i64 E1.dep, .int .i64 E1.nxt, .slice F1 E1.bl.length f1, .slice F2 E1.ca.length f2, .slice F3 E1.qu.length f3] by rw [hw16]; exact put5_far X.out (by have := NE.out; omega) _ _ _ _ _)
                          have PD := hide (show Dv.DevOwn 0 w16 (.agg #[.int .i64 E2.dep, .int .i64 E2.nxt, .slice G1 E2.bl.length g1, .slice G2 E2.ca.length g2, .slice G3 E2.qu.length g3']) E2 by rw [hw16]; exact devown_kp DG.out (kp_dv KP) (by decide) (by decide) (by decide) (by decide))
                          have PO2 := hide (show Dv.OwnBy w16 (.slice A2 32 c2) aft by rw [hw16]; exact O2.out.kp (kp_dv KP) (by decide))
                          have PO3 := hide (show Dv.OwnBy w16 (.slice (some ⟨g13, 0, none⟩) 32 32) pg by rw [hw16]; exact O3.out.kp (kp_dv KP) (by decide))
                          have PK := hide (show Below w.heap.size w w16 by rw [hw16]; exact K.out.trans KP.below)
                          unfold put5 at hw16
                          rw [← hw16]
                          clear hw16 KP q0 fq0 q1 fq1 q2 fq2 q3 fq3 q4 fq4 hq x0 fx0 x1 fx1 x2 fx2 x3 fx3 x4 fx4 hx X Y Y5 DE O2 O3 K DG hD hu hB C3
                          have x0 : w16.cell? ⟨g14, 0, none⟩ = some (.int .i64 E1.dep) := PX.out.cell 0
                          have x1 : w16.cell? ⟨g14, 1, none⟩ = some (.int .i64 E1.nxt) := PX.out.cell 1
                          have x2 : w16.cell? ⟨g14, 2, none⟩ = some (.slice F1 E1.bl.length f1) := PX.out.cell 2
                          have x3 : w16.cell? ⟨g14, 3, none⟩ = some (.slice F2 E1.ca.length f2) := PX.out.cell 3
                          have x4 : w16.cell? ⟨g14, 4, none⟩ = some (.slice F3 E1.qu.length f3) := PX.out.cell 4
                          have fx0 : w16.frozen? ⟨g14, 0, none⟩ = false := PX.out.frozen 0
                          have fx1 : w16.frozen? ⟨g14, 1, none⟩ = false := PX.out.frozen 1
                          have fx2 : w16.frozen? ⟨g14, 2, none⟩ = false := PX.out.frozen 2
                          have fx3 : w16.frozen? ⟨g14, 3, none⟩ = false := PX.out.frozen 3
                          have fx4 : w16.frozen? ⟨g14, 4, none⟩ = false := PX.out.frozen 4
                          have hx : g14 < w16.heap.size := PX.out.lt
                          have q0 : w16.cell? ⟨g22, 0, none⟩ = some (.int .i64 E2.dep) := PY.out.cell 0
                          have q1 : w16.cell? ⟨g22, 1, none⟩ = some (.int .i64 E2.nxt) := PY.out.cell 1
                          have q2 : w16.cell? ⟨g22, 2, none⟩ = some (.slice G1 E2.bl.length g1) := PY.out.cell 2
                          have q3 : w16.cell? ⟨g22, 3, none⟩ = some (.slice G2 E2.ca.length g2) := PY.out.cell 3
                          have q4 : w16.cell? ⟨g22, 4, none⟩ = some (.slice G3 E2.qu.length g3') := PY.out.cell 4
                          have fq0 : w16.frozen? ⟨g22, 0, none⟩ = false := PY.out.frozen 0
                          have fq1 : w16.frozen? ⟨g22, 1, none⟩ = false := PY.out.frozen 1
                          have fq2 : w16.frozen? ⟨g22, 2, none⟩ = false := PY.out.frozen 2
                          have fq3 : w16.frozen? ⟨g22, 3, none⟩ = false := PY.out.frozen 3
                          have fq4 : w16.frozen? ⟨g22, 4, none⟩ = false := PY.out.frozen 4
                          have hq : g22 < w16.heap.size := PY.out.lt
                          go_upto_region 28 with fail
                          obtain ⟨w17, hw17⟩ : ∃ x, x = put5 w16 g14 (.int .i64 E2.dep) (.int .i64 E2.nxt) (.slice G1 E2.bl.length g1) (.slice G2 E2.ca.length g2) (.slice G3 E2.qu.length g3') := ⟨_, rfl⟩
                          have KP := put5_kp (B := w.heap.size) PX.out HG.out (.int .i64 E2.dep) (.int .i64 E2.nxt) (.slice G1 E2.bl.length g1) (.slice G2 E2.ca.length g2) (.slice G3 E2.qu.length g3')
                          have X := hide (show ∃ A1 d1 A2 d2 A3 d3, DB w17 g14 (DS (st) (((n + 1 : Nat)) : Int) [] pg) A1 d1 A2 d2 A3 d3 by
                            have he : E2 = DS (st) (((n + 1 : Nat)) : Int) [] pg := HE2.out
                            rw [← he]
                            exact ⟨_, _, _, _, _, _, by rw [hw17]; exact put5_box PX.out _ _ _ _ _, by rw [hw17]; exact devown_kp PD.out (kp_dv KP) (by decide) (by decide) (by decide) (by decide)⟩)
                          have O2 := hide (show Dv.OwnBy w17 (.slice A2 32 c2) aft by rw [hw17]; exact PO2.out.kp (kp_dv KP) (by decide))
                          have O3 := hide (show Dv.OwnBy w17 (.slice (some ⟨g13, 0, none⟩) 32 32) pg by rw [hw17]; exact PO3.out.kp (kp_dv KP) (by decide))
                          have K := hide (show Below w.heap.size w w17 by rw [hw17]; exact PK.out.trans KP.below)
                          unfold put5 at hw17
                          rw [← hw17]
                          clear hw17 KP q0 fq0 q1 fq1 q2 fq2 q3 fq3 q4 fq4 hq x0 fx0 x1 fx1 x2 fx2 x3 fx3 x4 fx4 hx PX PY PD PO2 PO3 PK HE2
                          go_wp2
                          go_roundw
                          case rel => first | exact ⟨st, lf - 2, n + 1, by omega, by omega, by go_num, (by congr 1; omega), by go_num, X, O2, O3, K⟩ | ((repeat apply Exists.intro); exact ⟨⟨st, lf - 2, n + 1, by omega, by omega, by go_num, (by congr 1; omega), by go_num, X, O2, O3, K⟩, rfl⟩)
                          case measure => simp [intOf]; omega
                      · have hnf2 : (fs.length : Int) ≤ (n : Int) := by omega
                        have C3 := hide (Dv.complete_any _ E1 0 true w14 DE.out.is B1.out)
                        rw [CM0.out, if_pos rfl, if_pos rfl, show (0 : Int).toNat = 0 from rfl, CMT.out] at C3
                        obtain ⟨E2, hE2⟩ : ∃ E, E = DS (st + 1) ((n : Int) + 1) [] pg := ⟨_, rfl⟩
                        rw [← hE2] at C3
                        have HE2 := hide hE2
                        clear hE2
                        unfold Dv.DqR at C3
                        have x0 : w14.cell? ⟨g14, 0, none⟩ = some (.int .i64 E1.dep) := X.out.cell 0
                        have x1 : w14.cell? ⟨g14, 1, none⟩ = some (.int .i64 E1.nxt) := X.out.cell 1
                        have x2 : w14.cell? ⟨g14, 2, none⟩ = some (.slice F1 E1.bl.length f1) := X.out.cell 2
                        have x3 : w14.cell? ⟨g14, 3, none⟩ = some (.slice F2 E1.ca.length f2) := X.out.cell 3
                        have x4 : w14.cell? ⟨g14, 4, none⟩ = some (.slice F3 E1.qu.length f3) := X.out.cell 4
                        have fx0 : w14.frozen? ⟨g14, 0, none⟩ = false := X.out.frozen 0
                        have fx1 : w14.frozen? ⟨g14, 1, none⟩ = false := X.out.frozen 1
                        have fx2 : w14.frozen? ⟨g14, 2, none⟩ = false := X.out.frozen 2
                        have fx3 : w14.frozen? ⟨g14, 3, none⟩ = false := X.out.frozen 3
                        have fx4 : w14.frozen? ⟨g14, 4, none⟩ = false := X.out.frozen 4
                        have hx : g14 < w14.heap.size := X.out.lt
                        go_upto_if 120 with (go_at_call 31; refine C3.out.mono ?_; rintro e w15 ⟨v, u, rfl, hD, hu, hB⟩; obtain ⟨G1, g1, G2, g2, G3, g3', rfl⟩ := hD.form; obtain ⟨Au, cu, rfl, _, _⟩ := Dv.OwnBy.is hu; unfold Dv.dv; have Y5 := hide (Y.out.below hB); have q0 : w15.cell? ⟨g22, 0, none⟩ = some (.int .i64 E1.dep) := Y5.out.cell 0; have q1 : w15.cell? ⟨g22, 1, none⟩ = some (.int .i64 E1.nxt) := Y5.out.cell 1; have q2 : w15.cell? ⟨g22, 2, none⟩ = some (.slice F1 E1.bl.length f1) := Y5.out.cell 2; have q3 : w15.cell? ⟨g22, 3, none⟩ = some (.slice F2 E1.ca.length f2) := Y5.out.cell 3; have q4 : w15.cell? ⟨g22, 4, none⟩ = some (.slice F3 E1.qu.length f3) := Y5.out.cell 4; have fq0 : w15.frozen? ⟨g22, 0, none⟩ = false := Y5.out.frozen 0; have fq1 : w15.frozen? ⟨g22, 1, none⟩ = false := Y5.out.frozen 1; have fq2 : w15.frozen? ⟨g22, 2, none⟩ = false := Y5.out.frozen 2; have fq3 : w15.frozen? ⟨g22, 3, none⟩ = false := Y5.out.frozen 3; have fq4 : w15.frozen? ⟨g22, 4, none⟩ = false := Y5.out.frozen 4; have hq : g22 < w15.heap.size := Y5.out.lt)
                        replace X := hide (X.out.below hB)
                        replace O2 := hide (O2.out.below hB)
                        replace O3 := hide (O3.out.below hB)
                        replace K := hide (btrans K.out hB)
                        have DG := hide (devown_mono hD)
                        have KP := put5_kp (B := w.heap.size) Y5.out KW.out (.int .i64 E2.dep) (.int .i64 E2.nxt) (.slice G1 E2.bl.length g1) (.slice G2 E2.ca.length g2) (.slice G3 E2.qu.length g3')
                        obtain ⟨w16, hw16⟩ : ∃ x, x = put5 w15 g22 (.int .i64 E2.dep) (.int .i64 E2.nxt) (.slice G1 E2.bl.length g1) (.slice G2 E2.ca.length g2) (.slice G3 E2.qu.length g3') := ⟨_, rfl⟩
                        have PY := hide (show Box w16 g22 57 #[.int .i64 E2.dep, .int .i64 E2.nxt, .slice G1 E2.bl.length g1, .slice G2 E2.ca.length g2, .slice G3 E2.qu.length g3'] by rw [hw16]; exact put5_box Y5.out _ _ _ _ _)
                        have PX := hide (show Box w16 g14 57 #[.int .i64 E1.dep, .int .i64 E1.nxt, .slice F1 E1.bl.length f1, .slice F2 E1.ca.length f2, .slice F3 E1.qu.length f3] by rw [hw16]; exact put5_far X.out (by have := NE.out; omega) _ _ _ _ _)
                        have PD := hide (show Dv.DevOwn 0 w16 (.agg #[.int .i64 E2.dep, .int .i64 E2.nxt, .slice G1 E2.bl.length g1, .slice G2 E2.ca.length g2, .slice G3 E2.qu.length g3']) E2 by rw [hw16]; exact devown_kp DG.out (kp_dv KP) (by decide) (by decide) (by decide) (by decide))
                        have PO2 := hide (show Dv.OwnBy w16 (.slice A2 32 c2) aft by rw [hw16]; exact O2.out.kp (kp_dv KP) (by decide))
                        have PO3 := hide (show Dv.OwnBy w16 (.slice (some ⟨g13, 0, none⟩) 32 32) pg by rw [hw16]; exact O3.out.kp (kp_dv KP) (by decide))
                        have PK := hide (show Below w.heap.size w w16 by rw [hw16]; exact K.out.trans KP.below)
                        unfold put5 at hw16
                        rw [← hw16]
                        clear hw16 KP q0 fq0 q1 fq1 q2 fq2 q3 fq3 q4 fq4 hq x0 fx0 x1 fx1 x2 fx2 x3 fx3 x4 fx4 hx X Y Y5 DE O2 O3 K DG hD hu hB C3
                        have x0 : w16.cell? ⟨g14, 0, none⟩ = some (.int .i64 E1.dep) := PX.out.cell 0
                        have x1 : w16.cell? ⟨g14, 1, none⟩ = some (.int .i64 E1.nxt) := PX.out.cell 1
                        have x2 : w16.cell? ⟨g14, 2, none⟩ = some (.slice F1 E1.bl.length f1) := PX.out.cell 2
                        have x3 : w16.cell? ⟨g14, 3, none⟩ = some (.slice F2 E1.ca.length f2) := PX.out.cell 3
                        have x4 : w16.cell? ⟨g14, 4, none⟩ = some (.slice F3 E1.qu.length f3) := PX.out.cell 4
                        have fx0 : w16.frozen? ⟨g14, 0, none⟩ = false := PX.out.frozen 0
                        have fx1 : w16.frozen? ⟨g14, 1, none⟩ = false := PX.out.frozen 1
                        have fx2 : w16.frozen? ⟨g14, 2, none⟩ = false := PX.out.frozen 2
                        have fx3 : w16.frozen? ⟨g14, 3, none⟩ = false := PX.out.frozen 3
                        have fx4 : w16.frozen? ⟨g14, 4, none⟩ = false := PX.out.frozen 4
                        have hx : g14 < w16.heap.size := PX.out.lt
                        have q0 : w16.cell? ⟨g22, 0, none⟩ = some (.int .i64 E2.dep) := PY.out.cell 0
                        have q1 : w16.cell? ⟨g22, 1, none⟩ = some (.int .i64 E2.nxt) := PY.out.cell 1
                        have q2 : w16.cell? ⟨g22, 2, none⟩ = some (.slice G1 E2.bl.length g1) := PY.out.cell 2
                        have q3 : w16.cell? ⟨g22, 3, none⟩ = some (.slice G2 E2.ca.length g2) := PY.out.cell 3
                        have q4 : w16.cell? ⟨g22, 4, none⟩ = some (.slice G3 E2.qu.length g3') := PY.out.cell 4
                        have fq0 : w16.frozen? ⟨g22, 0, none⟩ = false := PY.out.frozen 0
                        have fq1 : w16.frozen? ⟨g22, 1, none⟩ = false := PY.out.frozen 1
                        have fq2 : w16.frozen? ⟨g22, 2, none⟩ = false := PY.out.frozen 2
                        have fq3 : w16.frozen? ⟨g22, 3, none⟩ = false := PY.out.frozen 3
                        have fq4 : w16.frozen? ⟨g22, 4, none⟩ = false := PY.out.frozen 4
                        have hq : g22 < w16.heap.size := PY.out.lt
                        go_upto_region 28 with fail
                        obtain ⟨w17, hw17⟩ : ∃ x, x = put5 w16 g14 (.int .i64 E2.dep) (.int .i64 E2.nxt) (.slice G1 E2.bl.length g1) (.slice G2 E2.ca.length g2) (.slice G3 E2.qu.length g3') := ⟨_, rfl⟩
                        have KP := put5_kp (B := w.heap.size) PX.out HG.out (.int .i64 E2.dep) (.int .i64 E2.nxt) (.slice G1 E2.bl.length g1) (.slice G2 E2.ca.length g2) (.slice G3 E2.qu.length g3')
                        have X := hide (show ∃ A1 d1 A2 d2 A3 d3, DB w17 g14 (DS (st + 1) (((n + 1 : Nat)) : Int) [] pg) A1 d1 A2 d2 A3 d3 by
                          have he : E2 = DS (st + 1) (((n + 1 : Nat)) : Int) [] pg := HE2.out
                          rw [← he]
                          exact ⟨_, _, _, _, _, _, by rw [hw17]; exact put5_box PX.out _ _ _ _ _, by rw [hw17]; exact devown_kp PD.out (kp_dv KP) (by decide) (by decide) (by decide) (by decide)⟩)
                        have O2 := hide (show Dv.OwnBy w17 (.slice A2 32 c2) aft by rw [hw17]; exact PO2.out.kp (kp_dv KP) (by decide))
                        have O3 := hide (show Dv.OwnBy w17 (.slice (some ⟨g13, 0, none⟩) 32 32) pg by rw [hw17]; exact PO3.out.kp (kp_dv KP) (by decide))
                        have K := hide (show Below w.heap.size w w17 by rw [hw17]; exact PK.out.trans KP.below)
                        unfold put5 at hw17
                        rw [← hw17]
                        clear hw17 KP q0 fq0 q1 fq1 q2 fq2 q3 fq3 q4 fq4 hq x0 fx0 x1 fx1 x2 fx2 x3 fx3 x4 fx4 hx PX PY PD PO2 PO3 PK HE2
                        go_wp2
                        go_roundw
                        case rel => first | exact ⟨st + 1, lf - 2, n + 1, by omega, by omega, by go_num, (by congr 1; omega), by go_num, X, O2, O3, K⟩ | ((repeat apply Exists.intro); exact ⟨⟨st + 1, lf - 2, n + 1, by omega, by omega, by go_num, (by congr 1; omega), by go_num, X, O2, O3, K⟩, rfl⟩)
                        case measure => simp [intOf]; omega
              · obtain rfl : lf = 0 := by omega
                have FN := hide (finS (ps := ps) hst V0.out (.inl rfl))
                go_wp2
                go_meet
                exact ⟨st, _, hst, rfl, FN, V0, X, O3, K⟩
            · have h42 : ¬ (st : Int) < 4 := by omega
              have FN := hide (finS (ps := ps) hst V0.out (.inl rfl))
              go_wp2
              go_meet
              exact ⟨st, _, hst, rfl, FN, V0, X, O3, K⟩
        case rest =>
          clear X O2 O3 K
          obtain ⟨st, D, hst, rfl, FN, VDD, X, O3, K⟩ := hcut
          obtain ⟨A1', a1', A2', a2', A3', a3', X⟩ := X.out
          replace X := hide X
          have C2 := hide (Dv.crash_any _ D Ap ps cp wc X.out.2.is (vdB VDD.out) (show Dv.RdT wc Ap ps from HP.out.below K.out) hpn)
          rw [Dv.chk_of VDD.out, if_pos rfl] at C2
          unfold Dv.DvR2 at C2
          have BG := hide (Dv.big_crD (ps := ps) VDD.out)
          obtain ⟨x0, x1, x2, x3, x4⟩ := X.out.cells
          generalize Dv.crD D ps = E2 at *
          go_upto_region 32 with (go_at_call 32; refine C2.out.mono ?_; rintro e w12 ⟨v, rfl, hD, hB⟩; obtain ⟨F1, f1, F2, f2, F3, f3, rfl⟩ := hD.form; unfold Dv.dv)
          replace O3 := hide (O3.out.below hB)
          replace K := hide (btrans K.out hB)
          unfold Dv.dv at hD
          have M := bal (brefl w12) (.cells #[.int .i64 E2.dep, .int .i64 E2.nxt, .slice F1 E2.bl.length f1, .slice F2 E2.ca.length f2, .slice F3 E2.qu.length f3] 57)
          have Y := hide (Box.new w12 57 #[.int .i64 E2.dep, .int .i64 E2.nxt, .slice F1 E2.bl.length f1, .slice F2 E2.ca.length f2, .slice F3 E2.qu.length f3])
          have DI := hide (fun w' (h : Below (w12.alloc (.cells #[.int .i64 E2.dep, .int .i64 E2.nxt, .slice F1 E2.bl.length f1, .slice F2 E2.ca.length f2, .slice F3 E2.qu.length f3] 57)).heap.size (w12.alloc (.cells #[.int .i64 E2.dep, .int .i64 E2.nxt, .slice F1 E2.bl.length f1, .slice F2 E2.ca.length f2, .slice F3 E2.qu.length f3] 57)) w') => (hD.is.below M).below h)
          replace O3 := hide (O3.out.below M)
          replace K := hide (btrans K.out M)
          obtain ⟨g26, hg8⟩ : ∃ g, g = w12.heap.size := ⟨_, rfl⟩
          rw [← hg8] at Y ⊢
          clear hg8 hB hD M x0 x1 x2 x3 x4 X C2
          generalize w12.alloc (.cells #[.int .i64 E2.dep, .int .i64 E2.nxt, .slice F1 E2.bl.length f1, .slice F2 E2.ca.length f2, .slice F3 E2.qu.length f3] 57) = w13 at *
          have C3 := hide (Dv.durable_any _ E2 0 _ (DI.out _ (brefl _)) BG.out)
          unfold Dv.ByR at C3
          have y0 := Y.out.cell 0
          have y1 := Y.out.cell 1
          have y2 := Y.out.cell 2
          have y3 := Y.out.cell 3
          have y4 := Y.out.cell 4
          simp at y0 y1 y2 y3 y4
          rcases FN.out with ⟨hd, h4⟩ | ⟨hd, hd2⟩
          · rw [hd] at C3
            have h42 : (st : Int) < 4 := by omega
            clear hd
            go_wp2_with (go_at_call 33; refine C3.out.mono ?_; rintro e w14 ⟨u, rfl, hu, hB⟩; obtain ⟨A4, c4, rfl, hc4, hb4⟩ := Dv.OwnBy.is hu; rw [l32.1])
            have C4 := hide (dec_any A4 c4 bfr w14 (show BsB w14 A4 bfr from hb4) (blk_byt (s := 1) (m := 1) (by decide)) (by rw [l32.1]; decide))
            unfold DeR at C4
            rw [show dE bfr = 0 from dE_blk (s := 1) (m := 1) (by decide), show dR bfr = (1, 1) from dR_blk (s := 1) (m := 1) (by decide), l32.1] at C4
            replace K := hide (btrans K.out hB)
            refine C4.out.mono ?_
            rintro e w15 ⟨rfl, hB2⟩
            replace K := hide (btrans K.out hB2)
            clear hB hB2 hu hb4 hc4 y0 y1 y2 y3 y4 C3 C4 Y DI
            go_wp2
            go_ret
            exact ⟨rfl, K.out⟩
          · rw [hd] at C3
            have HD2 := hide hd2
            clear hd hd2
            go_wp2_with (go_at_call 33; refine C3.out.mono ?_; rintro e w14 ⟨u, rfl, hu, hB⟩; obtain ⟨A4, c4, rfl, hc4, hb4⟩ := Dv.OwnBy.is hu; rw [l32.2.1])
            have C4 := hide (dec_any A4 c4 aft w14 (show BsB w14 A4 aft from hb4) (blk_byt (s := 2) (m := 3) (by decide)) (by rw [l32.2.1]; decide))
            unfold DeR at C4
            rw [show dE aft = 0 from dE_blk (s := 2) (m := 3) (by decide), show dR aft = (2, 3) from dR_blk (s := 2) (m := 3) (by decide), l32.2.1] at C4
            replace K := hide (btrans K.out hB)
            have KD := hide hB
            refine C4.out.mono ?_
            rintro e w15 ⟨rfl, hB2⟩
            replace K := hide (btrans K.out hB2)
            replace KD := hide (btrans KD.out hB2)
            clear hB hB2 hu hb4 hc4 y0 y1 y2 y3 y4 C3 C4
            replace O3 := hide (O3.out.below KD.out)
            replace Y := hide (Y.out.below KD.out)
            have C5 := hide (Dv.durable_any _ E2 2 _ (DI.out _ KD.out) BG.out)
            unfold Dv.ByR at C5
            rw [HD2.out] at C5
            have y0 := Y.out.cell 0
            have y1 := Y.out.cell 1
            have y2 := Y.out.cell 2
            have y3 := Y.out.cell 3
            have y4 := Y.out.cell 4
            simp at y0 y1 y2 y3 y4
            go_wp2_with (go_at_call 33; refine C5.out.mono ?_; rintro e w16 ⟨u, rfl, hu, hB⟩; obtain ⟨A5, c5, rfl, hc5, hb5⟩ := Dv.OwnBy.is hu; rw [LP.out])
            obtain ⟨A6, c6, e6, _, hb6⟩ := (O3.out.below hB).is
            injection e6 with e61 _ e63
            subst e61 e63
            have CE := hide (equal_any A5 (some ⟨g13, 0, none⟩) c5 32 pg pg w16 (show BsB w16 A5 pg from hb5) (show BsB w16 (some ⟨g13, 0, none⟩) pg from hb6) HY.out HY.out)
            rw [decide_eq_true rfl, LP.out] at CE
            replace K := hide (btrans K.out hB)
            refine CE.out.mono ?_
            rintro e w17 ⟨rfl, rfl⟩
            clear hB hu hb5 hc5 hb6 y0 y1 y2 y3 y4 C5 CE Y DI
            go_wp2
            go_ret
            exact ⟨rfl, K.out⟩
end Go.Proofs.Ytncdilkcblakhaa.In
