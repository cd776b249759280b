import Derived.Test.YthoeolaleeogbaaInv7
namespace Go.Proofs.Ythoeolaleeogbaa.Tb
open Go Go.RowKit Go.Proofs.Ythoeolaleeogbaa.Pt
set_option linter.unusedVariables false
theorem fillE_place {size : Int} {L : List Te} {s p W : Int} (h : placeE size L s p ≠ 0) : fillE size L s p W = placeE size L s p := by unfold fillE; rw [if_pos h]
theorem fillE_tr {size : Int} {L : List Te} {s p W : Int} (h : placeE size L s p = 0) (h2 : isTr W = false) : fillE size L s p W = 3 := by unfold fillE; rw [if_neg (by simpa using h), if_pos h2]
theorem fillE_ok {size : Int} {L : List Te} {s p W : Int} (h : placeE size L s p = 0) (h2 : isTr W = true) : fillE size L s p W = 0 := by unfold fillE; rw [if_neg (by simpa using h), h2]; rfl
theorem RowT.own_grown {B c g : Nat} {L : List Te} {w : World} (h : OwnR B L (some ⟨g, 0, none⟩) c w) : Value.ownBlock (.slice (some ⟨g, 0, none⟩) L.length c) = some g := rfl
set_option maxHeartbeats 4000000 in
set_option maxRecDepth 100000 in
theorem fill_any (size : Int) (A : Option Addr) (L : List Te) (c : Nat) (s p W : Int) (w : World) (h : TlbIn w A L c) (hW : inW W) :
    Calls Try.prog 22 #[.agg #[.int .i64 size, .slice A L.length c], .int .i64 s, .int .i64 p, .int .u64 W] w (TlbR (resS size (fillE size L s p W)) (resM (fillL size L s p W) (fillE size L s p W)) (fillE size L s p W) w) := by
  obtain ⟨W0, hW0⟩ : ∃ W0, W0 = (w.alloc (.cells #[.int .i64 size, .slice A L.length c] 24)).alloc (.cells #[.int .i64 0, .slice none 0 0] 24) := ⟨_, rfl⟩
  have K0 := hide (show Below w.heap.size w W0 by rw [hW0]; exact bal (bal (brefl w) _) _)
  have X0 := hide (show Box W0 w.heap.size 24 #[.int .i64 size, .slice A L.length c] by rw [hW0]; exact (Box.new w _ _).more _)
  have V0 := hide (show Box W0 (w.heap.size + 1) 24 #[.int .i64 0, .slice none 0 0] by rw [hW0]; exact Box.new2 _ _ _ _)
  have T0 := hide (h.below K0.out)
  have C := hide (fun W (hb : Below W0.heap.size W0 W) => place_any size A L c s p W (T0.out.below hb))
  have HW := hide hW0
  unfold TlbR
  by_cases hk : placeE size L s p = 0
  · obtain ⟨hk1, hk2⟩ := placeE_zero hk
    have hsm := h.small hk1
    have T1 := hide (fun w => isTr_any W w hW)
    cases ht : isTr W
    · rw [fillE_tr hk ht]
      rw [ht] at T1
      rw [hk] at C
      have e1 : resS size 3 = 0 := rfl
      have e2 : resM (fillL size L s p W) 3 = [] := rfl
      rw [e1, e2]
      clear hk hk1 hk2 ht hW0 h hW e1 e2
      go_enter Try.func22, Try.ntmps22
      go_wp2_with fail
      rw [← HW.out]
      refine (C.out _ (brefl _)).mono ?_
      rintro e w1 ⟨rfl, hb1⟩
      have K := hide hb1
      clear hb1
      go_wp2_with fail
      refine (T1.out _).mono ?_
      rintro e w2 ⟨rfl, hb2⟩
      replace K := hide (btrans K.out hb2)
      have V2 := hide (V0.out.below K.out)
      have v0 := V2.out.cell 0
      have v1 := V2.out.cell 1
      have f0 := V2.out.frozen 0
      have f1 := V2.out.frozen 1
      simp at v0 v1
      clear hb2
      go_wp2
      exact ret_tlb2 Try.results22 rfl rfl rfl ((V2.out.put 0 (.int .i64 0)).put 1 (.slice none 0 0)) ⟨none, 0, rfl, own_nil _ _, bset (bset (btrans K0.out K.out) (by simp <;> omega) _) (by simp <;> omega) _⟩
    · rw [fillE_ok hk ht]
      rw [ht] at T1
      rw [hk] at C
      have e1 : resS size 0 = size := rfl
      have e2 : resM (fillL size L s p W) 0 = fillL size L s p W := rfl
      rw [e1, e2]
      have hp := okSP_inP hk2
      have T2 := hide (fun w => fp_any p W w hp hW)
      have hne := newE_ok hk2 ht
      have hnp := okE_inP hne
      have hok := (chkT_ok.1 hk1).2.2.1
      have hsz := (chkT_ok.1 hk1).1
      have HL := hide (show ∀ o ∈ L, inP o.2.1 ∧ inW o.2.2 from fun o ho => ⟨okE_inP (hok o ho), h.inw o ho⟩)
      have PW := hide (fun (W2 : World) (g : Nat) (hX : Box W2 g 47 #[.int .i64 s, .int .i64 (fp W p), .int .u64 W]) => pred_ovl42 (newE s p W) g W2 L hX hnp hW HL.out)
      have WO := hide (fun (W2 : World) (g : Nat) (hb : Below W0.heap.size W0 W2) (hX : Box W2 g 47 #[.int .i64 s, .int .i64 (fp W p), .int .u64 W]) => without_any size A L c 42 _ (fun o => ovl o (newE s p W)) W2 enters42 (PW.out W2 g hX) (T0.out.ts.below hb) hsm)
      have hM1 : (L.filter fun x => !(fun o => ovl o (newE s p W)) x).length ≤ 1000 := Nat.le_trans (List.length_filter_le _ _) hsm
      obtain ⟨M1, hM1e⟩ : ∃ M1, M1 = L.filter fun x => !(fun o => ovl o (newE s p W)) x := ⟨_, rfl⟩
      rw [← hM1e] at WO hM1
      have FL : fillL size L s p W = shed size M1 ++ [(s, fp W p, W)] := by rw [hM1e]; rfl
      rw [FL]
      obtain ⟨i0, hi0, hz0, hz1, hz2⟩ := info_parts info47
      generalize fp W p = y at *
      clear FL hM1e PW HL hok hnp hne e1 e2 hk hk1 hk2 ht hW0 h hW hp hsm
      by_cases hfull : (M1.length : Int) = size
      · have hd : ((M1.length : Int) == size) = true := by simpa using hfull
        obtain ⟨n, hn⟩ : ∃ n, M1.length = n + 1 := ⟨M1.length - 1, by omega⟩
        have FS := hide (show shed size M1 = M1.drop 1 by unfold shed; rw [if_pos hfull])
        rw [FS.out]
        have hML : (M1.drop 1).length = n := by rw [List.length_drop, hn]; rfl
        rw [show (M1.drop 1 ++ [(s, y, W)]).length = n + 1 by rw [List.length_append, hML]; rfl]
        clear hfull
        go_enter Try.func22, Try.ntmps22
        go_wp2_with fail
        rw [← HW.out]
        refine (C.out _ (brefl _)).mono ?_
        rintro e w1 ⟨rfl, hb1⟩
        have K := hide hb1
        clear hb1
        go_wp2_with fail
        refine (T1.out _).mono ?_
        rintro e w2 ⟨rfl, hb2⟩
        replace K := hide (btrans K.out hb2)
        clear hb2
        go_wp2_with fail
        refine (T2.out _).mono ?_
        rintro e w3 ⟨rfl, hb3⟩
        replace K := hide (btrans K.out hb3)
        have x0 := (X0.out.below K.out).cell 0
        have x1 := (X0.out.below K.out).cell 1
        simp at x0 x1
        have ADD := hide (Box.new w3 47 #[.int .i64 s, .int .i64 y, .int .u64 W])
        have K3 := hide (bal K.out (.cells #[.int .i64 s, .int .i64 y, .int .u64 W] 47))
        have hlt3 := hide (Nat.lt_of_lt_of_le X0.out.lt K.out.size)
        have hlt3' := hlt3.out
        clear hb3
        go_wp2_with fail
        obtain ⟨w4, hw4⟩ : ∃ w4, w4 = w3.alloc (.cells #[.int .i64 s, .int .i64 y, .int .u64 W] 47) := ⟨_, rfl⟩
        rw [← hw4] at ADD K3 ⊢
        have HW4 := hide hw4
        clear hw4 x0 x1 hlt3'
        refine (WO.out _ _ K3.out ADD.out).mono ?_
        rintro e w5 ⟨A5, c5, rfl, hown5, hb5⟩
        obtain ⟨b, rfl, hB, hcc, hmm, hrow⟩ := hown5.row (by rintro rfl; simp at hn)
        have OUT := hide (Box.new w5 24 #[.int .i64 size, .slice (some ⟨b, 0, none⟩) M1.length c5])
        have K5 := hide (btrans K3.out hb5)
        have ADD5 := hide ((ADD.out.below hb5).more (.cells #[.int .i64 size, .slice (some ⟨b, 0, none⟩) M1.length c5] 24))
        have V5 := hide ((V0.out.below K5.out).more (.cells #[.int .i64 size, .slice (some ⟨b, 0, none⟩) M1.length c5] 24))
        have R5 := hide (hrow.below (bal (brefl _) (.cells #[.int .i64 size, .slice (some ⟨b, 0, none⟩) M1.length c5] 24)))
        have K6 := hide (bal K5.out (.cells #[.int .i64 size, .slice (some ⟨b, 0, none⟩) M1.length c5] 24))
        have HB := hide (show W0.heap.size ≤ b from Nat.le_trans K3.out.size hB)
        have HADD := hide (show w3.heap.size < b from Nat.lt_of_lt_of_le ADD.out.lt hB)
        clear hb5 hown5 hB hrow
        rw [hn] at OUT R5 V5 ADD5 K6
        have hM1' := hM1
        go_wp2_with fail
        refine (cut_any b c5 n M1 _ W0.heap.size hn hcc hmm R5.out HB.out).mono ?_
        rintro e w7 ⟨rfl, hown7, hg7⟩
        have OUT7 := hide (OUT.out.grown hg7 (fun e => R5.out.ne OUT.out (by injection e)))
        have ADD7 := hide (ADD5.out.grown hg7 (fun e => by have := HADD.out; injection e; omega))
        have V7 := hide (V5.out.grown hg7 (fun e => R5.out.ne V5.out (by injection e)))
        have K7 := hide (K6.out.trans (grown_below hg7 HB.out K6.out.size))
        have O7 := hide (show w7.ownsRow W0.heap.size 47 3 (.slice (some ⟨b, 0, none⟩) n c5) n (tcs (M1.drop 1)) by rw [← hML]; exact hown7)
        clear hown7 hg7 OUT ADD V5 R5
        have o0 := OUT7.out.cell 0
        have o1 := OUT7.out.cell 1
        have of1 := OUT7.out.frozen 1
        have a0 := ADD7.out.cell 0
        have a1 := ADD7.out.cell 1
        have a2 := ADD7.out.cell 2
        simp at o0 o1 a0 a1 a2
        have hab := hide (show w3.heap.size ≠ w5.heap.size from fun e => by have := ADD7.out; have h2 := OUT7.out; rw [e] at this; unfold Box at this h2; rw [this] at h2; injection h2 with h2; injection h2 with _ h3; exact absurd h3 (by decide))
        have hlt5 := hide (show w.heap.size + 1 < w5.heap.size from Nat.lt_of_lt_of_le V0.out.lt K5.out.size)
        have NEW := hide (cell_three_new (w7.setCell ⟨w5.heap.size, 1, none⟩ (.slice (some ⟨b, 0, none⟩) n c5)) (.int .i64 s) (.int .i64 y) (.int .u64 W) 47)
        rw [show (w7.setCell ⟨w5.heap.size, 1, none⟩ (.slice (some ⟨b, 0, none⟩) n c5)).heap.size = w7.heap.size by simp [World.setCell]] at NEW
        have O9 := hide (show ((w7.setCell ⟨w5.heap.size, 1, none⟩ (.slice (some ⟨b, 0, none⟩) n c5)).alloc (.cells #[.int .i64 s, .int .i64 y, .int .u64 W] 47)).ownsRow W0.heap.size 47 3 (.slice (some ⟨b, 0, none⟩) n c5) n (tcs (M1.drop 1)) from by have q := (OwnR.boxset (L := M1.drop 1) (by unfold OwnR; rw [hML]; exact O7.out) OUT7.out 1 (.slice (some ⟨b, 0, none⟩) n c5)).below (bal (brefl _) (.cells #[.int .i64 s, .int .i64 y, .int .u64 W] 47)); unfold OwnR at q; rw [hML] at q; exact q)
        have OUT8 := hide ((OUT7.out.put 1 (.slice (some ⟨b, 0, none⟩) n c5)).more (.cells #[.int .i64 s, .int .i64 y, .int .u64 W] 47))
        have V8 := hide ((V7.out.far (b := w5.heap.size) (i := 1) (by have := hlt5.out; omega) (.slice (some ⟨b, 0, none⟩) n c5)).more (.cells #[.int .i64 s, .int .i64 y, .int .u64 W] 47))
        have K8 := hide (bal (bset K7.out (p := ⟨w5.heap.size, 1, none⟩) K5.out.size (.slice (some ⟨b, 0, none⟩) n c5)) (.cells #[.int .i64 s, .int .i64 y, .int .u64 W] 47))
        have hl1 := hlt5.out
        have hl2 := hab.out
        have hl3 := hab.out.symm
        go_wp2_with (at_builtin; refine wpList_append_own _ rfl (.tmp 45) (.tmp 47) 22 rfl W0.heap.size 47 i0 _ 3 24 Try.underlying22 hi0 hz0 hz1 hz2 rfl (by omega) (.slice (some ⟨b, 0, none⟩) n c5) n (tcs (M1.drop 1)) rfl O9.out ⟨w7.heap.size, 0, none⟩ 1 1 [.int .i64 s, .int .i64 y, .int .u64 W] rfl rfl NEW.out (by intro u hu; simp at hu; rcases hu with rfl | rfl | rfl <;> rfl) (by simp only [maxLen]; omega) (by omega) K8.out.size ?_; intro v1 w9 hown9 hg9 _; obtain ⟨A9, c9, rfl⟩ := row_form hown9; have G9 := hide hg9; have P9 := hide hown9; have OUT9 := hide (OUT8.out.grown hg9 (OwnR.boxne (L := M1.drop 1) (by unfold OwnR; rw [hML]; exact O9.out) OUT8.out)); have V9 := hide (V8.out.grown hg9 (OwnR.boxne (L := M1.drop 1) (by unfold OwnR; rw [hML]; exact O9.out) V8.out)); have K9 := hide (K8.out.trans (row_below O9.out hg9 (Nat.le_refl _) K8.out.size)); clear hown9 hg9; have o0 := OUT9.out.cell 0; have o1 := OUT9.out.cell 1; have of1 := OUT9.out.frozen 1; have v0 := V9.out.cell 0; have v1 := V9.out.cell 1; have f0 := V9.out.frozen 0; have f1 := V9.out.frozen 1; simp at o0 o1 v0 v1)
        have hlt6 := hlt5.out
        have PO := hide (OwnR.mono (L := M1.drop 1 ++ [(s, y, W)]) (A := A9) (c := c9) (by unfold OwnR; rw [tcs_append, show (M1.drop 1 ++ [(s, y, W)]).length = n + 1 by rw [List.length_append, hML]; rfl]; exact P9.out) K0.out.size)
        have V10 := hide (V9.out.far (b := w5.heap.size) (i := 1) (by omega) (.slice A9 (n + 1) c9))
        exact ret_tlb2 Try.results22 rfl rfl rfl ((V10.out.put 0 (.int .i64 size)).put 1 (.slice A9 (n + 1) c9)) ⟨A9, c9, rfl, ((PO.out.boxset OUT9.out 1 _).boxset V10.out 0 _).boxset (V10.out.put 0 (.int .i64 size)) 1 _, bset (bset (bset (btrans K0.out K9.out) (by have := K0.out.size; have := K5.out.size; simp; omega) _) (by simp <;> omega) _) (by simp <;> omega) _⟩
      · have hd : ((M1.length : Int) == size) = false := by simpa using hfull
        have FS := hide (show shed size M1 = M1 by unfold shed; rw [if_neg hfull])
        rw [FS.out]
        rw [show (M1 ++ [(s, y, W)]).length = M1.length + 1 by rw [List.length_append]; rfl]
        clear hfull
        go_enter Try.func22, Try.ntmps22
        go_wp2_with fail
        rw [← HW.out]
        refine (C.out _ (brefl _)).mono ?_
        rintro e w1 ⟨rfl, hb1⟩
        have K := hide hb1
        clear hb1
        go_wp2_with fail
        refine (T1.out _).mono ?_
        rintro e w2 ⟨rfl, hb2⟩
        replace K := hide (btrans K.out hb2)
        clear hb2
        go_wp2_with fail
        refine (T2.out _).mono ?_
        rintro e w3 ⟨rfl, hb3⟩
        replace K := hide (btrans K.out hb3)
        have x0 := (X0.out.below K.out).cell 0
        have x1 := (X0.out.below K.out).cell 1
        simp at x0 x1
        have ADD := hide (Box.new w3 47 #[.int .i64 s, .int .i64 y, .int .u64 W])
        have K3 := hide (bal K.out (.cells #[.int .i64 s, .int .i64 y, .int .u64 W] 47))
        have hlt3 := hide (Nat.lt_of_lt_of_le X0.out.lt K.out.size)
        have hlt3' := hlt3.out
        clear hb3
        go_wp2_with fail
        obtain ⟨w4, hw4⟩ : ∃ w4, w4 = w3.alloc (.cells #[.int .i64 s, .int .i64 y, .int .u64 W] 47) := ⟨_, rfl⟩
        rw [← hw4] at ADD K3 ⊢
        have HW4 := hide hw4
        clear hw4 x0 x1 hlt3'
        refine (WO.out _ _ K3.out ADD.out).mono ?_
        rintro e w5 ⟨A5, c5, rfl, hown5, hb5⟩
        have hownB := hide (hown5.mono K3.out.size)
        have ADDC := hide ((ADD.out.below hb5).more (.cells #[.int .i64 size, .slice A5 M1.length c5] 24))
        have K5 := hide (btrans K3.out hb5)
        have hlt7 := hide (Nat.lt_of_lt_of_le ADD.out.lt hb5.size)
        have hab := hide (show w3.heap.size ≠ w5.heap.size from fun e => by have := hlt7.out; omega)
        clear hb5 hown5
        have a0 := ADDC.out.cell 0
        have a1 := ADDC.out.cell 1
        have a2 := ADDC.out.cell 2
        simp at a0 a1 a2
        have hlt8 := hlt7.out
        have hlt5 := hide (show w.heap.size + 1 < w5.heap.size from Nat.lt_of_lt_of_le V0.out.lt K5.out.size)
        have NEW := hide (cell_three_new (w5.alloc (.cells #[.int .i64 size, .slice A5 M1.length c5] 24)) (.int .i64 s) (.int .i64 y) (.int .u64 W) 47)
        rw [show (w5.alloc (.cells #[.int .i64 size, .slice A5 M1.length c5] 24)).heap.size = w5.heap.size + 1 from alloc_size _ _] at NEW
        have O9 := hide (show ((w5.alloc (.cells #[.int .i64 size, .slice A5 M1.length c5] 24)).alloc (.cells #[.int .i64 s, .int .i64 y, .int .u64 W] 47)).ownsRow W0.heap.size 47 3 (.slice A5 M1.length c5) M1.length (tcs M1) from ((hownB.out.below (bal (brefl _) (.cells #[.int .i64 size, .slice A5 M1.length c5] 24))).below (bal (brefl _) (.cells #[.int .i64 s, .int .i64 y, .int .u64 W] 47))))
        have OUT8 := hide ((Box.new w5 24 #[.int .i64 size, .slice A5 M1.length c5]).more (.cells #[.int .i64 s, .int .i64 y, .int .u64 W] 47))
        have V8 := hide (((V0.out.below K5.out).more (.cells #[.int .i64 size, .slice A5 M1.length c5] 24)).more (.cells #[.int .i64 s, .int .i64 y, .int .u64 W] 47))
        have K8 := hide (bal (bal K5.out (.cells #[.int .i64 size, .slice A5 M1.length c5] 24)) (.cells #[.int .i64 s, .int .i64 y, .int .u64 W] 47))
        have hl1 := hlt5.out
        have hl2 := hab.out
        have hl3 := hab.out.symm
        go_wp2_with (at_builtin; refine wpList_append_own _ rfl (.tmp 45) (.tmp 47) 22 rfl W0.heap.size 47 i0 _ 3 24 Try.underlying22 hi0 hz0 hz1 hz2 rfl (by omega) (.slice A5 M1.length c5) M1.length (tcs M1) rfl O9.out ⟨w5.heap.size + 1, 0, none⟩ 1 1 [.int .i64 s, .int .i64 y, .int .u64 W] rfl rfl NEW.out (by intro u hu; simp at hu; rcases hu with rfl | rfl | rfl <;> rfl) (by simp only [maxLen]; omega) (by omega) K8.out.size ?_; intro v1 w9 hown9 hg9 _; obtain ⟨A9, c9, rfl⟩ := row_form hown9; have G9 := hide hg9; have P9 := hide hown9; have OUT9 := hide (OUT8.out.grown hg9 (OwnR.boxne (L := M1) O9.out OUT8.out)); have V9 := hide (V8.out.grown hg9 (OwnR.boxne (L := M1) O9.out V8.out)); have K9 := hide (K8.out.trans (row_below O9.out hg9 (Nat.le_refl _) K8.out.size)); clear hown9 hg9; have o0 := OUT9.out.cell 0; have o1 := OUT9.out.cell 1; have of1 := OUT9.out.frozen 1; have v0 := V9.out.cell 0; have v1 := V9.out.cell 1; have f0 := V9.out.frozen 0; have f1 := V9.out.frozen 1; simp at o0 o1 v0 v1)
        have hlt6 := hlt5.out
        have PO := hide (OwnR.mono (L := M1 ++ [(s, y, W)]) (A := A9) (c := c9) (by unfold OwnR; rw [tcs_append, show (M1 ++ [(s, y, W)]).length = M1.length + 1 by rw [List.length_append]; rfl]; exact P9.out) K0.out.size)
        have V10 := hide (V9.out.far (b := w5.heap.size) (i := 1) (by omega) (.slice A9 (M1.length + 1) c9))
        exact ret_tlb2 Try.results22 rfl rfl rfl ((V10.out.put 0 (.int .i64 size)).put 1 (.slice A9 (M1.length + 1) c9)) ⟨A9, c9, rfl, ((PO.out.boxset OUT9.out 1 _).boxset V10.out 0 _).boxset (V10.out.put 0 (.int .i64 size)) 1 _, bset (bset (bset (btrans K0.out K9.out) (by have := K0.out.size; have := K5.out.size; simp; omega) _) (by simp <;> omega) _) (by simp <;> omega) _⟩
  · rw [fillE_place hk, resS_er hk, resM_er hk]
    have hd : (placeE size L s p != 0) = true := by simpa using hk
    generalize placeE size L s p = er at *
    clear hk hW0 h hW
    go_enter Try.func22, Try.ntmps22
    go_wp2_with fail
    rw [← HW.out]
    refine (C.out _ (brefl _)).mono ?_
    rintro e w1 ⟨rfl, hb1⟩
    have K := hide hb1
    have V2 := hide (V0.out.below K.out)
    have v0 := V2.out.cell 0
    have v1 := V2.out.cell 1
    have f0 := V2.out.frozen 0
    have f1 := V2.out.frozen 1
    simp at v0 v1
    clear hb1
    go_wp2
    exact ret_tlb2 Try.results22 rfl rfl rfl ((V2.out.put 0 (.int .i64 0)).put 1 (.slice none 0 0)) ⟨none, 0, rfl, own_nil _ _, bset (bset (btrans K0.out K.out) (by simp <;> omega) _) (by simp <;> omega) _⟩
end Go.Proofs.Ythoeolaleeogbaa.Tb
