import Derived.Test.YtimclgmajhhheaaG5
namespace Go.Proofs.Ytimclgmajhhheaa.Gr
open Go Go.RowKit Ac
set_option linter.unusedVariables false
set_option linter.unusedSimpArgs false
theorem own_row0q (w : World) : (w.alloc (.cells #[] 27)).ownsRow w.heap.size 27 4 (.slice (some ⟨w.heap.size, 0, none⟩) 0 0) 0 [] :=
  World.ownsRow_made w #[] 0 (Nat.le_refl _) (Nat.zero_le _) (by simp)
theorem QB.news {w : World} {g : Nat} {a : A4} (h : QB w g a) : ∀ j u, (qC a)[j]? = some u → w.cell? ((⟨g, 0, none⟩ : Addr).add j) = some u := by
  intro j u hu
  have hj : j < 4 := by
    rcases Nat.lt_or_ge j 4 with h | h
    · exact h
    · rw [List.getElem?_eq_none (by rw [qC_len]; exact h)] at hu; cases hu
  rw [add_at', Nat.zero_add, Box.cell h j, ← hu]
  rcases (show j = 0 ∨ j = 1 ∨ j = 2 ∨ j = 3 by omega) with rfl | rfl | rfl | rfl <;> rfl
theorem QB.belowB {w w' : World} {g B : Nat} {r : A4} (h : QB w g r) (hb : Below B w w') (hg : g < B) : QB w' g r := (hb.block g hg).trans h
def QR (Q : List A4) (B : Nat) (w : World) (e : Ending) (w' : World) : Prop := ∃ A c, e = .returned (.slice A Q.length c) ∧ OwQ B w' (.slice A Q.length c) Q ∧ Below B w w'
set_option maxRecDepth 100000 in
set_option maxHeartbeats 8000000 in
theorem qclone_any (A : Option Addr) (cp : Nat) (Q : List A4) (w : World) (hr : Qs w A Q) (hn : Q.length ≤ 1000) : Calls Try.prog 65 #[.slice A Q.length cp] w (QR Q w.heap.size w) := by
  obtain ⟨i0, hi0, hz0, hz1, hz2⟩ := info_parts info27
  have HR := hide (hr.below (bal (brefl _) (.cells #[] 27)))
  have K := hide (brefl w)
  unfold QR
  have q22 : ∀ (w : World) (a : Option Addr) (n c n' c' : Nat), (binOp .eql 22 (.slice a n c) (.slice none n' c')).run Try.prog w = .ok (.bool a.isNone) w := fun w a n c n' c' => Lib.run_eql_slice_nil w _ _ a n c n' c' Try.underlying22
  match A, hr, HR with
  | none, hr, HR =>
    obtain rfl : Q = [] := by
      rcases Q with _ | ⟨a, l⟩
      · rfl
      · obtain ⟨b, off, e, _⟩ := hr (by simp)
        cases e
    clear hr HR
    go_enter Try.func65, Try.ntmps65
    go_wp2
    go_ret
    exact ⟨none, 0, rfl, owq_nil _ _, K.out⟩
  | some ad, hr, HR =>
    clear hr
    go_enter Try.func65, Try.ntmps65
    go_wp2_with (at_builtin; refine wpList_append_own _ rfl (.tmp 5) (.tmp 6) _ rfl w.heap.size 27 i0 _ 4 32 Try.underlying22 hi0 hz0 hz1 hz2 rfl (by omega) (.slice (some ⟨w.heap.size, 0, none⟩) 0 0) 0 [] rfl (own_row0q w) ad Q.length cp (qcs Q) rfl (qcs_length Q) (fun j u hu => Qs.news HR.out j u hu) (qcs_one _) (by simp only [maxLen]; omega) (by omega) (by simp) ?_; intro v1 w1 hown1 hg1 hat1; obtain ⟨A1, n1, rfl, _⟩ := row_form hown1; have HB := hide (show Below w.heap.size w w1 from (bal (brefl w) _).trans (below_grown (B := 0) (own_row0q w) hg1 (by simp))); have HM := hide hown1; clear hown1 hg1 hat1)
    go_wp2
    go_ret
    rw [Nat.zero_add, List.nil_append] at HM
    exact ⟨A1, n1, rfl, HM.out, HB.out⟩
/-- what Push and Cancel answer -/
def PuR (Q : List A4) (er : Int) (w : World) (e : Ending) (w' : World) : Prop := ∃ A c, e = .returned (.tuple #[.slice A Q.length c, .int .i64 er]) ∧ OwQ w.heap.size w' (.slice A Q.length c) Q ∧ Below w.heap.size w w'
theorem ps_bad {Q : List A4} {a : A4} {e : Int} (h : psE Q a = e) (h0 : e ≠ 0) : psL Q a = [] := if_neg (by omega)
theorem ps_ck {Q : List A4} {a : A4} (h : ckQ Q ≠ 0) : psE Q a = ckQ Q := if_neg h
theorem ne_bool {z : Int} (h : z ≠ 0) : (z != 0) = true := bne_iff_ne.2 h
set_option maxRecDepth 100000 in
set_option maxHeartbeats 8000000 in
theorem push_any (A : Option Addr) (cp : Nat) (Q : List A4) (pc ac ke us : Int) (w : World) (hr : Qs w A Q) (hn : Q.length ≤ 100) : Calls Try.prog 21 #[.slice A Q.length cp, .agg #[.int .i64 pc, .int .i64 ac, .int .i64 ke, .int .i64 us]] w (PuR (psL Q ⟨pc, ac, ke, us⟩) (psE Q ⟨pc, ac, ke, us⟩) w) := by
  unfold PuR
  have K := hide (bal (brefl w) (.cells #[.int .i64 pc, .int .i64 ac, .int .i64 ke, .int .i64 us] 27))
  have X := hide (QB.new w pc ac ke us)
  have HR := hide (fun w' (h : Below w.heap.size w w') => hr.below h)
  have CK := hide (fun w' (h : Below w.heap.size w w') => qcheck_any A cp Q w' (hr.below h) (by omega))
  have CL := hide (fun w' (h : Below w.heap.size w w') => qclone_any A cp Q w' (hr.below h) (by omega))
  unfold QR at CL
  by_cases hc : ckQ Q = 0
  rotate_left 1
  · have E := ps_ck (a := ⟨pc, ac, ke, us⟩) hc
    rw [E, ps_bad E hc]
    clear E
    have hc2 := ne_bool hc
    generalize ckQ Q = ca at *
    clear hc hr
    go_enter Try.func21, Try.ntmps21
    go_wp2_with fail
    refine (CK.out _ K.out).mono ?_
    rintro e w2 ⟨rfl, hb⟩
    replace K := hide (btrans K.out hb)
    clear hb
    go_wp2
    go_ret2
    exact ⟨none, 0, rfl, owq_nil _ _, K.out⟩
  have E := hide (ck_snoc (a := ⟨pc, ac, ke, us⟩) hc)
  rw [hc] at CK
  obtain ⟨pe, hpe⟩ : ∃ p, p = psE Q ⟨pc, ac, ke, us⟩ := ⟨_, rfl⟩
  have PL := hide (show psL Q ⟨pc, ac, ke, us⟩ = if pe = 0 then Q ++ [(⟨pc, ac, ke, us⟩ : A4)] else [] by rw [hpe]; rfl)
  rw [← hpe] at E ⊢
  clear hc hpe
  have CK2 := hide (fun (B : Option Addr) (c : Nat) w' (h : Qs w' B (Q ++ [(⟨pc, ac, ke, us⟩ : A4)])) => qcheck_any B c (Q ++ [(⟨pc, ac, ke, us⟩ : A4)]) w' h (by simp; omega))
  rw [E.out] at CK2
  have hlen : (Q ++ [(⟨pc, ac, ke, us⟩ : A4)]).length = Q.length + 1 := by simp
  rw [hlen] at CK2
  have HL := hide hlen
  clear hlen hr
  obtain ⟨W0, hW0⟩ : ∃ W0, W0 = w.alloc (.cells #[.int .i64 pc, .int .i64 ac, .int .i64 ke, .int .i64 us] 27) := ⟨_, rfl⟩
  obtain ⟨g3, hg3⟩ : ∃ q, q = w.heap.size := ⟨_, rfl⟩
  rw [← hW0] at X K
  rw [← hg3] at X
  have HGE := hide (show w.heap.size ≤ g3 by omega)
  have HW := hide hW0
  have HG := hide hg3
  clear hW0 hg3
  go_enter Try.func21, Try.ntmps21
  go_upto_region 1 with fail
  rw [← HW.out, ← HG.out]
  go_wp2_with fail
  refine (CK.out _ K.out).mono ?_
  rintro e w2 ⟨rfl, hb⟩
  replace K := hide (btrans K.out hb)
  replace X := hide (X.out.below hb)
  clear hb
  go_upto_region 4 with fail
  replace K := hide (show Below w.heap.size w w2.drew from btrans K.out (below_drewN (brefl _) 1))
  replace X := hide (X.out.below (show Below w2.heap.size w2 w2.drew from below_drewN (brefl _) 1))
  refine wp_region_noPanic ?_
  refine wp_region_held_drew (S := (fun W => W.cell? ⟨g3, 0, none⟩ = some (.int .i64 pc) ∧ W.cell? ⟨g3, 1, none⟩ = some (.int .i64 ac) ∧ W.cell? ⟨g3, 2, none⟩ = some (.int .i64 ke) ∧ W.cell? ⟨g3, 3, none⟩ = some (.int .i64 us))) (by kernel_rfl) ?_ (fun hHeld => ?_)
  · exact QB.cells X.out
  generalize w2.drew = w3 at *
  refine wpAnyH_take (i := 0) (oi := ⟨some 14, _, _, _, _, _⟩) (v := ?_) rfl (by kernel_rfl) (by kernel_rfl) (by kernel_rfl) (fun _ _ _ h => h) (Or.inl ⟨by kernel_rfl, ?_⟩) (by assumption) ?_
  rotate_left 1
  · (intro w hSw; (try dsimp only at hSw); go_simp) <;> (with_reducible rfl)
  (try simp only [Act.put, List.setIfInBounds_toArray, List.set_cons_succ, List.set_cons_zero])
  refine wpAnyH_take (i := 2) (oi := ⟨some 16, _, _, _, _, _⟩) (v := ?_) rfl (by kernel_rfl) (by kernel_rfl) (by kernel_rfl) (fun _ _ _ h => h) (Or.inl ⟨by kernel_rfl, ?_⟩) (by assumption) ?_
  rotate_left 1
  · (intro w hSw; (try dsimp only at hSw); go_simp) <;> (with_reducible rfl)
  (try simp only [Act.put, List.setIfInBounds_toArray, List.set_cons_succ, List.set_cons_zero])
  refine wpAnyH_ready (rs := [1, 3]) (by kernel_rfl) (by simp) ?_
  refine AllReadyH.cons (o := ⟨some 15, _, _, _, _, _⟩) rfl (fun K' hK => ?_) ?_
  · go_simp
    refine (CL.out _ K.out).mono ?_
    rintro e wc ⟨A1, c1, rfl, ho, hb⟩
    have OQ := hide (row_mono ho (show g3 + 1 ≤ _ from X.out.lt))
    replace K := hide (btrans K.out hb)
    replace X := hide (X.out.below hb)
    clear hb ho
    refine hK.out _ _ ?_ (fun hHeld => ?_)
    · exact QB.cells X.out
    clear hK K'
    (try simp only [Act.put, List.setIfInBounds_toArray, List.set_cons_succ, List.set_cons_zero])
    refine wpAnyH_ready (rs := [3]) (by kernel_rfl) (by simp) ?_
    refine AllReadyH.cons (o := ⟨some 17, _, _, _, _, _⟩) rfl (fun K' hK => ?_) AllReadyH.nil
    go_simp
    have NB := hide (QB.new wc pc ac ke us)
    have M := bal (brefl wc) (.cells #[.int .i64 pc, .int .i64 ac, .int .i64 ke, .int .i64 us] 27)
    replace K := hide (btrans K.out M)
    replace X := hide (X.out.below M)
    replace OQ := hide (row_below OQ.out M)
    obtain ⟨bx, hbx⟩ : ∃ q, q = wc.heap.size := ⟨_, rfl⟩
    rw [← hbx] at NB ⊢
    clear M hbx
    generalize wc.alloc (.cells #[.int .i64 pc, .int .i64 ac, .int .i64 ke, .int .i64 us] 27) = wb at *
    refine hK.out _ _ ?_ (fun hHeld => ?_)
    · exact QB.cells X.out
    clear hK K'
    (try simp only [Act.put, List.setIfInBounds_toArray, List.set_cons_succ, List.set_cons_zero])
    refine wpAnyH_ready (rs := [4]) (by kernel_rfl) (by simp) ?_
    refine AllReadyH.cons (o := ⟨some 18, _, _, _, _, _⟩) rfl (fun K' hK => ?_) AllReadyH.nil
    have NW := hide (QB.news NB.out)
    unfold qC at NW
    dsimp only at NW
    obtain ⟨i0, hi0, hz0, hz1, hz2⟩ := info_parts info27
    refine wp_append_own _ (.tmp 15) (.tmp 17) 22 rfl (g3 + 1) 27 i0 _ 4 32 Try.underlying22 hi0 hz0 hz1 hz2 rfl (by omega) (.slice A1 Q.length c1) Q.length (qcs Q) rfl OQ.out ⟨bx, 0, none⟩ 1 1 [.int .i64 pc, .int .i64 ac, .int .i64 ke, .int .i64 us] rfl rfl NW.out (by intro u hu; simp only [List.mem_cons, List.not_mem_nil, or_false] at hu; rcases hu with rfl | rfl | rfl | rfl <;> rfl) (by simp only [maxLen]; omega) (by omega) (show g3 + 1 ≤ _ from X.out.lt) ?_
    intro v4 wp hown4 hg4 _
    obtain ⟨A4', c4, rfl, _⟩ := row_form hown4
    have BG := below_grown (B := 0) OQ.out hg4 (show g3 + 1 ≤ _ from X.out.lt)
    have HO := hide (show OwQ (g3 + 1) wp (.slice A4' (Q.length + 1) c4) (Q ++ [(⟨pc, ac, ke, us⟩ : A4)]) by unfold OwQ; rw [HL.out, qcs_append]; exact hown4)
    replace K := hide (K.out.trans (BG.mono (Nat.le_trans HGE.out (Nat.le_succ _))))
    replace X := hide (X.out.belowB BG (Nat.lt_succ_self _))
    clear BG hown4 hg4 NW hz0 hz1 hz2 hi0
    refine hK.out _ _ ?_ (fun hHeld => ?_)
    · exact QB.cells X.out
    clear hK K'
    (try simp only [Act.put, List.setIfInBounds_toArray, List.set_cons_succ, List.set_cons_zero])
    refine wpAnyH_take (i := 5) (oi := ⟨some 7, _, _, _, _, _⟩) (v := ?_) rfl (by kernel_rfl) (by kernel_rfl) (by kernel_rfl) (fun _ _ _ h => h) (Or.inl ⟨by kernel_rfl, ?_⟩) (by assumption) ?_
    rotate_left 1
    · (intro w hSw; (try dsimp only at hSw); go_simp) <;> (with_reducible rfl)
    (try simp only [Act.put, List.setIfInBounds_toArray, List.set_cons_succ, List.set_cons_zero])
    refine wpAnyH_done (by kernel_rfl) ?_ _
    refine NoPanic.normal ?_
    have QQ := hide (show Qs wp A4' (Q ++ [(⟨pc, ac, ke, us⟩ : A4)]) from OwQ.rs (by rw [HL.out]; exact HO.out))
    by_cases h0 : pe = 0
    · subst h0
      have EL := hide (PL.out.trans (if_pos rfl))
      clear PL
      go_wp2_with fail
      refine (CK2.out _ _ _ QQ.out).mono ?_
      rintro e w9 ⟨rfl, hb⟩
      replace HO := hide (row_below HO.out hb)
      replace K := hide (btrans K.out hb)
      clear hb
      go_wp2
      go_ret2
      refine ⟨A4', c4, ?_, ?_, K.out⟩
      · rw [EL.out, HL.out]; rfl
      · rw [EL.out]
        rw [← HL.out] at HO
        exact row_mono HO.out (Nat.le_trans HGE.out (Nat.le_succ _))
    · have h2 := ne_bool h0
      have EL := hide (PL.out.trans (if_neg h0))
      clear h0 PL
      go_wp2_with fail
      refine (CK2.out _ _ _ QQ.out).mono ?_
      rintro e w9 ⟨rfl, hb⟩
      replace K := hide (btrans K.out hb)
      clear hb
      go_wp2
      go_ret2
      refine ⟨none, 0, ?_, ?_, K.out⟩
      · rw [EL.out]; rfl
      · rw [EL.out]; exact owq_nil _ _
  refine AllReadyH.cons (o := ⟨some 17, _, _, _, _, _⟩) rfl (fun K' hK => ?_) AllReadyH.nil
  go_simp
  have NB := hide (QB.new w3 pc ac ke us)
  have M := bal (brefl w3) (.cells #[.int .i64 pc, .int .i64 ac, .int .i64 ke, .int .i64 us] 27)
  replace K := hide (btrans K.out M)
  replace X := hide (X.out.below M)
  obtain ⟨bx, hbx⟩ : ∃ q, q = w3.heap.size := ⟨_, rfl⟩
  rw [← hbx] at NB ⊢
  clear M hbx
  generalize w3.alloc (.cells #[.int .i64 pc, .int .i64 ac, .int .i64 ke, .int .i64 us] 27) = wb at *
  refine hK.out _ _ ?_ (fun hHeld => ?_)
  · exact QB.cells X.out
  clear hK K'
  (try simp only [Act.put, List.setIfInBounds_toArray, List.set_cons_succ, List.set_cons_zero])
  refine wpAnyH_ready (rs := [1]) (by kernel_rfl) (by simp) ?_
  refine AllReadyH.cons (o := ⟨some 15, _, _, _, _, _⟩) rfl (fun K' hK => ?_) AllReadyH.nil
  go_simp
  refine (CL.out _ K.out).mono ?_
  rintro e wc ⟨A1, c1, rfl, ho, hb⟩
  have OQ := hide (row_mono ho (show g3 + 1 ≤ _ from X.out.lt))
  replace K := hide (btrans K.out hb)
  replace X := hide (X.out.below hb)
  replace NB := hide (NB.out.below hb)
  clear hb ho
  refine hK.out _ _ ?_ (fun hHeld => ?_)
  · exact QB.cells X.out
  clear hK K'
  (try simp only [Act.put, List.setIfInBounds_toArray, List.set_cons_succ, List.set_cons_zero])
  refine wpAnyH_ready (rs := [4]) (by kernel_rfl) (by simp) ?_
  refine AllReadyH.cons (o := ⟨some 18, _, _, _, _, _⟩) rfl (fun K' hK => ?_) AllReadyH.nil
  have NW := hide (QB.news NB.out)
  unfold qC at NW
  dsimp only at NW
  obtain ⟨i0, hi0, hz0, hz1, hz2⟩ := info_parts info27
  refine wp_append_own _ (.tmp 15) (.tmp 17) 22 rfl (g3 + 1) 27 i0 _ 4 32 Try.underlying22 hi0 hz0 hz1 hz2 rfl (by omega) (.slice A1 Q.length c1) Q.length (qcs Q) rfl OQ.out ⟨bx, 0, none⟩ 1 1 [.int .i64 pc, .int .i64 ac, .int .i64 ke, .int .i64 us] rfl rfl NW.out (by intro u hu; simp only [List.mem_cons, List.not_mem_nil, or_false] at hu; rcases hu with rfl | rfl | rfl | rfl <;> rfl) (by simp only [maxLen]; omega) (by omega) (show g3 + 1 ≤ _ from X.out.lt) ?_
  intro v4 wp hown4 hg4 _
  obtain ⟨A4', c4, rfl, _⟩ := row_form hown4
  have BG := below_grown (B := 0) OQ.out hg4 (show g3 + 1 ≤ _ from X.out.lt)
  have HO := hide (show OwQ (g3 + 1) wp (.slice A4' (Q.length + 1) c4) (Q ++ [(⟨pc, ac, ke, us⟩ : A4)]) by unfold OwQ; rw [HL.out, qcs_append]; exact hown4)
  replace K := hide (K.out.trans (BG.mono (Nat.le_trans HGE.out (Nat.le_succ _))))
  replace X := hide (X.out.belowB BG (Nat.lt_succ_self _))
  clear BG hown4 hg4 NW hz0 hz1 hz2 hi0
  refine hK.out _ _ ?_ (fun hHeld => ?_)
  · exact QB.cells X.out
  clear hK K'
  (try simp only [Act.put, List.setIfInBounds_toArray, List.set_cons_succ, List.set_cons_zero])
  refine wpAnyH_take (i := 5) (oi := ⟨some 7, _, _, _, _, _⟩) (v := ?_) rfl (by kernel_rfl) (by kernel_rfl) (by kernel_rfl) (fun _ _ _ h => h) (Or.inl ⟨by kernel_rfl, ?_⟩) (by assumption) ?_
  rotate_left 1
  · (intro w hSw; (try dsimp only at hSw); go_simp) <;> (with_reducible rfl)
  (try simp only [Act.put, List.setIfInBounds_toArray, List.set_cons_succ, List.set_cons_zero])
  refine wpAnyH_done (by kernel_rfl) ?_ _
  refine NoPanic.normal ?_
  have QQ := hide (show Qs wp A4' (Q ++ [(⟨pc, ac, ke, us⟩ : A4)]) from OwQ.rs (by rw [HL.out]; exact HO.out))
  by_cases h0 : pe = 0
  · subst h0
    have EL := hide (PL.out.trans (if_pos rfl))
    clear PL
    go_wp2_with fail
    refine (CK2.out _ _ _ QQ.out).mono ?_
    rintro e w9 ⟨rfl, hb⟩
    replace HO := hide (row_below HO.out hb)
    replace K := hide (btrans K.out hb)
    clear hb
    go_wp2
    go_ret2
    refine ⟨A4', c4, ?_, ?_, K.out⟩
    · rw [EL.out, HL.out]; rfl
    · rw [EL.out]
      rw [← HL.out] at HO
      exact row_mono HO.out (Nat.le_trans HGE.out (Nat.le_succ _))
  · have h2 := ne_bool h0
    have EL := hide (PL.out.trans (if_neg h0))
    clear h0 PL
    go_wp2_with fail
    refine (CK2.out _ _ _ QQ.out).mono ?_
    rintro e w9 ⟨rfl, hb⟩
    replace K := hide (btrans K.out hb)
    clear hb
    go_wp2
    go_ret2
    refine ⟨none, 0, ?_, ?_, K.out⟩
    · rw [EL.out]; rfl
    · rw [EL.out]; exact owq_nil _ _
theorem take_snocq (Q : List A4) {k : Nat} (h : k < Q.length) : Q.take (k + 1) = Q.take k ++ [qAt Q k] := by
  rw [List.take_succ_eq_append_getElem h, qAt_get h]
theorem atp_free {Q : List A4} {p i : Int} (h : (i = -1 ∧ freeP Q Q.length p) ∨ (∃ j : Nat, j < Q.length ∧ i = j ∧ (qAt Q j).pc = p ∧ freeP Q j p)) : (0 ≤ i) ↔ ¬ freeP Q Q.length p := by
  rcases h with ⟨h1, h2⟩ | ⟨j, hj, h1, h2, _⟩
  · exact ⟨fun g => by omega, fun g => absurd h2 g⟩
  · exact ⟨fun g f => f j hj h2, fun _ => by omega⟩
set_option maxRecDepth 100000 in
set_option maxHeartbeats 8000000 in
theorem rpush_any (A : Option Addr) (cp : Nat) (Q : List A4) (pc ac ke us : Int) (w : World) (hr : Qs w A Q) (hn : Q.length ≤ 100) : Calls Try.prog 22 #[.slice A Q.length cp, .agg #[.int .i64 pc, .int .i64 ac, .int .i64 ke, .int .i64 us]] w (PuR (psL Q ⟨pc, ac, ke, us⟩) (psE Q ⟨pc, ac, ke, us⟩) w) := by
  unfold PuR
  have K := hide (bal (brefl w) (.cells #[.int .i64 pc, .int .i64 ac, .int .i64 ke, .int .i64 us] 27))
  have X := hide (QB.new w pc ac ke us)
  have HR := hide (fun w' (h : Below w.heap.size w w') => hr.below h)
  have CK := hide (fun w' (h : Below w.heap.size w w') => rqcheck_any A cp Q w' (hr.below h) (by omega))
  have VA := hide (fun w => rval_any pc ac ke us w)
  have AT := hide (fun w' (h : Below w.heap.size w w') => at_any A cp Q pc w' (hr.below h) (by omega))
  by_cases hc : ckQ Q = 0
  rotate_left 1
  · have E := ps_ck (a := ⟨pc, ac, ke, us⟩) hc
    rw [E, ps_bad E hc]
    clear E
    have hc2 := ne_bool hc
    generalize ckQ Q = ca at *
    clear hc hr
    go_enter Try.func22, Try.ntmps22
    go_wp2_with fail
    refine (CK.out _ K.out).mono ?_
    rintro e w2 ⟨rfl, hb⟩
    replace K := hide (btrans K.out hb)
    clear hb
    go_wp2
    go_ret2
    exact ⟨none, 0, rfl, owq_nil _ _, K.out⟩
  rw [hc] at CK
  by_cases ho : okQ ⟨pc, ac, ke, us⟩
  rotate_left 1
  · have E : psE Q ⟨pc, ac, ke, us⟩ = 2 := by unfold psE; rw [if_pos hc, if_neg ho]
    rw [E, ps_bad E (by omega)]
    rw [decide_eq_false ho] at VA
    clear E hc ho hr
    obtain ⟨x0, x1, x2, x3⟩ := QB.cells X.out
    go_enter Try.func22, Try.ntmps22
    go_wp2_with fail
    refine (CK.out _ K.out).mono ?_
    rintro e w2 ⟨rfl, hb⟩
    replace K := hide (btrans K.out hb)
    replace X := hide (X.out.below hb)
    clear hb
    try clear x0 x1 x2 x3
    obtain ⟨x0, x1, x2, x3⟩ := QB.cells X.out
    go_wp2_with fail
    refine (VA.out _).mono ?_
    rintro e w2 ⟨rfl, hb⟩
    replace K := hide (btrans K.out hb)
    clear hb
    go_wp2
    go_ret2
    exact ⟨none, 0, rfl, owq_nil _ _, K.out⟩
  rw [decide_eq_true ho] at VA
  by_cases hf : freeP Q Q.length pc
  rotate_left 1
  · have E : psE Q ⟨pc, ac, ke, us⟩ = 7 := by unfold psE; rw [if_pos hc, if_pos ho, if_neg hf]
    rw [E, ps_bad E (by omega)]
    have HF := hide hf
    clear E hc ho hr hf
    go_enter Try.func22, Try.ntmps22
    go_wp2_with fail
    refine (CK.out _ K.out).mono ?_
    rintro e w2 ⟨rfl, hb⟩
    replace K := hide (btrans K.out hb)
    replace X := hide (X.out.below hb)
    clear hb
    try clear x0 x1 x2 x3
    obtain ⟨x0, x1, x2, x3⟩ := QB.cells X.out
    go_wp2_with fail
    refine (VA.out _).mono ?_
    rintro e w3 ⟨rfl, hb⟩
    replace K := hide (btrans K.out hb)
    replace X := hide (X.out.below hb)
    clear hb
    try clear x0 x1 x2 x3
    obtain ⟨x0, x1, x2, x3⟩ := QB.cells X.out
    go_wp2_with fail
    refine (AT.out _ K.out).mono ?_
    rintro e w4 ⟨i, rfl, hi, rfl⟩
    have h0 : 0 ≤ i := (atp_free hi).2 HF.out
    clear hi
    go_wp2
    go_ret2
    exact ⟨none, 0, rfl, owq_nil _ _, K.out⟩
  have E : psE Q ⟨pc, ac, ke, us⟩ = 0 := by unfold psE; rw [if_pos hc, if_pos ho, if_pos hf]
  have EL : psL Q ⟨pc, ac, ke, us⟩ = Q ++ [(⟨pc, ac, ke, us⟩ : A4)] := if_pos E
  rw [E, EL]
  have HF := hide hf
  have hlen : (Q ++ [(⟨pc, ac, ke, us⟩ : A4)]).length = Q.length + 1 := by simp
  rw [hlen]
  have HL := hide hlen
  obtain ⟨i0, hi0, hz0, hz1, hz2⟩ := info_parts info27
  clear E EL hc ho hr hf hlen
  go_enter Try.func22, Try.ntmps22
  go_wp2_with fail
  refine (CK.out _ K.out).mono ?_
  rintro e w2 ⟨rfl, hb⟩
  replace K := hide (btrans K.out hb)
  replace X := hide (X.out.below hb)
  clear hb
  try clear x0 x1 x2 x3
  obtain ⟨x0, x1, x2, x3⟩ := QB.cells X.out
  go_wp2_with fail
  refine (VA.out _).mono ?_
  rintro e w3 ⟨rfl, hb⟩
  replace K := hide (btrans K.out hb)
  replace X := hide (X.out.below hb)
  clear hb
  try clear x0 x1 x2 x3
  obtain ⟨x0, x1, x2, x3⟩ := QB.cells X.out
  go_wp2_with fail
  refine (AT.out _ K.out).mono ?_
  rintro e w4 ⟨i, rfl, hi, rfl⟩
  have h0 : ¬ 0 ≤ i := fun g => (atp_free hi).1 g HF.out
  have h1 : i < 0 := by omega
  clear hi x0 x1 x2 x3
  go_wp2
  go_loopw [7, 8] (fun v i wr => ∃ k : Nat, k ≤ Q.length ∧ i = .int .i64 k ∧ Hid (OwQ (w.heap.size + 1) wr v (Q.take k)) ∧ Hid (QB wr w.heap.size ⟨pc, ac, ke, us⟩) ∧ Hid (Below w.heap.size w wr)) (fun _ i _ => Q.length - (intOf i).toNat)
  case atStart => exact ⟨0, by omega, rfl, hide (by rw [List.take_zero]; exact owq_nil _ _), X, K⟩
  case round =>
    clear X K
    obtain ⟨k, hk, rfl, O, X, K⟩ := hrel
    obtain ⟨A1, cap1, ev, hcp1⟩ := row_form O.out
    subst ev
    clear hcp1
    by_cases hlt : k < Q.length
    · have hl2 : (k : Int) < (Q.length : Int) := by omega
      have hk0 : (0 : Int) ≤ (k : Int) := by omega
      obtain ⟨b, off, rfl, hbl, y0, y1, y2, y3⟩ := (HR.out _ K.out).cells (brefl _) hlt
      have EH := hide (take_snocq Q hlt)
      have hlk : (Q.take k).length = k := by rw [List.length_take]; omega
      have HLK1 := hide (show (Q.take (k + 1)).length = k + 1 by rw [List.length_take]; omega)
      unfold OwQ at O
      rw [hlk] at O ⊢
      clear hlk
      generalize qAt Q k = a at *
      obtain ⟨p', a', k', u'⟩ := a
      dsimp only at y0 y1 y2 y3
      have M := bal (brefl wr) (.cells #[.int .i64 p', .int .i64 a', .int .i64 k', .int .i64 u'] 27)
      have OA := hide (row_below O.out M)
      have NB := hide (QB.news (QB.new wr p' a' k' u'))
      unfold qC at NB
      dsimp only at NB
      have SB := hide (show w.heap.size + 1 ≤ (wr.alloc (.cells #[.int .i64 p', .int .i64 a', .int .i64 k', .int .i64 u'] 27)).heap.size from Nat.le_trans X.out.lt M.size)
      have KA := hide (btrans K.out M)
      replace X := hide (X.out.below M)
      clear M K
      go_upto_region 11 with (at_builtin; refine wpList_append_own_at _ rfl (.tmp 28) (.tmp 33) 22 rfl (w.heap.size + 1) 27 i0 _ 4 32 Try.underlying22 hi0 hz0 hz1 hz2 rfl (by omega) (.slice A1 k cap1) (k) (qcs (Q.take k)) rfl OA.out ⟨wr.heap.size, 0, none⟩ 1 1 [.int .i64 p', .int .i64 a', .int .i64 k', .int .i64 u'] rfl rfl NB.out (by intro u hu; simp only [List.mem_cons, List.not_mem_nil, or_false] at hu; rcases hu with rfl | rfl | rfl | rfl <;> rfl) (by simp only [maxLen]; omega) (by omega) SB.out ?_; intro v4 w7 hown4 hg4 _ hat4; obtain ⟨Aw7, cw7, ev4, _⟩ := row_form hown4; subst ev4; have HG4 := hide hg4; have HO4 := hide hown4; clear hown4 hg4 hat4)
      have BG := below_grown (B := 0) OA.out HG4.out SB.out
      have K := hide (KA.out.trans (BG.mono (Nat.le_succ _)))
      replace X := hide (X.out.belowB BG (Nat.lt_succ_self _))
      clear BG HG4 OA NB SB KA
      have O := hide (show OwQ (w.heap.size + 1) w7 (.slice Aw7 (k + 1) cw7) (Q.take (k + 1)) by
        unfold OwQ
        rw [HLK1.out, EH.out, qcs_append]
        exact HO4.out)
      clear HO4 y0 y1 y2 y3 EH
      go_wp2
      go_roundw
      case rel => exact ⟨k + 1, by omega, by go_num, O, X, K⟩
      case measure => simp [intOf]; omega
    · obtain rfl : k = Q.length := by omega
      rw [List.take_length] at O ⊢
      obtain ⟨x0, x1, x2, x3⟩ := QB.cells X.out
      have M := bal (brefl wr) (.cells #[.int .i64 pc, .int .i64 ac, .int .i64 ke, .int .i64 us] 27)
      have OA := hide (row_below O.out M)
      have NB := hide (QB.news (QB.new wr pc ac ke us))
      unfold qC at NB
      dsimp only at NB
      have SB := hide (show w.heap.size + 1 ≤ (wr.alloc (.cells #[.int .i64 pc, .int .i64 ac, .int .i64 ke, .int .i64 us] 27)).heap.size from Nat.le_trans X.out.lt M.size)
      have KA := hide (btrans K.out M)
      replace X := hide (X.out.below M)
      clear M K
      go_wp2_with (at_builtin; refine wpList_append_own_at _ rfl (.tmp 35) (.tmp 37) 22 rfl (w.heap.size + 1) 27 i0 _ 4 32 Try.underlying22 hi0 hz0 hz1 hz2 rfl (by omega) (.slice A1 Q.length cap1) (Q.length) (qcs Q) rfl OA.out ⟨wr.heap.size, 0, none⟩ 1 1 [.int .i64 pc, .int .i64 ac, .int .i64 ke, .int .i64 us] rfl rfl NB.out (by intro u hu; simp only [List.mem_cons, List.not_mem_nil, or_false] at hu; rcases hu with rfl | rfl | rfl | rfl <;> rfl) (by simp only [maxLen]; omega) (by omega) SB.out ?_; intro v4 w8 hown4 hg4 _ hat4; obtain ⟨Aw8, cw8, ev4, _⟩ := row_form hown4; subst ev4; have HG4 := hide hg4; have HO4 := hide hown4; clear hown4 hg4 hat4)
      have BG := below_grown (B := 0) OA.out HG4.out SB.out
      have K := hide (KA.out.trans (BG.mono (Nat.le_succ _)))
      replace X := hide (X.out.belowB BG (Nat.lt_succ_self _))
      clear BG HG4 OA NB SB KA
      have HO := hide (show OwQ (w.heap.size + 1) w8 (.slice Aw8 (Q.length + 1) cw8) (Q ++ [(⟨pc, ac, ke, us⟩ : A4)]) by unfold OwQ; rw [HL.out, qcs_append]; exact HO4.out)
      clear HO4
      go_wp2
      go_ret2
      exact ⟨Aw8, cw8, rfl, row_mono HO.out (Nat.le_succ _), K.out⟩
end Go.Proofs.Ytimclgmajhhheaa.Gr
