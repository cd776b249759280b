import Derived.Test.YtncjicggolmofaaS2
namespace Go.Proofs.Ytncjicggolmofaa.Sb
open Go Go.RowKit
set_option linter.unusedVariables false
set_option linter.unusedSimpArgs false
theorem row_grow {base n size : Nat} {t t2 : TypeId} {v : Value} {xs : List Value} {w w' : World} {g : Nat} {cs : Array Value} (h : w.ownsRow base t size v n xs) (hx : Box w g t2 cs) (hne : t ≠ t2) (hg : w.grownBy w' (some g)) : w'.ownsRow base t size v n xs := by
  obtain ⟨hl, h | ⟨g', cap, cur, e, hgb, hh, r⟩⟩ := h
  · exact ⟨hl, .inl h⟩
  · refine ⟨hl, .inr ⟨g', cap, cur, e, hgb, (hg.block g' (blk_lt hh) ?_).trans hh, r⟩⟩
    intro e2
    injection e2 with e2
    subst e2
    exact Box.ne (g := g') (show Box w g' t cur from hh) (show Box w g' t2 cs from hx) hne rfl
theorem grown_below {B g : Nat} {w w' : World} (h : w.grownBy w' (some g)) (hg : B ≤ g) (hB : B ≤ w.heap.size) : Below B w w' :=
  ⟨h.os, h.tape, h.output, h.size, fun k hk => h.block k (by omega) (by intro e; injection e with e; omega)⟩
theorem del_own (B : Nat) (v : Value) (L : List Ca) (i : Nat) (w : World) (ho : OwnD B w v L) (hB : B ≤ w.heap.size) (hi : i < L.length) :
    Calls Try.prog 48 #[v, .int .i64 i, .int .i64 ((i : Int) + 1)] w fun e w' => ∃ v', e = .returned v' ∧ OwnD B w' v' (L.take i ++ L.drop (i + 1)) ∧ Below B w w' ∧ w.grownBy w' v.ownBlock := by
  obtain ⟨n, hL⟩ : ∃ n, L.length = n + 1 := ⟨L.length - 1, by omega⟩
  obtain ⟨R, e, hr, h1, hd⟩ := ho
  have hl : R.length = L.length := by rw [← e, List.length_map]
  obtain ⟨A, c, ev, _⟩ := row_form hr
  subst ev
  have hr2 := hr
  obtain ⟨hl2, h | ⟨g, cap, cur, e1, hg, hh, h4, h5, h6, ht⟩⟩ := hr2
  · omega
  · injection e1 with e1 _ e2
    subst e1 e2
    have hrw : RwC w g c R := ⟨cur, hh, h6, by rw [hl]; exact ht⟩
    have H := del_rows g c n i R w (by omega) (by omega) (by omega) h5 hrw (fun r hm => by
      obtain ⟨j, hj, rfl⟩ := List.mem_iff_getElem.1 hm
      obtain ⟨A, c, e, _⟩ := row_form (h1 j hj)
      exact ⟨_, A, c, e⟩)
    rw [hL]
    refine H.mono ?_
    rintro e9 w' ⟨rfl, k1, k2⟩
    have hlen : (R.take i ++ R.drop (i + 1)).length = n := by simp only [List.length_append, List.length_take, List.length_drop]; omega
    have hlenL : (L.take i ++ L.drop (i + 1)).length = n := by simp only [List.length_append, List.length_take, List.length_drop]; omega
    have old : ∀ j, j < n → ∃ j', j' < R.length ∧ (∀ (h : j < (R.take i ++ R.drop (i + 1)).length) (h2 : j' < R.length), (R.take i ++ R.drop (i + 1))[j]'(h) = R[j']'(h2)) ∧ (j < i ∧ j' = j ∨ i ≤ j ∧ j' = j + 1) := fun j hj => by
      by_cases c1 : j < i
      · refine ⟨j, by omega, fun h h2 => ?_, .inl ⟨c1, rfl⟩⟩
        rw [List.getElem_append_left (by rw [List.length_take]; omega), List.getElem_take]
      · refine ⟨j + 1, by omega, fun h h2 => ?_, .inr ⟨by omega, rfl⟩⟩
        rw [List.getElem_append_right (by rw [List.length_take]; omega), List.getElem_drop]
        congr 1
        rw [List.length_take]; omega
    refine ⟨_, rfl, ⟨R.take i ++ R.drop (i + 1), by rw [List.map_append, List.map_take, List.map_drop, e], ?_, fun j hj => ?_, fun p q hp hq hne => ?_⟩, grown_below k2 hg hB, k2⟩
    · rw [hlenL]
      have := RwC.own k1 hg (by rw [hlen]; omega) h5
      rw [hlen] at this
      exact this
    · rw [hlen] at hj
      obtain ⟨j', hj', ej, _⟩ := old j hj
      rw [ej _ hj']
      exact row_grow (h1 j' hj') hh (by decide) k2
    · rw [hlen] at hp hq
      obtain ⟨p', hp', ep, cp⟩ := old p hp
      obtain ⟨q', hq', eq, cq⟩ := old q hq
      rw [ep _ hp', eq _ hq']
      exact hd p' q' hp' hq' (by omega)
theorem cell_far {w : World} {b o g i : Nat} {u : Value} (hne : b ≠ g) : (w.setCell ⟨g, i, none⟩ u).cell? ⟨b, o, none⟩ = w.cell? ⟨b, o, none⟩ := by
  simp only [World.cell?]
  rw [heap_setCell_other w ⟨g, i, none⟩ b u hne]
theorem fE_no {S : Sc} {o : Int} (h : fE S o ≠ 0) : fL S o = [] ∧ fF S o = 0 ∧ fO S o = 0 := ⟨if_neg h, if_neg h, if_neg h⟩
theorem tdiv_pos {o m : Int} (h : 0 ≤ o) : o.tdiv m = o / m := Int.tdiv_eq_ediv_of_nonneg h
theorem tmod_pos {o m : Int} (h : 0 ≤ o) : o.tmod m = o % m := Int.tmod_eq_emod_of_nonneg h
set_option maxRecDepth 100000 in
set_option maxHeartbeats 8000000 in
theorem free_any (A : Option Addr) (cp : Nat) (S : Sc) (ob : Int) (w : World) (hr : RdC w A S.sl) (hn : S.sl.length ≤ 1000) (hln : ∀ k, k < S.sl.length → (us S k).length ≤ 1000) (ho1 : -9223372036854775808 ≤ ob) (ho2 : ob ≤ 9223372036854775807) : Calls Try.prog 28 #[.agg #[.int .i64 S.ob, .slice A S.sl.length cp], .int .i64 ob] w fun e w' => ∃ v, e = .returned (.tuple #[.agg #[.int .i64 (fO S ob), v], .int .i64 (fF S ob), .int .i64 (fE S ob)]) ∧ OwnD w.heap.size w' v (fL S ob) ∧ Below w.heap.size w w' := by
  have HR := hide (fun w' (h : Below w.heap.size w w') => hr.below h)
  have K := hide (bal (bal (brefl w) (.cells #[.int .i64 S.ob, .slice A S.sl.length cp] 24)) (.cells #[.int .i64 0, .slice none 0 0] 24))
  have CK := hide (fun w' (h : Below w.heap.size w w') => check_any A cp S w' (hr.below h) (by omega) (fun k hk => by have := hln k hk; omega))
  have X := hide ((Box.new w 24 #[.int .i64 S.ob, .slice A S.sl.length cp]).below (bal (brefl _) (.cells #[.int .i64 0, .slice none 0 0] 24)))
  have Y := hide (Box.new (w.alloc (.cells #[.int .i64 S.ob, .slice A S.sl.length cp] 24)) 24 #[.int .i64 0, .slice none 0 0])
  obtain ⟨g2, hg2⟩ : ∃ g, g = w.heap.size := ⟨_, rfl⟩
  obtain ⟨g4, hg4⟩ : ∃ g, g = (w.alloc (.cells #[.int .i64 S.ob, .slice A S.sl.length cp] 24)).heap.size := ⟨_, rfl⟩
  have hg5 : g4 = g2 + 1 := by rw [hg4, hg2, alloc_size']
  have HG2 := hide hg2
  have HG4 := hide hg5
  rw [← hg2] at X
  rw [← hg4] at Y
  clear hg2 hg4 hg5 hr
  by_cases h0 : chE S = 0
  rotate_left 1
  · have E := hide (show fE S ob = chE S from if_neg h0)
    have EN := hide (fE_no (show fE S ob ≠ 0 by rw [E.out]; exact h0))
    rw [EN.out.1, EN.out.2.1, EN.out.2.2, E.out]
    have h2 : (chE S != 0) = true := bne_iff_ne.2 h0
    clear E EN h0
    generalize chE S = ce at *
    go_enter Try.func28, Try.ntmps28
    go_upto_region 1 with fail
    rw [← HG2.out, ← HG4.out]
    generalize (w.alloc (.cells #[.int .i64 S.ob, .slice A S.sl.length cp] 24)).alloc (.cells #[.int .i64 0, .slice none 0 0] 24) = w1 at *
    obtain ⟨x0, x1⟩ : w1.cell? ⟨g2, 0, none⟩ = some (.int .i64 S.ob) ∧ w1.cell? ⟨g2, 1, none⟩ = some (.slice A S.sl.length cp) := ⟨X.out.cell 0, X.out.cell 1⟩
    go_wp2_with fail
    refine (CK.out _ K.out).mono ?_
    rintro e w2 ⟨rfl, hb⟩
    replace K := hide (btrans K.out hb)
    replace Y := hide (Y.out.below hb)
    clear hb x0 x1
    have y0 : w2.cell? ⟨g4, 0, none⟩ = some (.int .i64 0) := Y.out.cell 0
    have y1 : w2.cell? ⟨g4, 1, none⟩ = some (.slice none 0 0) := Y.out.cell 1
    have yf0 := Y.out.frozen 0
    have yf1 := Y.out.frozen 1
    go_wp2
    have E1 := (Y.out.put 0 (.int .i64 0)).put 1 (.slice none 0 0)
    refine ret_s3 (v := .slice none 0 0) (g := g4) (k := 4) (o := 0) (er := 0) (er2 := ce) (m := 5) (m2 := 6) rfl rfl rfl rfl rfl E1 ?_
    refine ⟨_, rfl, ?_, ?_⟩
    · exact ⟨[], rfl, ⟨rfl, .inl ⟨rfl, rfl⟩⟩, fun j hj => absurd hj (Nat.not_lt_zero _), fun i j hi => absurd hi (Nat.not_lt_zero _)⟩
    · exact bset (bset K.out (by show w.heap.size ≤ g4; have h1 := HG2.out; have h2 := HG4.out; omega) _) (by show w.heap.size ≤ g4; have h1 := HG2.out; have h2 := HG4.out; omega) _
  rw [h0] at CK
  have V := hide (vd_of h0)
  have HOB := hide V.out.ob
  have FN := hide (fun b w' (h : Below w.heap.size w w') => find_any S.ob A S.sl cp b w' (HR.out w' h) hn V.out.asc)
  obtain ⟨m1, m2⟩ := HOB.out
  have hm0 : ¬ S.ob = 0 := by omega
  obtain ⟨dq, hdq⟩ : ∃ q, q = ob.tdiv S.ob := ⟨_, rfl⟩
  have HDQ := hide hdq
  have hw1 : IntKind.i64.wrap (ob.tdiv S.ob) = dq := by
    rw [IntKind.wrap_i64, hdq]
    rcases Int.lt_or_le ob 0 with h | h
    · have e : ob.tdiv S.ob = -((-ob) / S.ob) := by
        rw [← Int.tdiv_eq_ediv_of_nonneg (by omega), Int.neg_tdiv, Int.neg_neg]
      have h1 := Int.ediv_nonneg (a := -ob) (b := S.ob) (by omega) (by omega)
      have h2 := Int.ediv_le_self S.ob (show 0 ≤ -ob by omega)
      omega
    · rw [Int.tdiv_eq_ediv_of_nonneg h]
      have h1 := Int.ediv_nonneg (a := ob) (b := S.ob) h (by omega)
      have h2 := Int.ediv_le_self S.ob h
      omega
  clear hdq
  go_enter Try.func28, Try.ntmps28
  go_upto_region 1 with fail
  rw [← HG2.out, ← HG4.out]
  generalize (w.alloc (.cells #[.int .i64 S.ob, .slice A S.sl.length cp] 24)).alloc (.cells #[.int .i64 0, .slice none 0 0] 24) = w1 at *
  obtain ⟨x0, x1⟩ : w1.cell? ⟨g2, 0, none⟩ = some (.int .i64 S.ob) ∧ w1.cell? ⟨g2, 1, none⟩ = some (.slice A S.sl.length cp) := ⟨X.out.cell 0, X.out.cell 1⟩
  go_wp2_with fail
  refine (CK.out _ K.out).mono ?_
  rintro e w2 ⟨rfl, hb⟩
  replace K := hide (btrans K.out hb)
  replace Y := hide (Y.out.below hb)
  replace X := hide (X.out.below hb)
  clear hb x0 x1
  go_upto_region 4 with fail
  have KD : Below w2.heap.size w2 w2.drew := below_drewN (brefl _) 1
  replace X := hide (X.out.below KD)
  replace Y := hide (Y.out.below KD)
  replace K := hide (btrans K.out KD)
  clear KD
  refine wp_region_noPanic ?_
  refine wp_region_held_drew (S := (fun W => W.cell? ⟨g2, 0, none⟩ = some (.int .i64 S.ob) ∧ W.cell? ⟨g2, 1, none⟩ = some (.slice A S.sl.length cp))) (by kernel_rfl) ?_ (fun hHeld => ?_)
  · exact ⟨X.out.cell 0, X.out.cell 1⟩
  generalize w2.drew = wd at *
  refine wpAnyH_take (i := 0) (oi := ⟨some 19, _, _, _, _, _⟩) (v := ?_) rfl (by kernel_rfl) (by kernel_rfl) (by kernel_rfl) (fun _ _ _ h => h) (Or.inl ⟨by kernel_rfl, ?_⟩) (by assumption) ?_
  rotate_left 1
  · (intro w hSw; (try dsimp only at hSw); go_simp) <;> (with_reducible rfl)
  (try simp only [Act.put, List.setIfInBounds_toArray, List.set_cons_succ, List.set_cons_zero])
  refine wpAnyH_take (i := 1) (oi := ⟨some 20, _, _, _, _, _⟩) (v := ?_) rfl (by kernel_rfl) (by kernel_rfl) (by kernel_rfl) (fun _ _ _ h => h) (Or.inl ⟨by kernel_rfl, ?_⟩) (by assumption) ?_
  rotate_left 1
  · (intro w hSw; (try dsimp only at hSw); go_simp) <;> (with_reducible rfl)
  (try simp only [Act.put, List.setIfInBounds_toArray, List.set_cons_succ, List.set_cons_zero])
  refine wpAnyH_take (i := 2) (oi := ⟨some 21, _, _, _, _, _⟩) (v := ?_) rfl (by kernel_rfl) (by kernel_rfl) (by kernel_rfl) (fun _ _ _ h => h) (Or.inl ⟨by kernel_rfl, ?_⟩) (by assumption) ?_
  rotate_left 1
  · (intro w hSw; (try dsimp only at hSw); go_simp) <;> (with_reducible rfl)
  (try simp only [Act.put, List.setIfInBounds_toArray, List.set_cons_succ, List.set_cons_zero])
  refine wpAnyH_take (i := 3) (oi := ⟨some 22, _, _, _, _, _⟩) (v := ?_) rfl (by kernel_rfl) (by kernel_rfl) (by kernel_rfl) (fun _ _ _ h => h) (Or.inl ⟨by kernel_rfl, ?_⟩) (by assumption) ?_
  rotate_left 1
  · (intro w hSw; (try dsimp only at hSw); go_simp) <;> (with_reducible rfl)
  (try simp only [Act.put, List.setIfInBounds_toArray, List.set_cons_succ, List.set_cons_zero])
  refine wpAnyH_take (i := 4) (oi := ⟨some 23, _, _, _, _, _⟩) (v := ?_) rfl (by kernel_rfl) (by kernel_rfl) (by kernel_rfl) (fun _ _ _ h => h) (Or.inl ⟨by kernel_rfl, ?_⟩) (by assumption) ?_
  rotate_left 1
  · (intro w hSw; (try dsimp only at hSw); go_simp) <;> (with_reducible rfl)
  (try simp only [Act.put, List.setIfInBounds_toArray, List.set_cons_succ, List.set_cons_zero])
  refine wpAnyH_ready (rs := [5]) (by kernel_rfl) (by simp) ?_
  refine AllReadyH.cons (o := ⟨some 24, _, _, _, _, _⟩) rfl (fun K' hK => ?_) AllReadyH.nil
  go_simp
  refine (FN.out _ _ K.out).mono ?_
  rintro e w3 ⟨rfl, hb⟩
  replace K := hide (btrans K.out hb)
  replace X := hide (X.out.below hb)
  replace Y := hide (Y.out.below hb)
  clear hb
  refine hK.out _ _ ?_ (fun hHeld => ?_)
  · exact ⟨X.out.cell 0, X.out.cell 1⟩
  clear hK K'
  (try simp only [Act.put, List.setIfInBounds_toArray, List.set_cons_succ, List.set_cons_zero])
  refine wpAnyH_take (i := 6) (oi := ⟨some 18, _, _, _, _, _⟩) (v := ?_) rfl (by kernel_rfl) (by kernel_rfl) (by kernel_rfl) (fun _ _ _ h => h) (Or.inl ⟨by kernel_rfl, ?_⟩) (by assumption) ?_
  rotate_left 1
  · (intro w hSw; (try dsimp only at hSw); go_simp) <;> (with_reducible rfl)
  (try simp only [Act.put, List.setIfInBounds_toArray, List.set_cons_succ, List.set_cons_zero])
  refine wpAnyH_take (i := 7) (oi := ⟨some 25, _, _, _, _, _⟩) (v := ?_) rfl (by kernel_rfl) (by kernel_rfl) (by kernel_rfl) (fun _ _ _ h => h) (Or.inl ⟨by kernel_rfl, ?_⟩) (by assumption) ?_
  rotate_left 1
  · (intro w hSw; (try dsimp only at hSw); go_simp) <;> (with_reducible rfl)
  (try simp only [Act.put, List.setIfInBounds_toArray, List.set_cons_succ, List.set_cons_zero])
  refine wpAnyH_take (i := 8) (oi := ⟨some 26, _, _, _, _, _⟩) (v := ?_) rfl (by kernel_rfl) (by kernel_rfl) (by kernel_rfl) (fun _ _ _ h => h) (Or.inl ⟨by kernel_rfl, ?_⟩) (by assumption) ?_
  rotate_left 1
  · (intro w hSw; (try dsimp only at hSw); go_simp) <;> (with_reducible rfl)
  (try simp only [Act.put, List.setIfInBounds_toArray, List.set_cons_succ, List.set_cons_zero])
  refine wpAnyH_take (i := 9) (oi := ⟨some 8, _, _, _, _, _⟩) (v := ?_) rfl (by kernel_rfl) (by kernel_rfl) (by kernel_rfl) (fun _ _ _ h => h) (Or.inl ⟨by kernel_rfl, ?_⟩) (by assumption) ?_
  rotate_left 1
  · (intro w hSw; (try dsimp only at hSw); go_simp) <;> (with_reducible rfl)
  (try simp only [Act.put, List.setIfInBounds_toArray, List.set_cons_succ, List.set_cons_zero])
  refine wpAnyH_take (i := 10) (oi := ⟨some 9, _, _, _, _, _⟩) (v := ?_) rfl (by kernel_rfl) (by kernel_rfl) (by kernel_rfl) (fun _ _ _ h => h) (Or.inl ⟨by kernel_rfl, ?_⟩) (by assumption) ?_
  rotate_left 1
  · (intro w hSw; (try dsimp only at hSw); go_simp) <;> (with_reducible rfl)
  (try simp only [Act.put, List.setIfInBounds_toArray, List.set_cons_succ, List.set_cons_zero])
  refine wpAnyH_done (by kernel_rfl) ?_ _
  refine NoPanic.normal ?_
  obtain ⟨x0, x1⟩ : w3.cell? ⟨g2, 0, none⟩ = some (.int .i64 S.ob) ∧ w3.cell? ⟨g2, 1, none⟩ = some (.slice A S.sl.length cp) := ⟨X.out.cell 0, X.out.cell 1⟩
  by_cases hneg : ob < 0
  · have E := hide (show fE S ob = 6 by
      unfold fE
      rw [if_pos h0, if_neg]
      intro h
      have := (uf_ok h).1
      omega)
    clear FN hw1
    generalize caP S.sl dq = ci at *
    generalize hitP S.sl dq = hi at *
    have EN := hide (fE_no (show fE S ob ≠ 0 by rw [E.out]; decide))
    have y0 : w3.cell? ⟨g4, 0, none⟩ = some (.int .i64 0) := Y.out.cell 0
    have y1 : w3.cell? ⟨g4, 1, none⟩ = some (.slice none 0 0) := Y.out.cell 1
    have yf0 := Y.out.frozen 0
    have yf1 := Y.out.frozen 1
    go_wp2
    have E1 := (Y.out.put 0 (.int .i64 0)).put 1 (.slice none 0 0)
    refine ret_s3 (v := .slice none 0 0) (g := g4) (k := 4) (o := 0) (er := 0) (er2 := 6) (m := 5) (m2 := 6) rfl rfl rfl rfl rfl E1 ?_
    refine ⟨.slice none 0 0, by rw [EN.out.2.1, EN.out.2.2, E.out], ?_, ?_⟩
    · rw [EN.out.1]
      exact ⟨[], rfl, ⟨rfl, .inl ⟨rfl, rfl⟩⟩, fun j hj => absurd hj (Nat.not_lt_zero _), fun i j hi => absurd hi (Nat.not_lt_zero _)⟩
    · exact bset (bset K.out (by show w.heap.size ≤ g4; have h1 := HG2.out; have h2 := HG4.out; omega) _) (by show w.heap.size ≤ g4; have h1 := HG2.out; have h2 := HG4.out; omega) _
  have hpos : 0 ≤ ob := by omega
  have hpos2 : ¬ ob < 0 := hneg
  have EQ : dq = ob / S.ob := by rw [HDQ.out, Int.tdiv_eq_ediv_of_nonneg hpos]
  rw [EQ]
  have EM : ob.tmod S.ob = ((fA S ob : Nat) : Int) := by
    rw [Int.tmod_eq_emod_of_nonneg hpos]
    have h3 := Int.emod_nonneg ob (b := S.ob) (by omega)
    unfold fA
    omega
  have EI : caP S.sl (ob / S.ob) = fI S ob := rfl
  rw [EI]
  clear FN hw1 EQ hneg EI
  cases hh : hitP S.sl (ob / S.ob)
  · have E := hide (show fE S ob = 6 by
      unfold fE
      rw [if_pos h0, if_neg]
      intro h
      have := (uf_ok h).2.1
      rw [hh] at this; cases this)
    clear hh
    generalize fI S ob = ci at *
    generalize fA S ob = ai at *
    have EN := hide (fE_no (show fE S ob ≠ 0 by rw [E.out]; decide))
    have y0 : w3.cell? ⟨g4, 0, none⟩ = some (.int .i64 0) := Y.out.cell 0
    have y1 : w3.cell? ⟨g4, 1, none⟩ = some (.slice none 0 0) := Y.out.cell 1
    have yf0 := Y.out.frozen 0
    have yf1 := Y.out.frozen 1
    go_wp2
    have E1 := (Y.out.put 0 (.int .i64 0)).put 1 (.slice none 0 0)
    refine ret_s3 (v := .slice none 0 0) (g := g4) (k := 4) (o := 0) (er := 0) (er2 := 6) (m := 5) (m2 := 6) rfl rfl rfl rfl rfl E1 ?_
    refine ⟨.slice none 0 0, by rw [EN.out.2.1, EN.out.2.2, E.out], ?_, ?_⟩
    · rw [EN.out.1]
      exact ⟨[], rfl, ⟨rfl, .inl ⟨rfl, rfl⟩⟩, fun j hj => absurd hj (Nat.not_lt_zero _), fun i j hi => absurd hi (Nat.not_lt_zero _)⟩
    · exact bset (bset K.out (by show w.heap.size ≤ g4; have h1 := HG2.out; have h2 := HG4.out; omega) _) (by show w.heap.size ≤ g4; have h1 := HG2.out; have h2 := HG4.out; omega) _
  obtain ⟨hlt, hfr⟩ := hit_lt hh
  have hal := fA_lt V.out hlt (o := ob)
  have HH := hide hh
  obtain ⟨b, off, vf, eA, hbl, c0, c1, hvf⟩ := (HR.out _ K.out).cells (brefl _) hlt
  obtain ⟨Af, cf, evf, hcf, hbs⟩ := hvf
  subst evf
  obtain ⟨bf, of, eAf, hbfl, d0⟩ := hbs.cells (brefl _) hal
  have RC := hide (fun w' (h : Below w3.heap.size w3 w') => (h.cell (p := ⟨b, off + fI S ob * 2, none⟩) hbl).trans c0)
  have HBW := hide (show b < w.heap.size from by
    obtain ⟨b9, o9, v9, e9, h9, _⟩ := (HR.out w (brefl w)).cells (brefl w) hlt
    have e8 := eA.symm.trans e9
    have : b = b9 := by injection e8 with e8; injection e8
    omega)
  have HRA := hide (HR.out _ K.out)
  subst eA eAf
  have CL := hide (clone_any (some ⟨b, off, none⟩) cp S w3 HRA.out hn hln)
  have LT := hide hlt
  have AL := hide hal
  have hci1 : ((fI S ob : Nat) : Int) < (S.sl.length : Int) := by omega
  have hci0 : (0 : Int) ≤ ((fI S ob : Nat) : Int) := by omega
  have hai1 : ((fA S ob : Nat) : Int) < ((us S (fI S ob)).length : Int) := by omega
  have hai0 : (0 : Int) ≤ ((fA S ob : Nat) : Int) := by omega
  cases hfb : (us S (fI S ob)).getD (fA S ob) false
  · have E := hide (show fE S ob = 6 by
      unfold fE
      rw [if_pos h0, if_neg]
      intro h
      have := (uf_ok h).2.2
      rw [hfb] at this; cases this)
    have d1 : w3.cell? ⟨bf, of + fA S ob, none⟩ = some (.bool false) := d0.trans (congrArg (fun b => some (Value.bool b)) hfb)
    have hlen : (cAt S.sl (fI S ob)).2.length = (us S (fI S ob)).length := rfl
    clear hh hfb d0 CL hlt hal hfr
    rw [hlen] at c1
    generalize (us S (fI S ob)).length = fl at *
    generalize fI S ob = ci at *
    generalize fA S ob = ai at *
    clear hlen RC LT AL
    have EN := hide (fE_no (show fE S ob ≠ 0 by rw [E.out]; decide))
    have y0 : w3.cell? ⟨g4, 0, none⟩ = some (.int .i64 0) := Y.out.cell 0
    have y1 : w3.cell? ⟨g4, 1, none⟩ = some (.slice none 0 0) := Y.out.cell 1
    have yf0 := Y.out.frozen 0
    have yf1 := Y.out.frozen 1
    go_wp2
    have E1 := (Y.out.put 0 (.int .i64 0)).put 1 (.slice none 0 0)
    refine ret_s3 (v := .slice none 0 0) (g := g4) (k := 4) (o := 0) (er := 0) (er2 := 6) (m := 5) (m2 := 6) rfl rfl rfl rfl rfl E1 ?_
    refine ⟨.slice none 0 0, by rw [EN.out.2.1, EN.out.2.2, E.out], ?_, ?_⟩
    · rw [EN.out.1]
      exact ⟨[], rfl, ⟨rfl, .inl ⟨rfl, rfl⟩⟩, fun j hj => absurd hj (Nat.not_lt_zero _), fun i j hi => absurd hi (Nat.not_lt_zero _)⟩
    · exact bset (bset K.out (by show w.heap.size ≤ g4; have h1 := HG2.out; have h2 := HG4.out; omega) _) (by show w.heap.size ≤ g4; have h1 := HG2.out; have h2 := HG4.out; omega) _
  have UF : uf S ob = true := by
    unfold uf
    rw [decide_eq_true hpos, HH.out, hfb]; rfl
  have E := hide (show fE S ob = 0 by unfold fE; rw [if_pos h0, if_pos UF])
  have d1 : w3.cell? ⟨bf, of + fA S ob, none⟩ = some (.bool true) := d0.trans (congrArg (fun b => some (Value.bool b)) hfb)
  clear d0 hfb UF hh
  obtain ⟨fl, hfl⟩ : ∃ n, n = (us S (fI S ob)).length := ⟨_, rfl⟩
  have c1' : w3.cell? ⟨b, off + fI S ob * 2 + 1, none⟩ = some (.slice (some ⟨bf, of, none⟩) fl cf) := by rw [hfl]; exact c1
  rw [← hfl] at hai1
  have HFL := hide hfl
  clear c1 hfl
  obtain ⟨ci, hci⟩ : ∃ n, n = fI S ob := ⟨_, rfl⟩
  obtain ⟨ai, hai⟩ : ∃ n, n = fA S ob := ⟨_, rfl⟩
  rw [← hci] at c0 c1' hci1 hci0 RC HFL LT AL
  rw [← hai] at d1 hai1 hai0 EM AL
  rw [← hci]
  have HCI := hide hci
  have HAI := hide hai
  clear hci hai hlt hal hfr
  have XL := hide X.out.lt
  have YL := hide Y.out.lt
  go_upto_region 8 with fail
  go_wp2_with fail
  refine CL.out.mono ?_
  rintro e w4 ⟨v, rfl, hD, hb⟩
  replace X := hide (X.out.below hb)
  replace Y := hide (Y.out.below hb)
  have K4 := hide (btrans K.out hb)
  have KB := hide (show w3.heap.size ≤ w4.heap.size from hb.size)
  have RC4 := hide (fun w' (h : Below w3.heap.size w4 w') => RC.out w' (hb.trans h))
  clear x0 x1 c0 c1' d1 hb RC CL
  have M := bal (brefl w4) (.cells #[.int .i64 S.ob, v] 24)
  have Z := hide (Box.new w4 24 #[.int .i64 S.ob, v])
  have D5 := hide (hD.below M)
  replace X := hide (X.out.below M)
  replace Y := hide (Y.out.below M)
  have K5 := hide (btrans K4.out M)
  have B35 := hide (show Below w3.heap.size w4 (w4.alloc (.cells #[.int .i64 S.ob, v] 24)) from M.mono KB.out)
  obtain ⟨g, c, gf, cf5, ev, hBg, hgl, hBgf, hgfl, e0, e1, e2, e3, D6, hxf, hxg, B6, hcf5⟩ := D5.out.flag (k := ci) (a := ai) (by exact LT.out) (by exact AL.out) false
  subst ev
  have Z2 := hide (Z.out.far (b := gf) (i := ai) (by obtain ⟨cu, hx⟩ := hxf; exact Box.ne Z.out hx (by decide)) (.bool false))
  have X2 := hide (X.out.far (b := gf) (i := ai) (fun q => by have := XL.out; omega) (.bool false))
  have Y2 := hide (Y.out.far (b := gf) (i := ai) (fun q => by have := YL.out; omega) (.bool false))
  have K6 := hide (bset K5.out (p := ⟨gf, ai, none⟩) (by show w.heap.size ≤ gf; have := K.out.size; omega) (.bool false))
  have B36 := hide (B35.out.setCell (p := ⟨gf, ai, none⟩) hBgf (.bool false))
  have HGZ := hide (show g ≠ w4.heap.size from by obtain ⟨cu, hx⟩ := hxg; exact (Box.ne Z.out hx (by decide)).symm)
  have HGF := hide (show gf ≠ g from by obtain ⟨cu, hx⟩ := hxg; obtain ⟨cu2, hx2⟩ := hxf; exact Box.ne hx2 hx (by decide))
  have r0 : ((w4.alloc (.cells #[.int .i64 S.ob, .slice (some ⟨g, 0, none⟩) S.sl.length c] 24)).setCell ⟨gf, ai, none⟩ (.bool false)).cell? ⟨g, ci * 2, none⟩ = some (.int .i64 (cAt S.sl ci).1) := by
    obtain ⟨cu, hx⟩ := hxg
    rw [(hx.far HGF.out.symm (.bool false)).cell, ← hx.cell]; exact e0
  have r1 : ((w4.alloc (.cells #[.int .i64 S.ob, .slice (some ⟨g, 0, none⟩) S.sl.length c] 24)).setCell ⟨gf, ai, none⟩ (.bool false)).cell? ⟨g, ci * 2 + 1, none⟩ = some (.slice (some ⟨gf, 0, none⟩) (cAt S.sl ci).2.length cf5) := by
    obtain ⟨cu, hx⟩ := hxg
    rw [(hx.far HGF.out.symm (.bool false)).cell, ← hx.cell]; exact e1
  have hfl2 : (cAt S.sl ci).2.length = fl := HFL.out.symm
  rw [hfl2] at e1 r1 hcf5
  have R0 := hide r0
  have R1 := hide r1
  have D6' := hide D6
  have B6' := hide B6
  have C5 := hide hcf5
  clear r0 r1 D6 B6 hcf5 hxf hxg hfl2 Z X Y K4 hD HGF M
  go_upto_region 10 with fail
  obtain ⟨g11, hg11⟩ : ∃ q, q = w4.heap.size := ⟨_, rfl⟩
  rw [← hg11] at Z2 HGZ ⊢
  have HG3 := hide (show w3.heap.size ≤ g11 by have := KB.out; omega)
  have HG11 := hide (show w.heap.size ≤ g11 by have := K.out.size; have := KB.out; omega)
  clear e0 e1 e2 e3 hg11
  generalize (w4.alloc (.cells #[.int .i64 S.ob, .slice (some ⟨g, 0, none⟩) S.sl.length c] 24)).setCell ⟨gf, ai, none⟩ (.bool false) = w6 at *
  obtain ⟨l6, hl6⟩ : ∃ l, l = (cAt S.sl ci).2.set ai false := ⟨_, rfl⟩
  have HL6 := hide hl6
  have hll : l6.length = fl := by rw [hl6, List.length_set]; exact HFL.out.symm
  rw [← hl6] at D6' B6'
  have IS := isempty_any (cAt S.sl ci).1 (some ⟨gf, 0, none⟩) cf5 l6 w6 B6'.out (by rw [hll, HFL.out]; have := hln ci LT.out; omega)
  rw [hll] at IS
  replace IS := hide IS
  obtain ⟨f6, hf6⟩ : ∃ f, f = (cAt S.sl ci).1 := ⟨_, rfl⟩
  rw [← hf6] at IS R0 D6' RC4
  have HF6 := hide hf6
  have FC := hide (show fC S ob = S.sl.set ci (f6, l6) by
    unfold fC
    rw [← HCI.out, ← HAI.out, HL6.out, HF6.out]; rfl)
  have FZ := hide (show fZ S ob = cnt l6 by
    unfold fZ
    rw [← HCI.out, ← HAI.out, HL6.out]; rfl)
  clear hl6 hf6 hll B6'
  obtain ⟨z0, z1⟩ : w6.cell? ⟨g11, 0, none⟩ = some (.int .i64 S.ob) ∧ w6.cell? ⟨g11, 1, none⟩ = some (.slice (some ⟨g, 0, none⟩) S.sl.length c) := ⟨Z2.out.cell 0, Z2.out.cell 1⟩
  have r0 := R0.out
  have r1 := R1.out
  by_cases hz : cnt l6 = 0
  rotate_left 1
  · rw [decide_eq_false hz] at IS
    have EL := hide (show fL S ob = S.sl.set ci (f6, l6) by unfold fL; rw [if_pos E.out, if_neg (by rw [FZ.out]; exact hz), FC.out])
    have EF := hide (show fF S ob = -1 by unfold fF; rw [if_pos E.out, if_neg (by rw [FZ.out]; exact hz)])
    have EO := hide (show fO S ob = S.ob by unfold fO; rw [if_pos E.out])
    clear hz
    go_wp2_with fail
    refine IS.out.mono ?_
    rintro e w7 ⟨rfl, hb⟩
    replace Z2 := hide (Z2.out.below hb)
    replace Y2 := hide (Y2.out.below hb)
    replace D6' := hide (D6'.out.below hb)
    replace K6 := hide (btrans K6.out hb)
    clear hb z0 z1 r0 r1 IS
    obtain ⟨z0, z1⟩ : w7.cell? ⟨g11, 0, none⟩ = some (.int .i64 S.ob) ∧ w7.cell? ⟨g11, 1, none⟩ = some (.slice (some ⟨g, 0, none⟩) S.sl.length c) := ⟨Z2.out.cell 0, Z2.out.cell 1⟩
    have y0 : w7.cell? ⟨g4, 0, none⟩ = some (.int .i64 0) := Y2.out.cell 0
    have y1 : w7.cell? ⟨g4, 1, none⟩ = some (.slice none 0 0) := Y2.out.cell 1
    have yf0 := Y2.out.frozen 0
    have yf1 := Y2.out.frozen 1
    go_wp2
    have E1 := Y2.out.put 0 (.int .i64 S.ob)
    have E2 := E1.put 1 (.slice (some ⟨g, 0, none⟩) S.sl.length c)
    refine ret_s3 (v := .slice (some ⟨g, 0, none⟩) S.sl.length c) (g := g4) (k := 4) (o := S.ob) (er := -1) (er2 := 0) (m := 5) (m2 := 6) rfl rfl rfl rfl rfl E2 ?_
    refine ⟨.slice (some ⟨g, 0, none⟩) S.sl.length c, by rw [EF.out, EO.out, E.out], ?_, ?_⟩
    · rw [EL.out]
      have o1 := D6'.out.kp (Kp.boxset Y2.out (show w.heap.size ≤ g4 by have h1 := HG2.out; have h2 := HG4.out; omega) 0 (.int .i64 S.ob)) (by decide) (by decide)
      have o2 := o1.kp (Kp.boxset E1 (show w.heap.size ≤ g4 by have h1 := HG2.out; have h2 := HG4.out; omega) 1 (.slice (some ⟨g, 0, none⟩) S.sl.length c)) (by decide) (by decide)
      exact o2.mono K.out.size
    · exact bset (bset K6.out (by show w.heap.size ≤ g4; have h1 := HG2.out; have h2 := HG4.out; omega) _) (by show w.heap.size ≤ g4; have h1 := HG2.out; have h2 := HG4.out; omega) _
  rw [decide_eq_true hz] at IS
  have EL := hide (show fL S ob = (S.sl.set ci (f6, l6)).take ci ++ (S.sl.set ci (f6, l6)).drop (ci + 1) by
    unfold fL
    rw [if_pos E.out, if_pos (by rw [FZ.out]; exact hz), ← HCI.out, List.take_set_of_le (Nat.le_refl _), List.drop_set_of_lt (Nat.lt_succ_self _)])
  have EF := hide (show fF S ob = f6 by unfold fF; rw [if_pos E.out, if_pos (by rw [FZ.out]; exact hz), ← HCI.out, HF6.out]; rfl)
  have EO := hide (show fO S ob = S.ob by unfold fO; rw [if_pos E.out])
  have DE := hide (fun W (h : OwnD w3.heap.size W (.slice (some ⟨g, 0, none⟩) S.sl.length c) (S.sl.set ci (f6, l6))) hB => del_own w3.heap.size (.slice (some ⟨g, 0, none⟩) S.sl.length c) (S.sl.set ci (f6, l6)) ci W h hB (by rw [List.length_set]; exact LT.out))
  rw [← EL.out] at DE
  clear hz
  go_wp2_with fail
  refine IS.out.mono ?_
  rintro e w7 ⟨rfl, hb⟩
  replace Z2 := hide (Z2.out.below hb)
  replace Y2 := hide (Y2.out.below hb)
  replace X2 := hide (X2.out.below hb)
  replace D6' := hide (D6'.out.below hb)
  replace K6 := hide (btrans K6.out hb)
  replace B36 := hide (B36.out.trans (hb.mono (Nat.le_trans KB.out B36.out.size)))
  clear hb z0 z1 r0 r1 IS
  obtain ⟨z0, z1⟩ : w7.cell? ⟨g11, 0, none⟩ = some (.int .i64 S.ob) ∧ w7.cell? ⟨g11, 1, none⟩ = some (.slice (some ⟨g, 0, none⟩) S.sl.length c) := ⟨Z2.out.cell 0, Z2.out.cell 1⟩
  have DF := hide (DE.out w7 D6'.out (Nat.le_trans KB.out B36.out.size))
  have hwci : IntKind.i64.wrap ((ci : Int) + 1) = (ci : Int) + 1 := by rw [IntKind.wrap_i64]; omega
  have zf1 := Z2.out.frozen 1
  go_wp2_with fail
  refine DF.out.mono ?_
  rintro e w8 ⟨v8, rfl, hD8, hb, hgr⟩
  obtain ⟨A8, c8, ev8, _⟩ := hD8.c.form
  subst ev8
  have Z8 := hide (show Box w8 g11 24 #[.int .i64 S.ob, .slice (some ⟨g, 0, none⟩) S.sl.length c] from (hgr.block g11 Z2.out.lt (fun q => HGZ.out (Option.some.inj q).symm)).trans Z2.out)
  have X8 := hide (show Box w8 g2 24 #[.int .i64 S.ob, .slice (some ⟨b, off, none⟩) S.sl.length cp] from (hb.block g2 XL.out).trans X2.out)
  have Y8 := hide (show Box w8 g4 24 #[.int .i64 0, .slice none 0 0] from (hb.block g4 YL.out).trans Y2.out)
  have K8 := hide (K6.out.trans (hb.mono K.out.size))
  have B38 := hide (B36.out.trans hb)
  have D8 := hide hD8
  clear hD8 hb hgr z0 z1 zf1 X2 Y2 Z2 K6 D6' DF DE hwci B36
  generalize (fL S ob).length = n8 at *
  obtain ⟨z0, z1⟩ : w8.cell? ⟨g11, 0, none⟩ = some (.int .i64 S.ob) ∧ w8.cell? ⟨g11, 1, none⟩ = some (.slice (some ⟨g, 0, none⟩) S.sl.length c) := ⟨Z8.out.cell 0, Z8.out.cell 1⟩
  have zf1 := Z8.out.frozen 1
  have Z9 := hide (Z8.out.put 1 (.slice A8 n8 c8))
  have B39 := hide (B38.out.setCell (p := ⟨g11, 1, none⟩) (by show w3.heap.size ≤ g11; exact HG3.out) (.slice A8 n8 c8))
  have H112 := hide (show g2 ≠ g11 by have h1 := XL.out; have h2 := HG3.out; omega)
  have H114 := hide (show g4 ≠ g11 by have h1 := YL.out; have h2 := HG3.out; omega)
  have H24 := hide (show g2 ≠ g4 by have h2 := HG4.out; omega)
  have HB4 := hide (show b ≠ g4 by have h2 := HG4.out; have h3 := HG2.out; have h4 := HBW.out; omega)
  have X9 := hide (X8.out.far H112.out (.slice A8 n8 c8) (i := 1))
  have Y9 := hide (Y8.out.far H114.out (.slice A8 n8 c8) (i := 1))
  have K9 := hide (K8.out.setCell (p := ⟨g11, 1, none⟩) HG11.out (.slice A8 n8 c8))
  have D9 := hide (D8.out.kp (Kp.boxset Z8.out HG3.out 1 (.slice A8 n8 c8)) (by decide) (by decide))
  have R9 := hide (RC4.out _ B39.out)
  go_upto_region 13 with fail
  generalize w8.setCell ⟨g11, 1, none⟩ (.slice A8 n8 c8) = w9 at *
  clear z0 z1 zf1 X8 Y8 Z8 K8 D8 B38 B39
  have KD : Below w9.heap.size w9 w9.drew := below_drewN (brefl _) 1
  replace X9 := hide (X9.out.below KD)
  replace Y9 := hide (Y9.out.below KD)
  replace Z9 := hide (Z9.out.below KD)
  replace D9 := hide (D9.out.below KD)
  replace K9 := hide (btrans K9.out KD)
  replace R9 := hide (show w9.drew.cell? ⟨b, off + ci * 2, none⟩ = some (.int .i64 f6) from R9.out)
  clear KD
  refine wp_region_noPanic ?_
  refine wp_region_held_drew (S := (fun W => (W.cell? ⟨g11, 0, none⟩ = some (.int .i64 S.ob) ∧ W.cell? ⟨g11, 1, none⟩ = some (.slice A8 n8 c8)) ∧ W.cell? ⟨g2, 1, none⟩ = some (.slice (some ⟨b, off, none⟩) S.sl.length cp) ∧ W.cell? ⟨b, off + ci * 2, none⟩ = some (.int .i64 f6))) (by kernel_rfl) ?_ (fun hHeld => ?_)
  · exact ⟨⟨Z9.out.cell 0, Z9.out.cell 1⟩, X9.out.cell 1, R9.out⟩
  generalize w9.drew = wd at *
  refine wpAnyH_take (i := 0) (oi := ⟨some 75, _, _, _, _, _⟩) (v := ?_) rfl (by kernel_rfl) (by kernel_rfl) (by kernel_rfl) (fun _ _ _ h => h) (Or.inl ⟨by kernel_rfl, ?_⟩) (by assumption) ?_
  rotate_left 1
  · (intro w hSw; (try dsimp only at hSw); go_simp) <;> (with_reducible rfl)
  (try simp only [Act.put, List.setIfInBounds_toArray, List.set_cons_succ, List.set_cons_zero])
  refine wpAnyH_take (i := 1) (oi := ⟨some 76, _, _, _, _, _⟩) (v := ?_) rfl (by kernel_rfl) (by kernel_rfl) (by kernel_rfl) (fun _ _ _ h => h) (Or.inl ⟨by kernel_rfl, ?_⟩) (by assumption) ?_
  rotate_left 1
  · (intro w hSw; (try dsimp only at hSw); go_simp) <;> (with_reducible rfl)
  (try simp only [Act.put, List.setIfInBounds_toArray, List.set_cons_succ, List.set_cons_zero])
  refine wpAnyH_take (i := 2) (oi := ⟨some 77, _, _, _, _, _⟩) (v := ?_) rfl (by kernel_rfl) (by kernel_rfl) (by kernel_rfl) (fun _ _ _ h => h) (Or.inl ⟨by kernel_rfl, ?_⟩) (by assumption) ?_
  rotate_left 1
  · (intro w hSw; (try dsimp only at hSw); go_simp) <;> (with_reducible rfl)
  (try simp only [Act.put, List.setIfInBounds_toArray, List.set_cons_succ, List.set_cons_zero])
  refine wpAnyH_take (i := 3) (oi := ⟨some 78, _, _, _, _, _⟩) (v := ?_) rfl (by kernel_rfl) (by kernel_rfl) (by kernel_rfl) (fun _ _ _ h => h) (Or.inl ⟨by kernel_rfl, ?_⟩) (by assumption) ?_
  rotate_left 1
  · (intro w hSw; (try dsimp only at hSw); go_simp) <;> (with_reducible rfl)
  (try simp only [Act.put, List.setIfInBounds_toArray, List.set_cons_succ, List.set_cons_zero])
  refine wpAnyH_take (i := 4) (oi := ⟨some 79, _, _, _, _, _⟩) (v := ?_) rfl (by kernel_rfl) (by kernel_rfl) (by kernel_rfl) (fun _ _ _ h => h) (Or.inl ⟨by kernel_rfl, ?_⟩) (by assumption) ?_
  rotate_left 1
  · (intro w hSw; (try dsimp only at hSw); go_simp) <;> (with_reducible rfl)
  (try simp only [Act.put, List.setIfInBounds_toArray, List.set_cons_succ, List.set_cons_zero])
  refine wpAnyH_take (i := 5) (oi := ⟨some 80, _, _, _, _, _⟩) (v := ?_) rfl (by kernel_rfl) (by kernel_rfl) (by kernel_rfl) (fun _ _ _ h => h) (Or.inl ⟨by kernel_rfl, ?_⟩) (by assumption) ?_
  rotate_left 1
  · (intro w hSw; (try dsimp only at hSw); go_simp) <;> (with_reducible rfl)
  (try simp only [Act.put, List.setIfInBounds_toArray, List.set_cons_succ, List.set_cons_zero])
  refine wpAnyH_take (i := 6) (oi := ⟨some 81, _, _, _, _, _⟩) (v := ?_) rfl (by kernel_rfl) (by kernel_rfl) (by kernel_rfl) (fun _ _ _ h => h) (Or.inl ⟨by kernel_rfl, ?_⟩) (by assumption) ?_
  rotate_left 1
  · (intro w hSw; (try dsimp only at hSw); go_simp) <;> (with_reducible rfl)
  (try simp only [Act.put, List.setIfInBounds_toArray, List.set_cons_succ, List.set_cons_zero])
  refine wpAnyH_ready (rs := [7]) (by kernel_rfl) (by simp) ?_
  refine AllReadyH.cons (o := ⟨none, _, _, _, _, _⟩) rfl (fun K' hK => ?_) AllReadyH.nil
  have y0 : wd.cell? ⟨g4, 0, none⟩ = some (.int .i64 0) := Y9.out.cell 0
  have y1 : wd.cell? ⟨g4, 1, none⟩ = some (.slice none 0 0) := Y9.out.cell 1
  have yf0 := Y9.out.frozen 0
  have yf1 := Y9.out.frozen 1
  go_simp
  have E1 := Y9.out.put 0 (.int .i64 S.ob)
  have KP1 := Kp.boxset Y9.out (show w.heap.size ≤ g4 by have h1 := HG2.out; have h2 := HG4.out; omega) 0 (.int .i64 S.ob)
  have KP2 := Kp.boxset E1 (show w.heap.size ≤ g4 by have h1 := HG2.out; have h2 := HG4.out; omega) 1 (.slice A8 n8 c8)
  replace Y9 := hide (E1.put 1 (.slice A8 n8 c8))
  replace X9 := hide ((X9.out.far H24.out (.int .i64 S.ob) (i := 0)).far H24.out (.slice A8 n8 c8) (i := 1))
  replace Z9 := hide ((Z9.out.far H114.out.symm (.int .i64 S.ob) (i := 0)).far H114.out.symm (.slice A8 n8 c8) (i := 1))
  replace R9 := hide (show ((wd.setCell ⟨g4, 0, none⟩ (.int .i64 S.ob)).setCell ⟨g4, 1, none⟩ (.slice A8 n8 c8)).cell? ⟨b, off + ci * 2, none⟩ = some (.int .i64 f6) by rw [cell_far HB4.out, cell_far HB4.out]; exact R9.out)
  replace D9 := hide ((D9.out.kp KP1 (by decide) (by decide)).kp KP2 (by decide) (by decide))
  replace K9 := hide (bset (bset K9.out (p := ⟨g4, 0, none⟩) (by show w.heap.size ≤ g4; have h1 := HG2.out; have h2 := HG4.out; omega) (.int .i64 S.ob)) (p := ⟨g4, 1, none⟩) (by show w.heap.size ≤ g4; have h1 := HG2.out; have h2 := HG4.out; omega) (.slice A8 n8 c8))
  clear y0 y1 yf0 yf1 KP1 KP2 E1
  generalize (wd.setCell ⟨g4, 0, none⟩ (.int .i64 S.ob)).setCell ⟨g4, 1, none⟩ (.slice A8 n8 c8) = we at *
  refine hK.out _ _ ?_ (fun hHeld => ?_)
  · exact ⟨⟨Z9.out.cell 0, Z9.out.cell 1⟩, X9.out.cell 1, R9.out⟩
  clear hK K'
  (try simp only [Act.put, List.setIfInBounds_toArray, List.set_cons_succ, List.set_cons_zero])
  refine wpAnyH_take (i := 8) (oi := ⟨some 5, _, _, _, _, _⟩) (v := ?_) rfl (by kernel_rfl) (by kernel_rfl) (by kernel_rfl) (fun _ _ _ h => h) (Or.inl ⟨by kernel_rfl, ?_⟩) (by assumption) ?_
  rotate_left 1
  · (intro w hSw; (try dsimp only at hSw); go_simp) <;> (with_reducible rfl)
  (try simp only [Act.put, List.setIfInBounds_toArray, List.set_cons_succ, List.set_cons_zero])
  refine wpAnyH_take (i := 9) (oi := ⟨some 6, _, _, _, _, _⟩) (v := ?_) rfl (by kernel_rfl) (by kernel_rfl) (by kernel_rfl) (fun _ _ _ h => h) (Or.inl ⟨by kernel_rfl, ?_⟩) (by assumption) ?_
  rotate_left 1
  · (intro w hSw; (try dsimp only at hSw); go_simp) <;> (with_reducible rfl)
  (try simp only [Act.put, List.setIfInBounds_toArray, List.set_cons_succ, List.set_cons_zero])
  refine wpAnyH_done (by kernel_rfl) ?_ _
  refine NoPanic.normal ?_
  go_wp2
  refine ret_s3 (v := .slice A8 n8 c8) (g := g4) (k := 4) (o := S.ob) (er := f6) (er2 := 0) (m := 5) (m2 := 6) rfl rfl rfl rfl rfl Y9.out ?_
  exact ⟨.slice A8 n8 c8, by rw [EF.out, EO.out, E.out], D9.out.mono K.out.size, K9.out⟩
end Go.Proofs.Ytncjicggolmofaa.Sb
