import Derived.Test.YtioffnpnoohbiaaF1
import Derived.Sort.Grow
import Derived.Sort.Row
namespace Go.Proofs.Ytioffnpnoohbiaa.Rm
open Go Go.RowKit
set_option linter.unusedVariables false
set_option linter.unusedSimpArgs false
/-- a world with draws and blocks more -/
def GW (w w' : World) : Prop := ∃ q os, w' = Go.Sort.grow (w.drewN q) os
theorem GW.refl (w : World) : GW w w := ⟨0, #[], (Go.Sort.grow_empty _).symm⟩
theorem GW.alloc {w w' : World} (h : GW w w') (o : Obj) : GW w (w'.alloc o) := by
  obtain ⟨q, os, rfl⟩ := h
  exact ⟨q, os ++ #[o], by rw [Go.Sort.alloc_eq_grow, Go.Sort.grow_grow]⟩
theorem GW.drew {w w' : World} (h : GW w w') : GW w w'.drew := by
  obtain ⟨q, os, rfl⟩ := h
  exact ⟨q + 1, os, rfl⟩
theorem GW.below {w w' : World} (h : GW w w') : Below w.heap.size w w' := by
  obtain ⟨q, os, rfl⟩ := h
  refine ⟨rfl, rfl, rfl, ?_, fun k hk => ?_⟩
  · simp [Go.Sort.grow, World.drewN]
  · show (w.heap ++ os)[k]? = _
    rw [Array.getElem?_append_left hk]
theorem or_any (x y : Int) (b : Nat) (w : World) (h0 : w.cell? ⟨b, 0, none⟩ = some (.int .i64 x)) (h1 : w.cell? ⟨b, 1, none⟩ = some (.int .i64 y)) : Calls Try.prog 38 #[.slice (some ⟨b, 0, none⟩) 2 2] w fun e w' => e = .returned (.int .i64 (if x = 0 then y else x)) ∧ w = w' := by
  by_cases hx : x = 0
  · rw [if_pos hx]
    subst hx
    by_cases hy : y = 0
    · subst hy
      go_enter Try.func38, Try.ntmps38
      go_wp2
      refine wp_loop_rounds 3 ?_
      rw [rounds_succ]
      go_wp2
      rw [rounds_succ]
      go_wp2
      rw [rounds_succ]
      go_wp2
      go_ret
      exact ⟨rfl, rfl⟩
    · have hb : (y != 0) = true := bne_iff_ne.2 hy
      clear hy
      go_enter Try.func38, Try.ntmps38
      go_wp2
      refine wp_loop_rounds 2 ?_
      rw [rounds_succ]
      go_wp2
      rw [rounds_succ]
      go_wp2
      go_ret
      exact ⟨rfl, rfl⟩
  · rw [if_neg hx]
    have hb : (x != 0) = true := bne_iff_ne.2 hx
    clear hx
    go_enter Try.func38, Try.ntmps38
    go_wp2
    refine wp_loop_rounds 2 ?_
    rw [rounds_succ]
    go_wp2
    go_ret
    exact ⟨rfl, rfl⟩
set_option maxRecDepth 100000 in
set_option maxHeartbeats 8000000 in
theorem cmpr_grow (s p t q : Int) (w : World) : Calls Try.prog 30 #[.agg #[.int .i64 s, .int .i64 p], .agg #[.int .i64 t, .int .i64 q]] w fun e w' => e = .returned (.int .i64 (cmM ⟨s, p⟩ ⟨t, q⟩)) ∧ GW w w' := by
  have G := hide (((GW.refl w).alloc (.cells #[.int .i64 s, .int .i64 p] 26)).alloc (.cells #[.int .i64 t, .int .i64 q] 26))
  have K := hide (bal2 w (.cells #[.int .i64 s, .int .i64 p] 26) (.cells #[.int .i64 t, .int .i64 q] 26))
  have CM := hide (fun x y w => cmp_any x y w)
  have E := hide (show cmM ⟨s, p⟩ ⟨t, q⟩ = if cmI s t = 0 then cmI p q else cmI s t from rfl)
  have OR := hide (fun b w h0 h1 => or_any (cmI s t) (cmI p q) b w h0 h1)
  rw [← E.out] at OR
  generalize cmM ⟨s, p⟩ ⟨t, q⟩ = r at *
  have X := hide ((MB.new w s p).below (bal (brefl _) (.cells #[.int .i64 t, .int .i64 q] 26)))
  have Y := hide (MB.new (w.alloc (.cells #[.int .i64 s, .int .i64 p] 26)) t q)
  obtain ⟨g1, hg1⟩ : ∃ g, g = w.heap.size := ⟨_, rfl⟩
  obtain ⟨g2, hg2⟩ : ∃ g, g = (w.alloc (.cells #[.int .i64 s, .int .i64 p] 26)).heap.size := ⟨_, rfl⟩
  have hg3 : g2 = g1 + 1 := by rw [hg2, hg1, alloc_size']
  have HG := hide hg3
  have HH := hide hg1
  rw [← hg1] at X
  rw [← hg2] at Y
  clear E hg1 hg2 hg3
  go_enter Try.func30, Try.ntmps30
  go_upto_region 1 with fail
  rw [← HH.out, ← HG.out]
  generalize (w.alloc (.cells #[.int .i64 s, .int .i64 p] 26)).alloc (.cells #[.int .i64 t, .int .i64 q] 26) = w1 at *
  replace K := hide (show Below w.heap.size w w1.drew from btrans K.out (below_drewN (brefl _) 1))
  replace G := hide G.out.drew
  replace X := hide (X.out.below (show Below w1.heap.size w1 w1.drew from below_drewN (brefl _) 1))
  replace Y := hide (Y.out.below (show Below w1.heap.size w1 w1.drew from below_drewN (brefl _) 1))
  refine wp_region_noPanic ?_
  refine wp_region_held_drew (S := (fun W => W.cell? ⟨g1, 0, none⟩ = some (.int .i64 s) ∧ W.cell? ⟨g1, 1, none⟩ = some (.int .i64 p) ∧ W.cell? ⟨g2, 0, none⟩ = some (.int .i64 t) ∧ W.cell? ⟨g2, 1, none⟩ = some (.int .i64 q))) (by kernel_rfl) ?_ (fun hHeld => ?_)
  · exact ⟨(MB.cells X.out).1, (MB.cells X.out).2, (MB.cells Y.out).1, (MB.cells Y.out).2⟩
  generalize w1.drew = w2 at *
  refine wpAnyH_take (i := 0) (oi := ⟨some 5, _, _, _, _, _⟩) (v := ?_) rfl (by kernel_rfl) (by kernel_rfl) (by kernel_rfl) (fun _ _ _ h => h) (Or.inl ⟨by kernel_rfl, ?_⟩) (by assumption) ?_
  rotate_left 1
  · (intro w hSw; (try dsimp only at hSw); go_simp) <;> (with_reducible rfl)
  (try simp only [Act.put, List.setIfInBounds_toArray, List.set_cons_succ, List.set_cons_zero])
  refine wpAnyH_take (i := 1) (oi := ⟨some 6, _, _, _, _, _⟩) (v := ?_) rfl (by kernel_rfl) (by kernel_rfl) (by kernel_rfl) (fun _ _ _ h => h) (Or.inl ⟨by kernel_rfl, ?_⟩) (by assumption) ?_
  rotate_left 1
  · (intro w hSw; (try dsimp only at hSw); go_simp) <;> (with_reducible rfl)
  (try simp only [Act.put, List.setIfInBounds_toArray, List.set_cons_succ, List.set_cons_zero])
  refine wpAnyH_take (i := 2) (oi := ⟨some 7, _, _, _, _, _⟩) (v := ?_) rfl (by kernel_rfl) (by kernel_rfl) (by kernel_rfl) (fun _ _ _ h => h) (Or.inl ⟨by kernel_rfl, ?_⟩) (by assumption) ?_
  rotate_left 1
  · (intro w hSw; (try dsimp only at hSw); go_simp) <;> (with_reducible rfl)
  (try simp only [Act.put, List.setIfInBounds_toArray, List.set_cons_succ, List.set_cons_zero])
  refine wpAnyH_take (i := 3) (oi := ⟨some 8, _, _, _, _, _⟩) (v := ?_) rfl (by kernel_rfl) (by kernel_rfl) (by kernel_rfl) (fun _ _ _ h => h) (Or.inl ⟨by kernel_rfl, ?_⟩) (by assumption) ?_
  rotate_left 1
  · (intro w hSw; (try dsimp only at hSw); go_simp) <;> (with_reducible rfl)
  (try simp only [Act.put, List.setIfInBounds_toArray, List.set_cons_succ, List.set_cons_zero])
  refine wpAnyH_take (i := 5) (oi := ⟨some 10, _, _, _, _, _⟩) (v := ?_) rfl (by kernel_rfl) (by kernel_rfl) (by kernel_rfl) (fun _ _ _ h => h) (Or.inl ⟨by kernel_rfl, ?_⟩) (by assumption) ?_
  rotate_left 1
  · (intro w hSw; (try dsimp only at hSw); go_simp) <;> (with_reducible rfl)
  (try simp only [Act.put, List.setIfInBounds_toArray, List.set_cons_succ, List.set_cons_zero])
  refine wpAnyH_take (i := 6) (oi := ⟨some 11, _, _, _, _, _⟩) (v := ?_) rfl (by kernel_rfl) (by kernel_rfl) (by kernel_rfl) (fun _ _ _ h => h) (Or.inl ⟨by kernel_rfl, ?_⟩) (by assumption) ?_
  rotate_left 1
  · (intro w hSw; (try dsimp only at hSw); go_simp) <;> (with_reducible rfl)
  (try simp only [Act.put, List.setIfInBounds_toArray, List.set_cons_succ, List.set_cons_zero])
  refine wpAnyH_take (i := 7) (oi := ⟨some 12, _, _, _, _, _⟩) (v := ?_) rfl (by kernel_rfl) (by kernel_rfl) (by kernel_rfl) (fun _ _ _ h => h) (Or.inl ⟨by kernel_rfl, ?_⟩) (by assumption) ?_
  rotate_left 1
  · (intro w hSw; (try dsimp only at hSw); go_simp) <;> (with_reducible rfl)
  (try simp only [Act.put, List.setIfInBounds_toArray, List.set_cons_succ, List.set_cons_zero])
  refine wpAnyH_take (i := 8) (oi := ⟨some 13, _, _, _, _, _⟩) (v := ?_) rfl (by kernel_rfl) (by kernel_rfl) (by kernel_rfl) (fun _ _ _ h => h) (Or.inl ⟨by kernel_rfl, ?_⟩) (by assumption) ?_
  rotate_left 1
  · (intro w hSw; (try dsimp only at hSw); go_simp) <;> (with_reducible rfl)
  (try simp only [Act.put, List.setIfInBounds_toArray, List.set_cons_succ, List.set_cons_zero])
  refine wpAnyH_ready (rs := [4]) (by kernel_rfl) (by simp) ?_
  refine AllReadyH.cons (o := ⟨some 9, _, _, _, _, _⟩) rfl (fun K' hK => ?_) AllReadyH.nil
  go_simp
  refine (CM.out _ _ _).mono ?_
  rintro e wc ⟨rfl, rfl⟩
  refine hK.out _ _ ?_ (fun hHeld => ?_)
  · exact ⟨(MB.cells X.out).1, (MB.cells X.out).2, (MB.cells Y.out).1, (MB.cells Y.out).2⟩
  clear hK K'
  (try simp only [Act.put, List.setIfInBounds_toArray, List.set_cons_succ, List.set_cons_zero])
  refine wpAnyH_ready (rs := [9]) (by kernel_rfl) (by simp) ?_
  refine AllReadyH.cons (o := ⟨some 14, _, _, _, _, _⟩) rfl (fun K' hK => ?_) AllReadyH.nil
  go_simp
  refine (CM.out _ _ _).mono ?_
  rintro e wc ⟨rfl, rfl⟩
  refine hK.out _ _ ?_ (fun hHeld => ?_)
  · exact ⟨(MB.cells X.out).1, (MB.cells X.out).2, (MB.cells Y.out).1, (MB.cells Y.out).2⟩
  clear hK K'
  (try simp only [Act.put, List.setIfInBounds_toArray, List.set_cons_succ, List.set_cons_zero])
  refine wpAnyH_ready (rs := [10]) (by kernel_rfl) (by simp) ?_
  refine AllReadyH.cons (o := ⟨some 15, _, _, _, _, _⟩) rfl (fun K' hK => ?_) AllReadyH.nil
  go_simp
  have Z := hide (Box.new w2 3 #[.int .i64 (cmI s t), .int .i64 (cmI p q)])
  have M := bal (brefl w2) (.cells #[.int .i64 (cmI s t), .int .i64 (cmI p q)] 3)
  replace K := hide (btrans K.out M)
  replace X := hide (X.out.below M)
  replace Y := hide (Y.out.below M)
  replace G := hide (G.out.alloc (.cells #[.int .i64 (cmI s t), .int .i64 (cmI p q)] 3))
  clear M
  obtain ⟨b3, hb3⟩ : ∃ g, g = w2.heap.size := ⟨_, rfl⟩
  rw [← hb3] at Z ⊢
  clear hb3
  generalize w2.alloc (.cells #[.int .i64 (cmI s t), .int .i64 (cmI p q)] 3) = w3 at *
  refine hK.out _ _ ?_ (fun hHeld => ?_)
  · exact ⟨(MB.cells X.out).1, (MB.cells X.out).2, (MB.cells Y.out).1, (MB.cells Y.out).2⟩
  clear hK K'
  (try simp only [Act.put, List.setIfInBounds_toArray, List.set_cons_succ, List.set_cons_zero])
  refine wpAnyH_ready (rs := [11]) (by kernel_rfl) (by simp) ?_
  refine AllReadyH.cons (o := ⟨some 16, _, _, _, _, _⟩) rfl (fun K' hK => ?_) AllReadyH.nil
  go_simp
  refine (OR.out b3 _ (Box.cell Z.out 0) (Box.cell Z.out 1)).mono ?_
  rintro e wd ⟨rfl, rfl⟩
  refine hK.out _ _ ?_ (fun hHeld => ?_)
  · exact ⟨(MB.cells X.out).1, (MB.cells X.out).2, (MB.cells Y.out).1, (MB.cells Y.out).2⟩
  clear hK K'
  (try simp only [Act.put, List.setIfInBounds_toArray, List.set_cons_succ, List.set_cons_zero])
  refine wpAnyH_take (i := 12) (oi := ⟨some 4, _, _, _, _, _⟩) (v := ?_) rfl (by kernel_rfl) (by kernel_rfl) (by kernel_rfl) (fun _ _ _ h => h) (Or.inl ⟨by kernel_rfl, ?_⟩) (by assumption) ?_
  rotate_left 1
  · (intro w hSw; (try dsimp only at hSw); go_simp) <;> (with_reducible rfl)
  (try simp only [Act.put, List.setIfInBounds_toArray, List.set_cons_succ, List.set_cons_zero])
  refine wpAnyH_done (by kernel_rfl) ?_ _
  refine NoPanic.normal ?_
  go_wp2
  go_ret
  exact ⟨rfl, G.out⟩
theorem cmpr_any (s p t q : Int) (w : World) : Calls Try.prog 30 #[.agg #[.int .i64 s, .int .i64 p], .agg #[.int .i64 t, .int .i64 q]] w fun e w' => e = .returned (.int .i64 (cmM ⟨s, p⟩ ⟨t, q⟩)) ∧ Below w.heap.size w w' :=
  (cmpr_grow s p t q w).mono fun _ _ ⟨h, g⟩ => ⟨h, g.below⟩
end Go.Proofs.Ytioffnpnoohbiaa.Rm
