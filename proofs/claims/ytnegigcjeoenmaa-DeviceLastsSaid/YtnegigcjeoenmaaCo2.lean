import Derived.Test.YtnegigcjeoenmaaCo1
namespace Go.Proofs.Ytnegigcjeoenmaa.Dv
open Go Go.RowKit
set_option linter.unusedVariables false
set_option maxHeartbeats 2000000 in
theorem carry_end (B g h : Nat) (D : Dev) (i b : Int) (x : By) (w : World) (hd : DevAt B w g D) (hr : ReqAt w h (i, 2, b, x)) (hBg : B ≤ g) (hB : B ≤ w.heap.size) (hx : x.length ≤ 1000) (ha : Asc D.ca) (hl : D.ca.length ≤ 1000) (hm : hitP D.ca b = false) (he : caP D.ca b = D.ca.length) :
    Calls Try.prog 52 #[.pointer (some ⟨g, 0, none⟩), .pointer (some ⟨h, 0, none⟩)] w (TurnR B g { D with ca := D.ca ++ [(b, x)] } w) := by
  obtain ⟨u, hY, hu⟩ := hr
  obtain ⟨Au, cu, rfl⟩ := hu.form
  have CB := hide (fun W (hb : Below w.heap.size w W) => clone_any _ x W (hu.is.below hb) hx)
  unfold ByR at CB
  have CP := hide (fun (W : World) (v : Value) (h1 : DevAt B W g D) (h2 : OwnBy W v x) => put_end B g D b v x W h1 hBg h2 ha hl hm he)
  unfold TurnR at CP
  have Y := hide hY
  have DV := hide hd
  have y1 := hY.cell 1
  have SS := hide (show (fun W => W.cell? ⟨h, 2, none⟩ = some (.int .i64 b) ∧ W.cell? ⟨h, 3, none⟩ = some (.slice Au x.length cu)) w from ⟨hY.cell 2, hY.cell 3⟩)
  simp at y1
  clear hd hY hu ha hm he
  go_enter Try.func52, Try.ntmps52
  go_wp2_with fail
  refine wp_region_noPanic ?_
  refine wp_region_held_drew (S := (fun W => W.cell? ⟨h, 2, none⟩ = some (.int .i64 b) ∧ W.cell? ⟨h, 3, none⟩ = some (.slice Au x.length cu))) (by kernel_rfl) ?_ (fun hHeld => ?_)
  · exact SS.out
  refine wpAnyH_take (i := 0) (oi := ⟨some 26, _, _, _, _, _⟩) (v := ?_) rfl (by kernel_rfl) (by kernel_rfl) (by kernel_rfl) (fun _ _ _ h => h) (Or.inl ⟨by kernel_rfl, ?_⟩) (by assumption) ?_
  rotate_left 1
  · (intro w hSw; (try dsimp only at hSw); go_simp) <;> (with_reducible rfl)
  (try simp only [Act.put, List.setIfInBounds_toArray, List.set_cons_succ, List.set_cons_zero])
  refine wpAnyH_take (i := 1) (oi := ⟨some 27, _, _, _, _, _⟩) (v := ?_) rfl (by kernel_rfl) (by kernel_rfl) (by kernel_rfl) (fun _ _ _ h => h) (Or.inl ⟨by kernel_rfl, ?_⟩) (by assumption) ?_
  rotate_left 1
  · (intro w hSw; (try dsimp only at hSw); go_simp) <;> (with_reducible rfl)
  (try simp only [Act.put, List.setIfInBounds_toArray, List.set_cons_succ, List.set_cons_zero])
  refine wpAnyH_take (i := 2) (oi := ⟨some 28, _, _, _, _, _⟩) (v := ?_) rfl (by kernel_rfl) (by kernel_rfl) (by kernel_rfl) (fun _ _ _ h => h) (Or.inl ⟨by kernel_rfl, ?_⟩) (by assumption) ?_
  rotate_left 1
  · (intro w hSw; (try dsimp only at hSw); go_simp) <;> (with_reducible rfl)
  (try simp only [Act.put, List.setIfInBounds_toArray, List.set_cons_succ, List.set_cons_zero])
  refine wpAnyH_take (i := 3) (oi := ⟨some 29, _, _, _, _, _⟩) (v := ?_) rfl (by kernel_rfl) (by kernel_rfl) (by kernel_rfl) (fun _ _ _ h => h) (Or.inl ⟨by kernel_rfl, ?_⟩) (by assumption) ?_
  rotate_left 1
  · (intro w hSw; (try dsimp only at hSw); go_simp) <;> (with_reducible rfl)
  (try simp only [Act.put, List.setIfInBounds_toArray, List.set_cons_succ, List.set_cons_zero])
  refine wpAnyH_take (i := 4) (oi := ⟨some 30, _, _, _, _, _⟩) (v := ?_) rfl (by kernel_rfl) (by kernel_rfl) (by kernel_rfl) (fun _ _ _ h => h) (Or.inl ⟨by kernel_rfl, ?_⟩) (by assumption) ?_
  rotate_left 1
  · (intro w hSw; (try dsimp only at hSw); go_simp) <;> (with_reducible rfl)
  (try simp only [Act.put, List.setIfInBounds_toArray, List.set_cons_succ, List.set_cons_zero])
  refine wpAnyH_take (i := 5) (oi := ⟨some 31, _, _, _, _, _⟩) (v := ?_) rfl (by kernel_rfl) (by kernel_rfl) (by kernel_rfl) (fun _ _ _ h => h) (Or.inl ⟨by kernel_rfl, ?_⟩) (by assumption) ?_
  rotate_left 1
  · (intro w hSw; (try dsimp only at hSw); go_simp) <;> (with_reducible rfl)
  (try simp only [Act.put, List.setIfInBounds_toArray, List.set_cons_succ, List.set_cons_zero])
  refine wpAnyH_take (i := 6) (oi := ⟨some 32, _, _, _, _, _⟩) (v := ?_) rfl (by kernel_rfl) (by kernel_rfl) (by kernel_rfl) (fun _ _ _ h => h) (Or.inl ⟨by kernel_rfl, ?_⟩) (by assumption) ?_
  rotate_left 1
  · (intro w hSw; (try dsimp only at hSw); go_simp) <;> (with_reducible rfl)
  (try simp only [Act.put, List.setIfInBounds_toArray, List.set_cons_succ, List.set_cons_zero])
  refine wpAnyH_take (i := 7) (oi := ⟨some 33, _, _, _, _, _⟩) (v := ?_) rfl (by kernel_rfl) (by kernel_rfl) (by kernel_rfl) (fun _ _ _ h => h) (Or.inl ⟨by kernel_rfl, ?_⟩) (by assumption) ?_
  rotate_left 1
  · (intro w hSw; (try dsimp only at hSw); go_simp) <;> (with_reducible rfl)
  (try simp only [Act.put, List.setIfInBounds_toArray, List.set_cons_succ, List.set_cons_zero])
  refine wpAnyH_take (i := 8) (oi := ⟨some 34, _, _, _, _, _⟩) (v := ?_) rfl (by kernel_rfl) (by kernel_rfl) (by kernel_rfl) (fun _ _ _ h => h) (Or.inl ⟨by kernel_rfl, ?_⟩) (by assumption) ?_
  rotate_left 1
  · (intro w hSw; (try dsimp only at hSw); go_simp) <;> (with_reducible rfl)
  (try simp only [Act.put, List.setIfInBounds_toArray, List.set_cons_succ, List.set_cons_zero])
  refine wpAnyH_ready (rs := [9]) (by kernel_rfl) (by simp) ?_
  refine AllReadyH.cons (o := _) rfl (fun K' hK => ?_) AllReadyH.nil
  go_simp
  refine (CB.out _ (below_drew (brefl _))).mono ?_
  rintro e w1 ⟨v1, rfl, ho, hb⟩
  obtain ⟨A1, d1, rfl⟩ := ho.form
  have HU1 := hide ho
  have K1 := hide (btrans (below_drew (brefl w)) hb)
  replace Y := hide (Y.out.below K1.out)
  replace DV := hide (DV.out.below K1.out)
  replace SS := hide (show (fun W => W.cell? ⟨h, 2, none⟩ = some (.int .i64 b) ∧ W.cell? ⟨h, 3, none⟩ = some (.slice Au x.length cu)) w1 from ⟨Y.out.cell 2, Y.out.cell 3⟩)
  clear ho hb
  refine hK.out _ _ ?_ (fun hHeld => ?_)
  · exact SS.out
  clear hK K'
  (try simp only [Act.put, List.setIfInBounds_toArray, List.set_cons_succ, List.set_cons_zero])
  refine wpAnyH_ready (rs := [10]) (by kernel_rfl) (by simp) ?_
  refine AllReadyH.cons (o := _) rfl (fun K' hK => ?_) AllReadyH.nil
  go_simp
  refine (CP.out _ _ DV.out HU1.out).mono ?_
  rintro e w2 ⟨rfl, hdv, hkp⟩
  have DV2 := hide hdv
  have HK := hide hkp
  have HGX := hide (DV.out.choose_spec.choose_spec.choose_spec.1)
  replace Y := hide (Y.out.kpg hkp (Y.out.ne HGX.out (by decide)) (by decide) (by decide))
  replace SS := hide (show (fun W => W.cell? ⟨h, 2, none⟩ = some (.int .i64 b) ∧ W.cell? ⟨h, 3, none⟩ = some (.slice Au x.length cu)) w2 from ⟨Y.out.cell 2, Y.out.cell 3⟩)
  clear hdv hkp
  refine hK.out _ _ ?_ (fun hHeld => ?_)
  · exact SS.out
  clear hK K'
  (try simp only [Act.put, List.setIfInBounds_toArray, List.set_cons_succ, List.set_cons_zero])
  refine wpAnyH_done (by kernel_rfl) ?_ _
  refine NoPanic.normal ?_
  go_wp2
  go_end0
  exact ⟨rfl, DV2.out, (KpG.of_below K1.out hB).trans HK.out⟩
end Go.Proofs.Ytnegigcjeoenmaa.Dv
