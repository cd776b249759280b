import Derived.Test.YtflplldamefhoaaFn6
namespace Go.Proofs.Ytflplldamefhoaa.Bd
open Go Go.RowKit
set_option linter.unusedVariables false
/-- a valid zone of one's own, of the set that S describes -/
def ZV1 (p : Pm) (S : Int → Prop) (w : World) (e : Ending) (w' : World) : Prop := ∃ v' L', e = .returned (.agg (znC p v')) ∧ OwZ w.heap.size w' v' L' ∧ Vd p L' ∧ (∀ x, InS L' x ↔ S x) ∧ Below w.heap.size w w'
theorem eq_in {p : Pm} {L : Fl} (V : Vd p L) {k : Nat} (hk : k < 5) {x0 : Int} (h : dn k x0 ∈ L k) : Vd p (upd L k ((L k).filter (· ≠ dn k x0))) ∧ ∀ x, InS (upd L k ((L k).filter (· ≠ dn k x0))) x ↔ InS L x ∧ dn k x ≠ dn k x0 := by
  obtain ⟨V2, hS⟩ := vd_out V hk (f := dn k x0) (fil_srt (V.srt k hk) _) (fun g => fil_mem)
  refine ⟨V2, fun x => ?_⟩
  rw [hS]
  exact ⟨fun ⟨a, b⟩ => ⟨a, fun e => b ⟨h, e⟩⟩, fun ⟨a, b⟩ => ⟨a, fun e => b e.2⟩⟩
theorem wr3 {k : Nat} (hk : k < 5) : IntKind.i64.wrap ((2 : Int) ^ k) = bw k := by rcases cases5 hk with rfl | rfl | rfl | rfl | rfl <;> decide
theorem dn_pos {k : Nat} {x : Int} (h0 : 0 ≤ x) : 0 ≤ dn k x := by
  have h1 := Int.emod_add_mul_ediv x (bw k)
  have h2 := Int.mul_nonneg (Int.le_of_lt (bw_pos k)) (Int.ediv_nonneg h0 (Int.le_of_lt (bw_pos k)))
  unfold dn; omega
theorem box_lt {w w' : World} {g B : Nat} {t : TypeId} {cs : Array Value} (h : Box w g t cs) (hg : g < B) (hb : Below B w w') : Box w' g t cs := (hb.block g hg).trans h
theorem setRow_new (w : World) (c c' : Array Value) (t : TypeId) : (w.alloc (.cells c t)).setRow w.heap.size c' = w.alloc (.cells c' t) := by
  simp only [World.setRow, World.alloc]
  congr 1
  apply Array.ext_getElem?
  intro i
  rw [Array.getElem?_modify]
  by_cases h : w.heap.size = i
  · subst h
    simp
  · have h' : ¬ i = w.heap.size := fun e => h e.symm
    simp [h, h', Array.getElem?_push]
set_option maxHeartbeats 4000000 in
set_option maxRecDepth 100000 in
theorem without_any (p : Pm) (v : Nat → Value) (L : Fl) (x0 : Int) (fr k : Nat) (hfr : fr < 5) (hk : k ≤ fr) (w : World) (hp : par p) (hr : RdZ w v L) (V : Vd p L) (hin : dn fr x0 ∈ L fr) :
    Calls Try.prog 53 #[.agg (znC p v), .int .i64 x0, .int .i64 fr, .int .i64 k] w (ZV1 p (fun x => InS L x ∧ dn k x ≠ dn k x0) w) := by
  unfold ZV1
  obtain ⟨W0, hW0⟩ : ∃ W0, W0 = (w.alloc (.cells (znC p v) 25)).alloc (.cells (znC p0 nv) 25) := ⟨_, rfl⟩
  have K0 := hide (show Below w.heap.size w W0 by rw [hW0]; exact bal (bal (brefl w) _) _)
  have X := hide (show Box W0 w.heap.size 25 (znC p v) by rw [hW0]; exact (Box.new w 25 _).more _)
  have Y := hide (show Box W0 (w.heap.size + 1) 25 (znC p0 nv) by rw [hW0]; exact Box.new2 w _ 25 _)
  have CL := hide (clone_any p v L W0 (hr.below K0.out) (fun j hj => by have := lst_len hp V.toLst hj; omega))
  unfold ZR1 at CL
  have hbl := blk_bd hp (V.blk fr hfr _ hin)
  have hx0 : 0 ≤ x0 ∧ x0 < 256 := by have := dn_le fr x0; have := dn_lt fr x0; omega
  have HX0 := hide hx0
  have F0 := hide (fun w1 => first_any x0 fr hfr (by unfold i64r; omega) w1)
  have HV := hide V
  have HI := hide hin
  have HP := hide hp
  have HBL := hide (V.blk fr hfr _ hin)
  have HFR := hide hfr
  have HK := hide hk
  clear hr V hin hbl hx0 hp hfr hk
  go_enter Try.func53, Try.ntmps53
  go_upto_region 1 with fail
  rw [znC0, ← hW0]
  have HB := hide (show w.heap.size ≤ W0.heap.size from K0.out.size)
  clear hW0
  obtain ⟨B0, hB0⟩ : ∃ B0, B0 = W0.heap.size := ⟨_, rfl⟩
  rw [← hB0] at HB CL
  have HB0 := hide hB0
  have HY := hide (show w.heap.size + 1 < B0 by rw [hB0]; exact Y.out.lt)
  clear hB0
  obtain ⟨g, hg⟩ : ∃ g, g = w.heap.size := ⟨_, rfl⟩
  rw [← hg] at X Y HY ⊢
  have HG := hide hg
  clear hg
  go_upto_region 2 with (first | (refine wpList_load_row rfl 25 _ rfl g rfl 25 (znC p v) (0, 0) _ X.out Try.underlying25 rfl (by kernel_rfl) ?_) | (go_at_call 55; refine CL.out.mono ?_; rintro e w1 ⟨v1, rfl, o1, b1⟩) | (refine wpList_store_row rfl 25 _ _ rfl w1.heap.size (znC p v1) rfl rfl 25 (znC p0 nv) (Box.new w1 25 _) (by kernel_rfl) rfl (one_zone o1.rd) ?_))
  have e2 : (w1.alloc (.cells #[.int .i64 0, .int .i64 0, .int .i64 0, .int .i64 0, .int .i64 0, .slice none 0 0, .slice none 0 0, .slice none 0 0, .slice none 0 0, .slice none 0 0] 25)).setRow w1.heap.size (znC p v1) = w1.alloc (.cells (znC p v1) 25) := setRow_new w1 _ _ 25
  rw [e2]
  obtain ⟨g2, hg2⟩ : ∃ g2, g2 = w1.heap.size := ⟨_, rfl⟩
  have M := bal (brefl w1) (.cells (znC p v1) 25)
  have Z := hide (show Box (w1.alloc (.cells (znC p v1) 25)) g2 25 (znC p v1) by rw [hg2]; exact Box.new w1 25 _)
  have O := hide (o1.below M)
  have Y1 := hide ((Y.out.below (by rw [← HB0.out]; exact b1)).below M)
  have K1 := hide (btrans (btrans K0.out (by rw [← HB0.out]; exact b1)) M)
  have G2 := hide (show B0 ≤ g2 by rw [hg2, HB0.out]; exact (by rw [← HB0.out]; have := b1.size; rw [HB0.out] at *; exact this))
  rw [← hg2]
  clear e2 M o1 b1 X Y CL K0
  generalize w1.alloc (.cells (znC p v1) 25) = w2 at *
  clear hg2
  have lf := lst_len HP.out HV.out.toLst HFR.out
  have RM := hide (remove_any B0 g2 p v1 L (dn fr x0) fr HFR.out w2 Z.out O.out G2.out (HV.out.srt fr HFR.out) (by omega))
  rw [decide_eq_true HI.out] at RM
  have EI := hide (eq_in HV.out HFR.out HI.out)
  generalize upd L fr ((L fr).filter (· ≠ dn fr x0)) = L1 at *
  clear lf Z O
  go_wp2_with (first | (go_at_call 60; refine (F0.out _).mono ?_; rintro e w' ⟨rfl, rfl⟩) | (go_at_call 59; refine RM.out.mono ?_; rintro e w3 ⟨rfl, ⟨⟨v3, X3, O3⟩, hb3⟩⟩))
  have Y3 := hide (box_lt Y1.out HY.out hb3)
  have K3 := hide (K1.out.trans (hb3.mono HB.out))
  have Z3 := hide X3
  have O3' := hide O3
  clear Y1 K1 RM hb3 X3 O3
  go_loopw [2] (fun a wr => ∃ (k' : Nat) (v' : Nat → Value) (L' : Fl), k ≤ k' ∧ k' ≤ fr ∧ a = .int .i64 k' ∧ Hid (Box wr g2 25 (znC p v')) ∧ Hid (OwZ B0 wr v' L') ∧ Hid (Vd p L') ∧ Hid (∀ x, InS L' x ↔ InS L x ∧ dn k' x ≠ dn k' x0) ∧ Hid (Box wr (g + 1) 25 (znC p0 nv)) ∧ Hid (Below w.heap.size w wr)) (fun a _ => (intOf a).toNat)
  case atStart => exact ⟨fr, v3, L1, HK.out, Nat.le_refl _, rfl, Z3, O3', hide EI.out.1, hide EI.out.2, Y3, K3⟩
  case round =>
    clear Z3 O3' EI Y3 K3
    obtain ⟨k', v', L', hk1, hk2, rfl, X, O, V, HS, Y, K⟩ := hrel
    have h5 := HFR.out
    by_cases hlt : k < k'
    · obtain ⟨q, rfl⟩ : ∃ q, k' = q + 1 := ⟨k' - 1, by omega⟩
      have hd : decide ((k : Int) < ((q + 1 : Nat) : Int)) = true := decide_eq_true (by omega)
      have hd2 : ((q + 1 : Nat) : Int) - 1 = (q : Int) := by omega
      have ST := hide (wo_step V.out (k := q) (by omega) HFR.out (by omega) HI.out HBL.out HS.out)
      have bb := bud_up (k := q) (by omega) (dn_mod q x0)
      have FS := hide (fun w1 => first_any x0 q (by omega) (by have := HX0.out; unfold i64r; omega) w1)
      have hdn : 0 ≤ dn q x0 ∧ dn q x0 < 256 := by have := HX0.out; have := dn_le q x0; exact ⟨dn_pos (by omega), by omega⟩
      have hx := xor_bud (k := q) (by omega) (dn q x0) (by omega) (by omega) (dn_mod q x0)
      have hw := wr2 (show q < 5 by omega)
      have hw3 := wr3 (show q < 5 by omega)
      have ln := lst_len HP.out V.out.toLst (show q < 5 by omega)
      have IN := hide (insert_any B0 g2 p v' L' (bud q (dn q x0)) q (by omega) wr.drew (X.out.below (below_drewN (brefl _) 1)) (O.out.below (below_drewN (brefl _) 1)) G2.out (V.out.srt q (by omega)) (by omega))
      generalize upd L' q (ins (L' q) (bud q (dn q x0))) = L2 at *
      generalize hd0 : dn q x0 = d0 at *
      have HD0 := hide hd0
      clear hd0
      clear X O hdn ln bb
      go_wp2
      refine wp_region_noPanic ?_
      refine wp_region_held_drew (S := (fun _ => True)) (by kernel_rfl) ?_ (fun hHeld => ?_)
      · trivial
      refine wpAnyH_take (i := 0) (oi := ⟨some 22, _, _, _, _, _⟩) (v := ?_) rfl (by kernel_rfl) (by kernel_rfl) (by kernel_rfl) (fun _ _ _ h => h) (Or.inl ⟨by kernel_rfl, ?_⟩) (by assumption) ?_
      rotate_left 1
      · (intro w hSw; (try dsimp only at hSw); go_simp) <;> (with_reducible rfl)
      (try simp only [Act.put, List.setIfInBounds_toArray, List.set_cons_succ, List.set_cons_zero])
      refine wpAnyH_take (i := 1) (oi := ⟨some 23, _, _, _, _, _⟩) (v := ?_) rfl (by kernel_rfl) (by kernel_rfl) (by kernel_rfl) (fun _ _ _ h => h) (Or.inl ⟨by kernel_rfl, ?_⟩) (by assumption) ?_
      rotate_left 1
      · (intro w hSw; (try dsimp only at hSw); go_simp) <;> (with_reducible rfl)
      (try simp only [Act.put, List.setIfInBounds_toArray, List.set_cons_succ, List.set_cons_zero])
      refine wpAnyH_take (i := 3) (oi := ⟨some 25, _, _, _, _, _⟩) (v := ?_) rfl (by kernel_rfl) (by kernel_rfl) (by kernel_rfl) (fun _ _ _ h => h) (Or.inl ⟨by kernel_rfl, ?_⟩) (by assumption) ?_
      rotate_left 1
      · (intro w hSw; (try dsimp only at hSw); go_simp) <;> (with_reducible rfl)
      (try simp only [Act.put, List.setIfInBounds_toArray, List.set_cons_succ, List.set_cons_zero])
      refine wpAnyH_take (i := 4) (oi := ⟨some 26, _, _, _, _, _⟩) (v := ?_) rfl (by kernel_rfl) (by kernel_rfl) (by kernel_rfl) (fun _ _ _ h => h) (Or.inl ⟨by kernel_rfl, ?_⟩) (by assumption) ?_
      rotate_left 1
      · (intro w hSw; (try dsimp only at hSw); go_simp) <;> (with_reducible rfl)
      (try simp only [Act.put, List.setIfInBounds_toArray, List.set_cons_succ, List.set_cons_zero])
      refine wpAnyH_take (i := 6) (oi := ⟨some 28, _, _, _, _, _⟩) (v := ?_) rfl (by kernel_rfl) (by kernel_rfl) (by kernel_rfl) (fun _ _ _ h => h) (Or.inl ⟨by kernel_rfl, ?_⟩) (by assumption) ?_
      rotate_left 1
      · (intro w hSw; (try dsimp only at hSw); go_simp) <;> (with_reducible rfl)
      (try simp only [Act.put, List.setIfInBounds_toArray, List.set_cons_succ, List.set_cons_zero])
      refine wpAnyH_ready (rs := [2]) (by kernel_rfl) (by simp) ?_
      refine AllReadyH.cons (o := _) rfl (fun K' hK => ?_) AllReadyH.nil
      go_simp
      refine (FS.out _).mono ?_
      rintro e w' ⟨rfl, rfl⟩
      refine hK.out _ _ ?_ (fun hHeld => ?_)
      · trivial
      clear hK K'
      (try simp only [Act.put, List.setIfInBounds_toArray, List.set_cons_succ, List.set_cons_zero])
      refine wpAnyH_take (i := 5) (oi := ⟨some 27, _, _, _, _, _⟩) (v := ?_) rfl (by kernel_rfl) (by kernel_rfl) (by kernel_rfl) (fun _ _ _ h => h) (Or.inl ⟨by kernel_rfl, ?_⟩) (by assumption) ?_
      rotate_left 1
      · (intro w hSw; (try dsimp only at hSw); go_simp) <;> (with_reducible rfl)
      (try simp only [Act.put, List.setIfInBounds_toArray, List.set_cons_succ, List.set_cons_zero])
      refine wpAnyH_ready (rs := [7]) (by kernel_rfl) (by simp) ?_
      refine AllReadyH.cons (o := _) rfl (fun K' hK => ?_) AllReadyH.nil
      go_simp
      refine IN.out.mono ?_
      rintro e w5 ⟨rfl, ⟨⟨v5, X5, O5⟩, hb5⟩⟩
      refine hK.out _ _ ?_ (fun hHeld => ?_)
      · trivial
      clear hK K'
      (try simp only [Act.put, List.setIfInBounds_toArray, List.set_cons_succ, List.set_cons_zero])
      refine wpAnyH_done (by kernel_rfl) ?_ _
      refine NoPanic.normal ?_
      have Y5 := hide (box_lt (Y.out.below (below_drewN (brefl _) 1)) HY.out hb5)
      have K5 := hide ((btrans K.out (below_drewN (brefl _) 1)).trans (hb5.mono HB.out))
      go_wp2
      go_roundw
      case rel => exact ⟨q, v5, L2, by omega, by omega, rfl, hide X5, hide O5, hide ST.out.1, hide (by rw [HD0.out]; exact ST.out.2), Y5, K5⟩
      case measure => simp [intOf]
    · obtain rfl : k' = k := by omega
      have hd : decide ((k' : Int) < (k' : Int)) = false := decide_eq_false (by omega)
      have one := one_zone (p := p) O.out.rd
      go_wp2_with (first | (refine wpList_load_row rfl 25 _ rfl g2 rfl 25 (znC p v') (0, 0) _ X.out Try.underlying25 rfl (by kernel_rfl) ?_) | (refine wpList_store_row rfl 25 _ _ rfl (g + 1) (znC p v') rfl rfl 25 (znC p0 nv) Y.out (by kernel_rfl) rfl one ?_))
      have KP := kp_row (cs := znC p v') Y.out (show w.heap.size ≤ g + 1 by have := HG.out; omega)
      exact ret_z1 Try.results53 rfl rfl (box_row Y.out) ⟨v', L', rfl, (O.out.mono HB.out).kp KP (by decide), V.out, HS.out, K.out.trans KP.below⟩
end Go.Proofs.Ytflplldamefhoaa.Bd
