import Derived.Test.YtflplldamefhoaaLb
namespace Go.Proofs.Ytflplldamefhoaa.Bd
open Go Go.RowKit
set_option linter.unusedVariables false
theorem find_any (p : Pm) (v : Nat → Value) (L : Fl) (f : Int) (k : Nat) (hk : k < 5) (w : World) (hr : RdZ w v L) (hs : Srt (L k)) (hn : (L k).length ≤ 1000000) :
    Calls Try.prog 58 #[.agg (znC p v), .int .i64 f, .int .i64 k] w fun e w' => e = .returned (.tuple #[.int .i64 (pos (L k) f : Nat), .bool (decide (f ∈ L k))]) ∧ Below w.heap.size w w' := by
  have X := hide (Box.new w 25 (znC p v))
  have K := hide (bal (brefl w) (.cells (znC p v) 25))
  have C := hide (bs_any f ((hr k hk).below K.out) hs hn)
  obtain ⟨A, c, e, _⟩ := hr k hk
  have s := box_list X.out hk
  rw [e] at s C
  generalize decide (f ∈ L k) = d at *
  generalize pos (L k) f = q at *
  generalize (L k).length = n at *
  clear hr hs hn e
  go_enter Try.func58, Try.ntmps58
  go_upto_region 1 with fail
  generalize (w.alloc (.cells (znC p v) 25)) = w2 at *
  go_wp2_with fail
  refine C.out.mono ?_
  rintro e w1 ⟨rfl, hb⟩
  have K1 := hide (btrans K.out hb)
  clear hb
  go_wp2
  go_ret2
  exact ⟨rfl, K1.out⟩
instance (L : Fl) (k : Nat) (x : Int) : Decidable (cov L k x) := by unfold cov; infer_instance
/-- the order of the free block that contains a frame, or -1 -/
def oof (L : Fl) (f : Int) : Int := if cov L 0 f then 0 else if cov L 1 f then 1 else if cov L 2 f then 2 else if cov L 3 f then 3 else if cov L 4 f then 4 else -1
theorem oof_at {L : Fl} {f : Int} {k : Nat} (hk : k < 5) (h : ∀ j, j < k → ¬ cov L j f) (hc : cov L k f) : oof L f = k := by
  unfold oof
  rcases cases5 hk with rfl | rfl | rfl | rfl | rfl
  · rw [if_pos hc]; rfl
  · rw [if_neg (h 0 (by omega)), if_pos hc]; rfl
  · rw [if_neg (h 0 (by omega)), if_neg (h 1 (by omega)), if_pos hc]; rfl
  · rw [if_neg (h 0 (by omega)), if_neg (h 1 (by omega)), if_neg (h 2 (by omega)), if_pos hc]; rfl
  · rw [if_neg (h 0 (by omega)), if_neg (h 1 (by omega)), if_neg (h 2 (by omega)), if_neg (h 3 (by omega)), if_pos hc]; rfl
theorem oof_no {L : Fl} {f : Int} (h : ∀ j, j < 5 → ¬ cov L j f) : oof L f = -1 := by
  unfold oof
  rw [if_neg (h 0 (by omega)), if_neg (h 1 (by omega)), if_neg (h 2 (by omega)), if_neg (h 3 (by omega)), if_neg (h 4 (by omega))]
theorem dn_r {k : Nat} (f : Int) (hf : i64r f) (hk : k < 5) : i64r (dn k f) := by
  unfold i64r at *
  unfold dn
  rcases cases5 hk with rfl | rfl | rfl | rfl | rfl <;> simp only [bw] <;> omega
set_option maxHeartbeats 2000000 in
theorem oof_any (p : Pm) (v : Nat → Value) (L : Fl) (f : Int) (hf : i64r f) (w : World) (hr : RdZ w v L) (hs : ∀ k, k < 5 → Srt (L k)) (hn : ∀ k, k < 5 → (L k).length ≤ 1000000) :
    Calls Try.prog 54 #[.agg (znC p v), .int .i64 f] w fun e w' => e = .returned (.int .i64 (oof L f)) ∧ Below w.heap.size w w' := by
  have X := hide (Box.new w 25 (znC p v))
  have K := hide (bal (brefl w) (.cells (znC p v) 25))
  have R := hide (hr.below K.out)
  have HS := hide hs
  have HN := hide hn
  have HF := hide hf
  clear hr hs hn hf
  obtain ⟨g, hg⟩ : ∃ g, g = w.heap.size := ⟨_, rfl⟩
  rw [← hg] at X
  have HG := hide hg
  go_enter Try.func54, Try.ntmps54
  go_upto_region 1 with fail
  rw [← hg]
  obtain ⟨W0, hW0⟩ : ∃ W0, W0 = (w.alloc (.cells (znC p v) 25)) := ⟨_, rfl⟩
  rw [← hW0] at X K R ⊢
  clear hg hW0
  go_wp2
  go_loopw [8] (fun i wr => ∃ k : Nat, k ≤ 5 ∧ i = .int .i64 k ∧ Hid (Below W0.heap.size W0 wr) ∧ Hid (∀ j, j < k → ¬ cov L j f)) (fun i _ => 5 - (intOf i).toNat)
  case atStart => exact ⟨0, by omega, rfl, hide (brefl _), hide (fun j hj => absurd hj (Nat.not_lt_zero _))⟩
  case round =>
    obtain ⟨k, hk, rfl, KR, NO⟩ := hrel
    by_cases hlt : k < 5
    · have C1 := hide (fun w1 => first_any f k hlt HF.out w1)
      have C2 := hide (fun w1 (hb : Below W0.heap.size W0 w1) => find_any p v L (dn k f) k hlt w1 (R.out.below hb) (HS.out k hlt) (HN.out k hlt))
      have X1 := hide (X.out.below KR.out)
      by_cases hc : cov L k f
      · have E := hide (oof_at hlt NO.out hc)
        unfold cov at hc
        rw [decide_eq_true hc] at C2
        clear hc
        generalize dn k f = d at *
        generalize pos (L k) d = q at *
        go_wp2
        refine wp_region_noPanic ?_
        refine wp_region_held_drew (S := (fun W => Box W g 25 (znC p v) ∧ Below W0.heap.size W0 W)) (by kernel_rfl) ?_ (fun hHeld => ?_)
        · exact ⟨X1.out.below (below_drewN (brefl _) 1), below_drewN KR.out 1⟩
        replace X1 := hide (hHeld.1)
        replace KR := hide (hHeld.2)
        generalize wr.drew = wr at *
        refine wpAnyH_take (i := 0) (oi := ⟨some 12, _, _, _, _, _⟩) (v := .agg (znC p v)) rfl (by kernel_rfl) (by kernel_rfl) (by kernel_rfl) (fun _ _ _ h => h) (Or.inl ⟨by kernel_rfl, ?_⟩) (by assumption) ?_
        · (intro w hSw; obtain ⟨y0, y1, y2, y3, y4, y5, y6, y7, y8, y9⟩ := box_all hSw.1; go_simp) <;> rfl
        (try simp only [Act.put, List.setIfInBounds_toArray, List.set_cons_succ, List.set_cons_zero])
        refine wpAnyH_take (i := 1) (oi := ⟨some 13, _, _, _, _, _⟩) (v := ?_) rfl (by kernel_rfl) (by kernel_rfl) (by kernel_rfl) (fun _ _ _ h => h) (Or.inl ⟨by kernel_rfl, ?_⟩) (by assumption) ?_
        rotate_left 1
        · (intro w hSw; (try dsimp only at hSw); go_simp) <;> (with_reducible rfl)
        (try simp only [Act.put, List.setIfInBounds_toArray, List.set_cons_succ, List.set_cons_zero])
        refine wpAnyH_take (i := 2) (oi := ⟨some 14, _, _, _, _, _⟩) (v := ?_) rfl (by kernel_rfl) (by kernel_rfl) (by kernel_rfl) (fun _ _ _ h => h) (Or.inl ⟨by kernel_rfl, ?_⟩) (by assumption) ?_
        rotate_left 1
        · (intro w hSw; (try dsimp only at hSw); go_simp) <;> (with_reducible rfl)
        (try simp only [Act.put, List.setIfInBounds_toArray, List.set_cons_succ, List.set_cons_zero])
        refine wpAnyH_take (i := 4) (oi := ⟨some 16, _, _, _, _, _⟩) (v := ?_) rfl (by kernel_rfl) (by kernel_rfl) (by kernel_rfl) (fun _ _ _ h => h) (Or.inl ⟨by kernel_rfl, ?_⟩) (by assumption) ?_
        rotate_left 1
        · (intro w hSw; (try dsimp only at hSw); go_simp) <;> (with_reducible rfl)
        (try simp only [Act.put, List.setIfInBounds_toArray, List.set_cons_succ, List.set_cons_zero])
        refine wpAnyH_ready (rs := [3]) (by kernel_rfl) (by simp) ?_
        refine AllReadyH.cons (o := _) rfl (fun K' hK => ?_) AllReadyH.nil
        go_simp
        refine (C1.out _).mono ?_
        rintro e w' ⟨rfl, rfl⟩
        refine hK.out _ _ ?_ (fun hHeld => ?_)
        · exact ⟨X1.out, KR.out⟩
        clear hK K'
        (try simp only [Act.put, List.setIfInBounds_toArray, List.set_cons_succ, List.set_cons_zero])
        refine wpAnyH_ready (rs := [5]) (by kernel_rfl) (by simp) ?_
        refine AllReadyH.cons (o := _) rfl (fun K' hK => ?_) AllReadyH.nil
        go_simp
        refine (C2.out _ KR.out).mono ?_
        rintro e w5 ⟨rfl, hb⟩
        replace X1 := hide (X1.out.below hb)
        replace KR := hide (btrans KR.out hb)
        clear hb
        refine hK.out _ _ ?_ (fun hHeld => ?_)
        · exact ⟨X1.out, KR.out⟩
        clear hK K'
        (try simp only [Act.put, List.setIfInBounds_toArray, List.set_cons_succ, List.set_cons_zero])
        refine wpAnyH_take (i := 6) (oi := ⟨some 11, _, _, _, _, _⟩) (v := ?_) rfl (by kernel_rfl) (by kernel_rfl) (by kernel_rfl) (fun _ _ _ h => h) (Or.inl ⟨by kernel_rfl, ?_⟩) (by assumption) ?_
        rotate_left 1
        · (intro w hSw; (try dsimp only at hSw); go_simp) <;> (with_reducible rfl)
        (try simp only [Act.put, List.setIfInBounds_toArray, List.set_cons_succ, List.set_cons_zero])
        refine wpAnyH_take (i := 7) (oi := ⟨some 18, _, _, _, _, _⟩) (v := ?_) rfl (by kernel_rfl) (by kernel_rfl) (by kernel_rfl) (fun _ _ _ h => h) (Or.inl ⟨by kernel_rfl, ?_⟩) (by assumption) ?_
        rotate_left 1
        · (intro w hSw; (try dsimp only at hSw); go_simp) <;> (with_reducible rfl)
        (try simp only [Act.put, List.setIfInBounds_toArray, List.set_cons_succ, List.set_cons_zero])
        refine wpAnyH_take (i := 9) (oi := ⟨some 6, _, _, _, _, _⟩) (v := ?_) rfl (by kernel_rfl) (by kernel_rfl) (by kernel_rfl) (fun _ _ _ h => h) (Or.inl ⟨by kernel_rfl, ?_⟩) (by assumption) ?_
        rotate_left 1
        · (intro w hSw; (try dsimp only at hSw); go_simp) <;> (with_reducible rfl)
        (try simp only [Act.put, List.setIfInBounds_toArray, List.set_cons_succ, List.set_cons_zero])
        refine wpAnyH_take (i := 8) (oi := ⟨some 19, _, _, _, _, _⟩) (v := ?_) rfl (by kernel_rfl) (by kernel_rfl) (by kernel_rfl) (fun _ _ _ h => h) (Or.inl ⟨by kernel_rfl, ?_⟩) (by assumption) ?_
        rotate_left 1
        · (intro w hSw; (try dsimp only at hSw); go_simp) <;> (with_reducible rfl)
        (try simp only [Act.put, List.setIfInBounds_toArray, List.set_cons_succ, List.set_cons_zero])
        refine wpAnyH_take (i := 10) (oi := ⟨some 7, _, _, _, _, _⟩) (v := ?_) rfl (by kernel_rfl) (by kernel_rfl) (by kernel_rfl) (fun _ _ _ h => h) (Or.inl ⟨by kernel_rfl, ?_⟩) (by assumption) ?_
        rotate_left 1
        · (intro w hSw; (try dsimp only at hSw); go_simp) <;> (with_reducible rfl)
        (try simp only [Act.put, List.setIfInBounds_toArray, List.set_cons_succ, List.set_cons_zero])
        refine wpAnyH_done (by kernel_rfl) ?_ _
        refine NoPanic.normal ?_
        go_wp2
        go_ret
        exact ⟨ret_int E.out.symm, btrans K.out KR.out⟩
      · have N2 := hide (show ∀ j, j < k + 1 → ¬ cov L j f from fun j hj => by
          by_cases e : j = k
          · rw [e]; exact hc
          · exact NO.out j (by omega))
        unfold cov at hc
        rw [decide_eq_false hc] at C2
        clear hc
        generalize dn k f = d at *
        generalize pos (L k) d = q at *
        go_wp2
        refine wp_region_noPanic ?_
        refine wp_region_held_drew (S := (fun W => Box W g 25 (znC p v) ∧ Below W0.heap.size W0 W)) (by kernel_rfl) ?_ (fun hHeld => ?_)
        · exact ⟨X1.out.below (below_drewN (brefl _) 1), below_drewN KR.out 1⟩
        replace X1 := hide (hHeld.1)
        replace KR := hide (hHeld.2)
        generalize wr.drew = wr at *
        refine wpAnyH_take (i := 0) (oi := ⟨some 12, _, _, _, _, _⟩) (v := .agg (znC p v)) rfl (by kernel_rfl) (by kernel_rfl) (by kernel_rfl) (fun _ _ _ h => h) (Or.inl ⟨by kernel_rfl, ?_⟩) (by assumption) ?_
        · (intro w hSw; obtain ⟨y0, y1, y2, y3, y4, y5, y6, y7, y8, y9⟩ := box_all hSw.1; go_simp) <;> rfl
        (try simp only [Act.put, List.setIfInBounds_toArray, List.set_cons_succ, List.set_cons_zero])
        refine wpAnyH_take (i := 1) (oi := ⟨some 13, _, _, _, _, _⟩) (v := ?_) rfl (by kernel_rfl) (by kernel_rfl) (by kernel_rfl) (fun _ _ _ h => h) (Or.inl ⟨by kernel_rfl, ?_⟩) (by assumption) ?_
        rotate_left 1
        · (intro w hSw; (try dsimp only at hSw); go_simp) <;> (with_reducible rfl)
        (try simp only [Act.put, List.setIfInBounds_toArray, List.set_cons_succ, List.set_cons_zero])
        refine wpAnyH_take (i := 2) (oi := ⟨some 14, _, _, _, _, _⟩) (v := ?_) rfl (by kernel_rfl) (by kernel_rfl) (by kernel_rfl) (fun _ _ _ h => h) (Or.inl ⟨by kernel_rfl, ?_⟩) (by assumption) ?_
        rotate_left 1
        · (intro w hSw; (try dsimp only at hSw); go_simp) <;> (with_reducible rfl)
        (try simp only [Act.put, List.setIfInBounds_toArray, List.set_cons_succ, List.set_cons_zero])
        refine wpAnyH_take (i := 4) (oi := ⟨some 16, _, _, _, _, _⟩) (v := ?_) rfl (by kernel_rfl) (by kernel_rfl) (by kernel_rfl) (fun _ _ _ h => h) (Or.inl ⟨by kernel_rfl, ?_⟩) (by assumption) ?_
        rotate_left 1
        · (intro w hSw; (try dsimp only at hSw); go_simp) <;> (with_reducible rfl)
        (try simp only [Act.put, List.setIfInBounds_toArray, List.set_cons_succ, List.set_cons_zero])
        refine wpAnyH_ready (rs := [3]) (by kernel_rfl) (by simp) ?_
        refine AllReadyH.cons (o := _) rfl (fun K' hK => ?_) AllReadyH.nil
        go_simp
        refine (C1.out _).mono ?_
        rintro e w' ⟨rfl, rfl⟩
        refine hK.out _ _ ?_ (fun hHeld => ?_)
        · exact ⟨X1.out, KR.out⟩
        clear hK K'
        (try simp only [Act.put, List.setIfInBounds_toArray, List.set_cons_succ, List.set_cons_zero])
        refine wpAnyH_ready (rs := [5]) (by kernel_rfl) (by simp) ?_
        refine AllReadyH.cons (o := _) rfl (fun K' hK => ?_) AllReadyH.nil
        go_simp
        refine (C2.out _ KR.out).mono ?_
        rintro e w5 ⟨rfl, hb⟩
        replace X1 := hide (X1.out.below hb)
        replace KR := hide (btrans KR.out hb)
        clear hb
        refine hK.out _ _ ?_ (fun hHeld => ?_)
        · exact ⟨X1.out, KR.out⟩
        clear hK K'
        (try simp only [Act.put, List.setIfInBounds_toArray, List.set_cons_succ, List.set_cons_zero])
        refine wpAnyH_take (i := 6) (oi := ⟨some 11, _, _, _, _, _⟩) (v := ?_) rfl (by kernel_rfl) (by kernel_rfl) (by kernel_rfl) (fun _ _ _ h => h) (Or.inl ⟨by kernel_rfl, ?_⟩) (by assumption) ?_
        rotate_left 1
        · (intro w hSw; (try dsimp only at hSw); go_simp) <;> (with_reducible rfl)
        (try simp only [Act.put, List.setIfInBounds_toArray, List.set_cons_succ, List.set_cons_zero])
        refine wpAnyH_take (i := 7) (oi := ⟨some 18, _, _, _, _, _⟩) (v := ?_) rfl (by kernel_rfl) (by kernel_rfl) (by kernel_rfl) (fun _ _ _ h => h) (Or.inl ⟨by kernel_rfl, ?_⟩) (by assumption) ?_
        rotate_left 1
        · (intro w hSw; (try dsimp only at hSw); go_simp) <;> (with_reducible rfl)
        (try simp only [Act.put, List.setIfInBounds_toArray, List.set_cons_succ, List.set_cons_zero])
        refine wpAnyH_take (i := 9) (oi := ⟨some 6, _, _, _, _, _⟩) (v := ?_) rfl (by kernel_rfl) (by kernel_rfl) (by kernel_rfl) (fun _ _ _ h => h) (Or.inl ⟨by kernel_rfl, ?_⟩) (by assumption) ?_
        rotate_left 1
        · (intro w hSw; (try dsimp only at hSw); go_simp) <;> (with_reducible rfl)
        (try simp only [Act.put, List.setIfInBounds_toArray, List.set_cons_succ, List.set_cons_zero])
        refine wpAnyH_take (i := 8) (oi := ⟨some 19, _, _, _, _, _⟩) (v := ?_) rfl (by kernel_rfl) (by kernel_rfl) (by kernel_rfl) (fun _ _ _ h => h) (Or.inl ⟨by kernel_rfl, ?_⟩) (by assumption) ?_
        rotate_left 1
        · (intro w hSw; (try dsimp only at hSw); go_simp) <;> (with_reducible rfl)
        (try simp only [Act.put, List.setIfInBounds_toArray, List.set_cons_succ, List.set_cons_zero])
        refine wpAnyH_take (i := 10) (oi := ⟨some 7, _, _, _, _, _⟩) (v := ?_) rfl (by kernel_rfl) (by kernel_rfl) (by kernel_rfl) (fun _ _ _ h => h) (Or.inl ⟨by kernel_rfl, ?_⟩) (by assumption) ?_
        rotate_left 1
        · (intro w hSw; (try dsimp only at hSw); go_simp) <;> (with_reducible rfl)
        (try simp only [Act.put, List.setIfInBounds_toArray, List.set_cons_succ, List.set_cons_zero])
        refine wpAnyH_done (by kernel_rfl) ?_ _
        refine NoPanic.normal ?_
        go_wp2
        go_roundw
        case rel => exact ⟨k + 1, by omega, by go_num, KR, N2⟩
        case measure => simp [intOf]; omega
    · obtain rfl : k = 5 := by omega
      have E := hide (oof_no NO.out)
      go_wp2
      go_ret
      exact ⟨ret_int E.out.symm, btrans K.out KR.out⟩
end Go.Proofs.Ytflplldamefhoaa.Bd
