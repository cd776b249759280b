import Derived.Test.YtflplldamefhoaaFn3
namespace Go.Proofs.Ytflplldamefhoaa.Bd
open Go Go.RowKit
set_option linter.unusedVariables false
theorem upd_same (L : Fl) (k : Nat) : upd L k (L k) = L := by
  funext j
  unfold upd
  split
  · rename_i h; rw [h]
  · rfl
set_option maxHeartbeats 4000000 in
theorem remove_any (B g : Nat) (p : Pm) (v : Nat → Value) (L : Fl) (f : Int) (k : Nat) (hk : k < 5) (w : World) (X : Box w g 25 (znC p v)) (O : OwZ B w v L) (hB : B ≤ g) (hs : Srt (L k)) (hn : (L k).length ≤ 100000) :
    Calls Try.prog 59 #[.pointer (some ⟨g, 0, none⟩), .int .i64 f, .int .i64 k] w fun e w' => e = .returned (.bool (decide (f ∈ L k))) ∧ ZnB B g p (upd L k ((L k).filter (· ≠ f))) w w' := by
  replace X := hide X
  replace O := hide O
  have C := hide (find_any p v L f k hk w O.out.rd hs (by omega))
  have HB := hide hB
  by_cases hf : f ∈ L k
  · obtain ⟨dl, de⟩ := del_eq hs hf
    have HI := hide de
    have HP := hide dl
    have HN := hide hn
    rw [decide_eq_true hf] at C ⊢
    generalize (L k).filter (· ≠ f) = l' at *
    generalize hq : pos (L k) f = q at *
    have hq1 : IntKind.i64.wrap ((q : Int) + 1) = (q : Int) + 1 := IntWalk.i64_in _ (by omega)
    obtain ⟨n, hn0⟩ : ∃ n, n = (L k).length := ⟨_, rfl⟩
    clear hs hn hq hB de dl hf
    go_enter Try.func59, Try.ntmps59
    go_wp2_with (first | (refine wpList_load_row rfl 25 _ rfl g rfl 25 (znC p v) (0, 0) _ X.out Try.underlying25 rfl (by kernel_rfl) ?_) | (go_at_call 58; refine C.out.mono ?_; rintro e w1 ⟨rfl, hb⟩))
    have K := hide (hb.mono (Nat.le_trans HB.out (Nat.le_of_lt X.out.lt)))
    replace X := hide (X.out.below hb)
    replace O := hide (O.out.below hb)
    clear hb C
    have HG := hide X.out.lt
    obtain ⟨A, c, ev, _⟩ := (O.out.rd k hk)
    rw [← hn0] at ev
    have HV := hide ev
    have s0 := box_list X.out hk
    rw [ev] at s0
    clear ev hn0
    have KD : Below w1.heap.size w1 w1.drew := below_drewN (brefl _) 1
    replace X := hide (X.out.below KD)
    replace O := hide (O.out.below KD)
    replace K := hide (K.out.trans (KD.mono (Nat.le_trans HB.out (Nat.le_of_lt HG.out))))
    replace HG := hide (show g < w1.drew.heap.size from X.out.lt)
    have s2 : w1.drew.cell? ⟨g, 5 + k, none⟩ = some (.slice A n c) := s0
    have hk5 : (k : Int) < 5 := by omega
    have IC := hide (del_any (O.out.row k hk) q HP.out (by have := HN.out; omega))
    rw [HV.out, HI.out] at IC
    clear KD s0
    go_wp2
    refine wp_region_noPanic ?_
    refine wp_region_held_drew (S := (fun _ => True)) (by kernel_rfl) ?_ (fun hHeld => ?_)
    · trivial
    generalize w1.drew = w2 at *
    refine wpAnyH_take (i := 0) (oi := ⟨some 19, _, _, _, _, _⟩) (v := ?_) rfl (by kernel_rfl) (by kernel_rfl) (by kernel_rfl) (fun _ _ _ h => h) (Or.inl ⟨by kernel_rfl, ?_⟩) (by assumption) ?_
    rotate_left 1
    · (intro w hSw; (try dsimp only at hSw); go_simp) <;> (with_reducible rfl)
    (try simp only [Act.put, List.setIfInBounds_toArray, List.set_cons_succ, List.set_cons_zero])
    refine wpAnyH_take (i := 1) (oi := ⟨some 20, _, _, _, _, _⟩) (v := ?_) rfl (by kernel_rfl) (by kernel_rfl) (by kernel_rfl) (fun _ _ _ h => h) (Or.inl ⟨by kernel_rfl, ?_⟩) (by assumption) ?_
    rotate_left 1
    · (intro w hSw; (try dsimp only at hSw); go_simp) <;> (with_reducible rfl)
    (try simp only [Act.put, List.setIfInBounds_toArray, List.set_cons_succ, List.set_cons_zero])
    refine wpAnyH_take (i := 2) (oi := ⟨some 21, _, _, _, _, _⟩) (v := ?_) rfl (by kernel_rfl) (by kernel_rfl) (by kernel_rfl) (fun _ _ _ h => h) (Or.inl ⟨by kernel_rfl, ?_⟩) (by assumption) ?_
    rotate_left 1
    · (intro w hSw; (try dsimp only at hSw); go_simp) <;> (with_reducible rfl)
    (try simp only [Act.put, List.setIfInBounds_toArray, List.set_cons_succ, List.set_cons_zero])
    refine wpAnyH_take (i := 3) (oi := ⟨some 22, _, _, _, _, _⟩) (v := ?_) rfl (by kernel_rfl) (by kernel_rfl) (by kernel_rfl) (fun _ _ _ h => h) (Or.inl ⟨by kernel_rfl, ?_⟩) (by assumption) ?_
    rotate_left 1
    · (intro w hSw; (try dsimp only at hSw); go_simp) <;> (with_reducible rfl)
    (try simp only [Act.put, List.setIfInBounds_toArray, List.set_cons_succ, List.set_cons_zero])
    refine wpAnyH_take (i := 4) (oi := ⟨some 23, _, _, _, _, _⟩) (v := ?_) rfl (by kernel_rfl) (by kernel_rfl) (by kernel_rfl) (fun _ _ _ h => h) (Or.inl ⟨by kernel_rfl, ?_⟩) (by assumption) ?_
    rotate_left 1
    · (intro w hSw; (try dsimp only at hSw); go_simp) <;> (with_reducible rfl)
    (try simp only [Act.put, List.setIfInBounds_toArray, List.set_cons_succ, List.set_cons_zero])
    refine wpAnyH_take (i := 5) (oi := ⟨some 24, _, _, _, _, _⟩) (v := ?_) rfl (by kernel_rfl) (by kernel_rfl) (by kernel_rfl) (fun _ _ _ h => h) (Or.inl ⟨by kernel_rfl, ?_⟩) (by assumption) ?_
    rotate_left 1
    · (intro w hSw; (try dsimp only at hSw); go_simp) <;> (with_reducible rfl)
    (try simp only [Act.put, List.setIfInBounds_toArray, List.set_cons_succ, List.set_cons_zero])
    refine wpAnyH_take (i := 6) (oi := ⟨some 25, _, _, _, _, _⟩) (v := ?_) rfl (by kernel_rfl) (by kernel_rfl) (by kernel_rfl) (fun _ _ _ h => h) (Or.inl ⟨by kernel_rfl, ?_⟩) (by assumption) ?_
    rotate_left 1
    · (intro w hSw; (try dsimp only at hSw); go_simp) <;> (with_reducible rfl)
    (try simp only [Act.put, List.setIfInBounds_toArray, List.set_cons_succ, List.set_cons_zero])
    refine wpAnyH_take (i := 8) (oi := ⟨some 27, _, _, _, _, _⟩) (v := ?_) rfl (by kernel_rfl) (by kernel_rfl) (by kernel_rfl) (fun _ _ _ h => h) (Or.inl ⟨by kernel_rfl, ?_⟩) (by assumption) ?_
    rotate_left 1
    · (intro w hSw; (try dsimp only at hSw); go_simp) <;> (with_reducible rfl)
    (try simp only [Act.put, List.setIfInBounds_toArray, List.set_cons_succ, List.set_cons_zero])
    refine wpAnyH_take (i := 9) (oi := ⟨some 28, _, _, _, _, _⟩) (v := ?_) rfl (by kernel_rfl) (by kernel_rfl) (by kernel_rfl) (fun _ _ _ h => h) (Or.inl ⟨by kernel_rfl, ?_⟩) (by assumption) ?_
    rotate_left 1
    · (intro w hSw; (try dsimp only at hSw); go_simp) <;> (with_reducible rfl)
    (try simp only [Act.put, List.setIfInBounds_toArray, List.set_cons_succ, List.set_cons_zero])
    refine wpAnyH_take (i := 10) (oi := ⟨some 29, _, _, _, _, _⟩) (v := ?_) rfl (by kernel_rfl) (by kernel_rfl) (by kernel_rfl) (fun _ _ _ h => h) (Or.inl ⟨by kernel_rfl, ?_⟩) (by assumption) ?_
    rotate_left 1
    · (intro w hSw; (try dsimp only at hSw); go_simp) <;> (with_reducible rfl)
    (try simp only [Act.put, List.setIfInBounds_toArray, List.set_cons_succ, List.set_cons_zero])
    refine wpAnyH_take (i := 12) (oi := ⟨some 31, _, _, _, _, _⟩) (v := ?_) rfl (by kernel_rfl) (by kernel_rfl) (by kernel_rfl) (fun _ _ _ h => h) (Or.inl ⟨by kernel_rfl, ?_⟩) (by assumption) ?_
    rotate_left 1
    · (intro w hSw; (try dsimp only at hSw); go_simp) <;> (with_reducible rfl)
    (try simp only [Act.put, List.setIfInBounds_toArray, List.set_cons_succ, List.set_cons_zero])
    refine wpAnyH_take (i := 13) (oi := ⟨some 32, _, _, _, _, _⟩) (v := ?_) rfl (by kernel_rfl) (by kernel_rfl) (by kernel_rfl) (fun _ _ _ h => h) (Or.inl ⟨by kernel_rfl, ?_⟩) (by assumption) ?_
    rotate_left 1
    · (intro w hSw; (try dsimp only at hSw); go_simp) <;> (with_reducible rfl)
    (try simp only [Act.put, List.setIfInBounds_toArray, List.set_cons_succ, List.set_cons_zero])
    refine wpAnyH_ready (rs := [7]) (by kernel_rfl) (by simp) ?_
    refine AllReadyH.cons (o := ⟨some 26, _, _, _, _, _⟩) rfl (fun K' hK => ?_) AllReadyH.nil
    go_simp
    refine hK.out _ _ ?_ (fun hHeld => ?_)
    · trivial
    clear hK K'
    (try simp only [Act.put, List.setIfInBounds_toArray, List.set_cons_succ, List.set_cons_zero])
    refine wpAnyH_ready (rs := [11]) (by kernel_rfl) (by simp) ?_
    refine AllReadyH.cons (o := ⟨some 30, _, _, _, _, _⟩) rfl (fun K' hK => ?_) AllReadyH.nil
    go_simp
    refine IC.out.mono ?_
    rintro e w4 ⟨u, rfl, ou, hown, hgr⟩
    rw [← HV.out] at hgr hown
    have HD := hide (dis_new O.out hk (.inl hown))
    have X4 := hide (box_grown (O.out.row k hk) X.out (by decide) hgr)
    have K4 := hide (K.out.trans (below_grown (O.out.row k hk) hgr (Nat.le_trans HB.out (Nat.le_of_lt HG.out))))
    have O4 := hide (O.out.put hk hgr ou HD.out)
    have KP := Kp.boxset X4.out HB.out (5 + k) u
    have K5 := hide (K4.out.setCell (p := ⟨g, 5 + k, none⟩) HB.out u)
    have O5 := hide (O4.out.kp KP (by decide))
    have X5 := X4.out.put (5 + k) u
    rw [znC_set p v u hk] at X5
    replace X5 := hide X5
    have s4 := box_list X4.out hk
    have f4 := X4.out.frozen (5 + k)
    obtain ⟨A4, c4, eu, _⟩ := row_form ou
    clear KP hgr hown ou IC X4 O4 K4 O X K HD
    subst eu
    refine hK.out _ _ ?_ (fun hHeld => ?_)
    · trivial
    clear hK K'
    (try simp only [Act.put, List.setIfInBounds_toArray, List.set_cons_succ, List.set_cons_zero])
    refine wpAnyH_take (i := 14) (oi := ⟨some 33, _, _, _, _, _⟩) (v := ?_) rfl (by kernel_rfl) (by kernel_rfl) (by kernel_rfl) (fun _ _ _ h => h) (Or.inl ⟨by kernel_rfl, ?_⟩) (by assumption) ?_
    rotate_left 1
    · (intro w hSw; (try dsimp only at hSw); go_simp) <;> (with_reducible rfl)
    (try simp only [Act.put, List.setIfInBounds_toArray, List.set_cons_succ, List.set_cons_zero])
    refine wpAnyH_ready (rs := [15]) (by kernel_rfl) (by simp) ?_
    refine AllReadyH.cons (o := ⟨none, _, _, _, _, _⟩) rfl (fun K' hK => ?_) AllReadyH.nil
    go_simp
    generalize w4.setCell ⟨g, 5 + k, none⟩ (.slice A4 l'.length c4) = w5 at *
    refine hK.out _ _ ?_ (fun hHeld => ?_)
    · trivial
    clear hK K'
    (try simp only [Act.put, List.setIfInBounds_toArray, List.set_cons_succ, List.set_cons_zero])
    refine wpAnyH_done (by kernel_rfl) ?_ _
    refine NoPanic.normal ?_
    go_wp2
    go_ret
    exact ⟨rfl, ⟨_, X5.out, O5.out⟩, K5.out⟩
  · have EU := hide (show upd L k ((L k).filter (· ≠ f)) = L by rw [fil_no hf, upd_same])
    rw [decide_eq_false hf] at C ⊢
    generalize upd L k ((L k).filter (· ≠ f)) = L' at *
    generalize hq : pos (L k) f = q at *
    clear hs hn hq hB hf
    go_enter Try.func59, Try.ntmps59
    go_wp2_with (first | (refine wpList_load_row rfl 25 _ rfl g rfl 25 (znC p v) (0, 0) _ X.out Try.underlying25 rfl (by kernel_rfl) ?_) | (go_at_call 58; refine C.out.mono ?_; rintro e w1 ⟨rfl, hb⟩))
    go_ret
    exact ⟨rfl, ⟨v, X.out.below hb, by rw [EU.out]; exact O.out.below hb⟩, hb.mono (Nat.le_trans HB.out (Nat.le_of_lt X.out.lt))⟩
end Go.Proofs.Ytflplldamefhoaa.Bd
