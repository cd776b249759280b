import Derived.Test.YtflplldamefhoaaFn2
namespace Go.Proofs.Ytflplldamefhoaa.Bd
open Go Go.RowKit
set_option linter.unusedVariables false
theorem own_lt {B n size : Nat} {t : TypeId} {v : Value} {xs : List Value} {w : World} (h : w.ownsRow B t size v n xs) {b : Nat} (e : v.ownBlock = some b) : b < w.heap.size := by
  obtain ⟨_, ⟨rfl, _⟩ | ⟨g, cap, cur, rfl, hg, hh, _⟩⟩ := h
  · cases e
  · have : g = b := by simpa [Value.ownBlock] using e
    subst this
    exact blk_lt hh
theorem box_grown {B n size : Nat} {t T : TypeId} {v : Value} {xs : List Value} {w w' : World} {g : Nat} {cs : Array Value} (h : w.ownsRow B t size v n xs) (X : Box w g T cs) (hne : T ≠ t) (hg : w.grownBy w' v.ownBlock) : Box w' g T cs := by
  refine (hg.block g X.lt ?_).trans X
  obtain ⟨_, ⟨rfl, _⟩ | ⟨g', cap, cur, rfl, hg', hh, _⟩⟩ := h
  · exact Option.some_ne_none _
  · intro e
    have : g = g' := by simpa [Value.ownBlock] using e
    subst this
    unfold Box at X
    rw [X] at hh; injection hh with hh; injection hh with _ e3
    exact hne e3
theorem below_grown {B n size : Nat} {t : TypeId} {v : Value} {xs : List Value} {w w' : World} (h : w.ownsRow B t size v n xs) (hg : w.grownBy w' v.ownBlock) (hs : B ≤ w.heap.size) : Below B w w' :=
  (Kp.grown h hg (Nat.le_refl B) hs).below
/-- what a change of a zone in its box leaves -/
structure ZnB (B g : Nat) (p : Pm) (L : Fl) (w w' : World) : Prop where
  ex : ∃ v, Box w' g 25 (znC p v) ∧ OwZ B w' v L
  below : Below B w w'
theorem dis_new {B : Nat} {w : World} {v : Nat → Value} {L : Fl} (O : OwZ B w v L) {k : Nat} (hk : k < 5) {u : Value} (h : u.ownBlock = (v k).ownBlock ∨ u.ownBlock = some w.heap.size) : ∀ j, j < 5 → j ≠ k → u.ownBlock = none ∨ u.ownBlock ≠ (v j).ownBlock := by
  intro j hj hne
  rcases h with h | h
  · rw [h]; exact O.dis k j hk hj (fun e => hne e.symm)
  · right
    rw [h]
    intro e
    exact absurd (own_lt (O.row j hj) e.symm) (Nat.lt_irrefl _)
set_option maxHeartbeats 4000000 in
theorem insert_any (B g : Nat) (p : Pm) (v : Nat → Value) (L : Fl) (f : Int) (k : Nat) (hk : k < 5) (w : World) (X : Box w g 25 (znC p v)) (O : OwZ B w v L) (hB : B ≤ g) (hs : Srt (L k)) (hn : (L k).length ≤ 100000) :
    Calls Try.prog 61 #[.pointer (some ⟨g, 0, none⟩), .int .i64 f, .int .i64 k] w fun e w' => e = .returned (.tuple #[]) ∧ ZnB B g p (upd L k (ins (L k) f)) w w' := by
  replace X := hide X
  replace O := hide O
  have C := hide (find_any p v L f k hk w O.out.rd hs (by omega))
  have HB := hide hB
  have HI := hide (show ins (L k) f = (L k).take (pos (L k) f) ++ f :: (L k).drop (pos (L k) f) from rfl)
  have HP := hide (pos_le (L k) f)
  have HN := hide hn
  generalize decide (f ∈ L k) = d at *
  generalize ins (L k) f = l' at *
  generalize hq : pos (L k) f = q at *
  obtain ⟨n, hn0⟩ : ∃ n, n = (L k).length := ⟨_, rfl⟩
  clear hs hn hq hB
  go_enter Try.func61, Try.ntmps61
  go_wp2_with (first | (refine wpList_load_row rfl 25 _ rfl g rfl 25 (znC p v) (0, 0) _ X.out Try.underlying25 rfl (by kernel_rfl) ?_) | (go_at_call 58; refine C.out.mono ?_; rintro e w1 ⟨rfl, hb⟩))
  have K := hide (hb.mono (Nat.le_trans HB.out (Nat.le_of_lt X.out.lt)))
  replace X := hide (X.out.below hb)
  replace O := hide (O.out.below hb)
  clear hb C
  have HG := hide X.out.lt
  obtain ⟨A, c, ev, _⟩ := (O.out.rd k hk)
  rw [← hn0] at ev
  have HV := hide ev
  have s0 := box_list X.out hk
  rw [ev] at s0
  clear ev hn0
  go_wp2
  have KD : Below w1.heap.size w1 w1.drew := below_drewN (brefl _) 1
  replace X := hide (X.out.below KD)
  replace O := hide (O.out.below KD)
  replace K := hide (K.out.trans (KD.mono (Nat.le_trans HB.out (Nat.le_of_lt HG.out))))
  replace HG := hide (show g < w1.drew.heap.size from X.out.lt)
  have s2 : w1.drew.cell? ⟨g, 5 + k, none⟩ = some (.slice A n c) := s0
  have hk5 : (k : Int) < 5 := by omega
  clear KD s0
  refine wp_region_noPanic ?_
  refine wp_region_held_drew (S := (fun _ => True)) (by kernel_rfl) ?_ (fun hHeld => ?_)
  · trivial
  generalize w1.drew = w2 at *
  refine wpAnyH_take (i := 0) (oi := ⟨some 17, _, _, _, _, _⟩) (v := ?_) rfl (by kernel_rfl) (by kernel_rfl) (by kernel_rfl) (fun _ _ _ h => h) (Or.inl ⟨by kernel_rfl, ?_⟩) (by assumption) ?_
  rotate_left 1
  · (intro w hSw; (try dsimp only at hSw); go_simp) <;> (with_reducible rfl)
  (try simp only [Act.put, List.setIfInBounds_toArray, List.set_cons_succ, List.set_cons_zero])
  refine wpAnyH_take (i := 1) (oi := ⟨some 18, _, _, _, _, _⟩) (v := ?_) rfl (by kernel_rfl) (by kernel_rfl) (by kernel_rfl) (fun _ _ _ h => h) (Or.inl ⟨by kernel_rfl, ?_⟩) (by assumption) ?_
  rotate_left 1
  · (intro w hSw; (try dsimp only at hSw); go_simp) <;> (with_reducible rfl)
  (try simp only [Act.put, List.setIfInBounds_toArray, List.set_cons_succ, List.set_cons_zero])
  refine wpAnyH_take (i := 2) (oi := ⟨some 19, _, _, _, _, _⟩) (v := ?_) rfl (by kernel_rfl) (by kernel_rfl) (by kernel_rfl) (fun _ _ _ h => h) (Or.inl ⟨by kernel_rfl, ?_⟩) (by assumption) ?_
  rotate_left 1
  · (intro w hSw; (try dsimp only at hSw); go_simp) <;> (with_reducible rfl)
  (try simp only [Act.put, List.setIfInBounds_toArray, List.set_cons_succ, List.set_cons_zero])
  refine wpAnyH_take (i := 3) (oi := ⟨some 20, _, _, _, _, _⟩) (v := ?_) rfl (by kernel_rfl) (by kernel_rfl) (by kernel_rfl) (fun _ _ _ h => h) (Or.inl ⟨by kernel_rfl, ?_⟩) (by assumption) ?_
  rotate_left 1
  · (intro w hSw; (try dsimp only at hSw); go_simp) <;> (with_reducible rfl)
  (try simp only [Act.put, List.setIfInBounds_toArray, List.set_cons_succ, List.set_cons_zero])
  refine wpAnyH_take (i := 4) (oi := ⟨some 21, _, _, _, _, _⟩) (v := ?_) rfl (by kernel_rfl) (by kernel_rfl) (by kernel_rfl) (fun _ _ _ h => h) (Or.inl ⟨by kernel_rfl, ?_⟩) (by assumption) ?_
  rotate_left 1
  · (intro w hSw; (try dsimp only at hSw); go_simp) <;> (with_reducible rfl)
  (try simp only [Act.put, List.setIfInBounds_toArray, List.set_cons_succ, List.set_cons_zero])
  refine wpAnyH_take (i := 5) (oi := ⟨some 22, _, _, _, _, _⟩) (v := ?_) rfl (by kernel_rfl) (by kernel_rfl) (by kernel_rfl) (fun _ _ _ h => h) (Or.inl ⟨by kernel_rfl, ?_⟩) (by assumption) ?_
  rotate_left 1
  · (intro w hSw; (try dsimp only at hSw); go_simp) <;> (with_reducible rfl)
  (try simp only [Act.put, List.setIfInBounds_toArray, List.set_cons_succ, List.set_cons_zero])
  refine wpAnyH_take (i := 6) (oi := ⟨some 23, _, _, _, _, _⟩) (v := ?_) rfl (by kernel_rfl) (by kernel_rfl) (by kernel_rfl) (fun _ _ _ h => h) (Or.inl ⟨by kernel_rfl, ?_⟩) (by assumption) ?_
  rotate_left 1
  · (intro w hSw; (try dsimp only at hSw); go_simp) <;> (with_reducible rfl)
  (try simp only [Act.put, List.setIfInBounds_toArray, List.set_cons_succ, List.set_cons_zero])
  refine wpAnyH_take (i := 8) (oi := ⟨some 25, _, _, _, _, _⟩) (v := ?_) rfl (by kernel_rfl) (by kernel_rfl) (by kernel_rfl) (fun _ _ _ h => h) (Or.inl ⟨by kernel_rfl, ?_⟩) (by assumption) ?_
  rotate_left 1
  · (intro w hSw; (try dsimp only at hSw); go_simp) <;> (with_reducible rfl)
  (try simp only [Act.put, List.setIfInBounds_toArray, List.set_cons_succ, List.set_cons_zero])
  refine wpAnyH_take (i := 9) (oi := ⟨some 26, _, _, _, _, _⟩) (v := ?_) rfl (by kernel_rfl) (by kernel_rfl) (by kernel_rfl) (fun _ _ _ h => h) (Or.inl ⟨by kernel_rfl, ?_⟩) (by assumption) ?_
  rotate_left 1
  · (intro w hSw; (try dsimp only at hSw); go_simp) <;> (with_reducible rfl)
  (try simp only [Act.put, List.setIfInBounds_toArray, List.set_cons_succ, List.set_cons_zero])
  refine wpAnyH_take (i := 12) (oi := ⟨some 29, _, _, _, _, _⟩) (v := ?_) rfl (by kernel_rfl) (by kernel_rfl) (by kernel_rfl) (fun _ _ _ h => h) (Or.inl ⟨by kernel_rfl, ?_⟩) (by assumption) ?_
  rotate_left 1
  · (intro w hSw; (try dsimp only at hSw); go_simp) <;> (with_reducible rfl)
  (try simp only [Act.put, List.setIfInBounds_toArray, List.set_cons_succ, List.set_cons_zero])
  refine wpAnyH_take (i := 13) (oi := ⟨some 30, _, _, _, _, _⟩) (v := ?_) rfl (by kernel_rfl) (by kernel_rfl) (by kernel_rfl) (fun _ _ _ h => h) (Or.inl ⟨by kernel_rfl, ?_⟩) (by assumption) ?_
  rotate_left 1
  · (intro w hSw; (try dsimp only at hSw); go_simp) <;> (with_reducible rfl)
  (try simp only [Act.put, List.setIfInBounds_toArray, List.set_cons_succ, List.set_cons_zero])
  refine wpAnyH_ready (rs := [7, 10]) (by kernel_rfl) (by simp) ?_
  refine AllReadyH.cons (o := ⟨some 24, _, _, _, _, _⟩) rfl (fun K' hK => ?_) ?_
  · go_simp
    refine hK.out _ _ ?_ (fun hHeld => ?_)
    · trivial
    clear hK K'
    (try simp only [Act.put, List.setIfInBounds_toArray, List.set_cons_succ, List.set_cons_zero])
    refine wpAnyH_ready (rs := [10]) (by kernel_rfl) (by simp) ?_
    refine AllReadyH.cons (o := ⟨some 27, _, _, _, _, _⟩) rfl (fun K' hK => ?_) AllReadyH.nil
    go_simp
    have B0 := bal (brefl w2) (.cells #[.int .i64 f] 3)
    have NB := hide (Box.new w2 3 #[.int .i64 f])
    have OLD := hide (own_lt (O.out.row k hk) (b := w2.heap.size))
    replace X := hide (X.out.below B0)
    replace O := hide (O.out.below B0)
    replace K := hide (K.out.trans (B0.mono (Nat.le_trans HB.out (Nat.le_of_lt HG.out))))
    have SZ := hide (show B ≤ (w2.alloc (.cells #[.int .i64 f] 3)).heap.size from Nat.le_trans (Nat.le_trans HB.out (Nat.le_of_lt HG.out)) (by rw [alloc_size']; omega))
    have s3 := box_list X.out hk
    rw [HV.out] at s3
    clear B0
    generalize w2.heap.size = nb at *
    generalize w2.alloc (.cells #[.int .i64 f] 3) = w3 at *
    have IC := hide (inr_any (O.out.row k hk) nb f NB.out (fun e => absurd (OLD.out e) (Nat.lt_irrefl _)) q HP.out (by have := HN.out; omega) SZ.out)
    rw [HV.out, ← HI.out] at IC
    refine hK.out _ _ ?_ (fun hHeld => ?_)
    · trivial
    clear hK K'
    (try simp only [Act.put, List.setIfInBounds_toArray, List.set_cons_succ, List.set_cons_zero])
    refine wpAnyH_ready (rs := [11]) (by kernel_rfl) (by simp) ?_
    refine AllReadyH.cons (o := ⟨some 28, _, _, _, _, _⟩) rfl (fun K' hK => ?_) AllReadyH.nil
    go_simp
    refine IC.out.mono ?_
    rintro e w4 ⟨u, rfl, ou, hgr, hown⟩
    rw [← HV.out] at hgr hown
    have HD := hide (dis_new O.out hk hown)
    have X4 := hide (box_grown (O.out.row k hk) X.out (by decide) hgr)
    have K4 := hide (K.out.trans (below_grown (O.out.row k hk) hgr SZ.out))
    have O4 := hide (O.out.put hk hgr ou HD.out)
    have KP := Kp.boxset X4.out HB.out (5 + k) u
    have K5 := hide (K4.out.setCell (p := ⟨g, 5 + k, none⟩) HB.out u)
    have O5 := hide (O4.out.kp KP (by decide))
    have X5 := X4.out.put (5 + k) u
    rw [znC_set p v u hk] at X5
    replace X5 := hide X5
    have s4 := box_list X4.out hk
    have f4 := X4.out.frozen (5 + k)
    obtain ⟨A4, c4, eu, _⟩ := row_form ou
    clear KP hgr hown ou IC X4 O4 K4 O X K HD
    subst eu
    refine hK.out _ _ ?_ (fun hHeld => ?_)
    · trivial
    clear hK K'
    (try simp only [Act.put, List.setIfInBounds_toArray, List.set_cons_succ, List.set_cons_zero])
    refine wpAnyH_take (i := 14) (oi := ⟨some 31, _, _, _, _, _⟩) (v := ?_) rfl (by kernel_rfl) (by kernel_rfl) (by kernel_rfl) (fun _ _ _ h => h) (Or.inl ⟨by kernel_rfl, ?_⟩) (by assumption) ?_
    rotate_left 1
    · (intro w hSw; (try dsimp only at hSw); go_simp) <;> (with_reducible rfl)
    (try simp only [Act.put, List.setIfInBounds_toArray, List.set_cons_succ, List.set_cons_zero])
    refine wpAnyH_ready (rs := [15]) (by kernel_rfl) (by simp) ?_
    refine AllReadyH.cons (o := ⟨none, _, _, _, _, _⟩) rfl (fun K' hK => ?_) AllReadyH.nil
    go_simp
    generalize w4.setCell ⟨g, 5 + k, none⟩ (.slice A4 l'.length c4) = w5 at *
    refine hK.out _ _ ?_ (fun hHeld => ?_)
    · trivial
    clear hK K'
    (try simp only [Act.put, List.setIfInBounds_toArray, List.set_cons_succ, List.set_cons_zero])
    refine wpAnyH_done (by kernel_rfl) ?_ _
    refine NoPanic.normal ?_
    go_wp2
    go_end0
    exact ⟨rfl, ⟨_, X5.out, O5.out⟩, K5.out⟩
  refine AllReadyH.cons (o := ⟨some 27, _, _, _, _, _⟩) rfl (fun K' hK => ?_) AllReadyH.nil
  go_simp
  have B0 := bal (brefl w2) (.cells #[.int .i64 f] 3)
  have NB := hide (Box.new w2 3 #[.int .i64 f])
  have OLD := hide (own_lt (O.out.row k hk) (b := w2.heap.size))
  replace X := hide (X.out.below B0)
  replace O := hide (O.out.below B0)
  replace K := hide (K.out.trans (B0.mono (Nat.le_trans HB.out (Nat.le_of_lt HG.out))))
  have SZ := hide (show B ≤ (w2.alloc (.cells #[.int .i64 f] 3)).heap.size from Nat.le_trans (Nat.le_trans HB.out (Nat.le_of_lt HG.out)) (by rw [alloc_size']; omega))
  have s3 := box_list X.out hk
  rw [HV.out] at s3
  clear B0
  generalize w2.heap.size = nb at *
  generalize w2.alloc (.cells #[.int .i64 f] 3) = w3 at *
  have IC := hide (inr_any (O.out.row k hk) nb f NB.out (fun e => absurd (OLD.out e) (Nat.lt_irrefl _)) q HP.out (by have := HN.out; omega) SZ.out)
  rw [HV.out, ← HI.out] at IC
  refine hK.out _ _ ?_ (fun hHeld => ?_)
  · trivial
  clear hK K'
  (try simp only [Act.put, List.setIfInBounds_toArray, List.set_cons_succ, List.set_cons_zero])
  refine wpAnyH_ready (rs := [7]) (by kernel_rfl) (by simp) ?_
  refine AllReadyH.cons (o := ⟨some 24, _, _, _, _, _⟩) rfl (fun K' hK => ?_) AllReadyH.nil
  go_simp
  refine hK.out _ _ ?_ (fun hHeld => ?_)
  · trivial
  clear hK K'
  (try simp only [Act.put, List.setIfInBounds_toArray, List.set_cons_succ, List.set_cons_zero])
  refine wpAnyH_ready (rs := [11]) (by kernel_rfl) (by simp) ?_
  refine AllReadyH.cons (o := ⟨some 28, _, _, _, _, _⟩) rfl (fun K' hK => ?_) AllReadyH.nil
  go_simp
  refine IC.out.mono ?_
  rintro e w4 ⟨u, rfl, ou, hgr, hown⟩
  rw [← HV.out] at hgr hown
  have HD := hide (dis_new O.out hk hown)
  have X4 := hide (box_grown (O.out.row k hk) X.out (by decide) hgr)
  have K4 := hide (K.out.trans (below_grown (O.out.row k hk) hgr SZ.out))
  have O4 := hide (O.out.put hk hgr ou HD.out)
  have KP := Kp.boxset X4.out HB.out (5 + k) u
  have K5 := hide (K4.out.setCell (p := ⟨g, 5 + k, none⟩) HB.out u)
  have O5 := hide (O4.out.kp KP (by decide))
  have X5 := X4.out.put (5 + k) u
  rw [znC_set p v u hk] at X5
  replace X5 := hide X5
  have s4 := box_list X4.out hk
  have f4 := X4.out.frozen (5 + k)
  obtain ⟨A4, c4, eu, _⟩ := row_form ou
  clear KP hgr hown ou IC X4 O4 K4 O X K HD
  subst eu
  refine hK.out _ _ ?_ (fun hHeld => ?_)
  · trivial
  clear hK K'
  (try simp only [Act.put, List.setIfInBounds_toArray, List.set_cons_succ, List.set_cons_zero])
  refine wpAnyH_take (i := 14) (oi := ⟨some 31, _, _, _, _, _⟩) (v := ?_) rfl (by kernel_rfl) (by kernel_rfl) (by kernel_rfl) (fun _ _ _ h => h) (Or.inl ⟨by kernel_rfl, ?_⟩) (by assumption) ?_
  rotate_left 1
  · (intro w hSw; (try dsimp only at hSw); go_simp) <;> (with_reducible rfl)
  (try simp only [Act.put, List.setIfInBounds_toArray, List.set_cons_succ, List.set_cons_zero])
  refine wpAnyH_ready (rs := [15]) (by kernel_rfl) (by simp) ?_
  refine AllReadyH.cons (o := ⟨none, _, _, _, _, _⟩) rfl (fun K' hK => ?_) AllReadyH.nil
  go_simp
  generalize w4.setCell ⟨g, 5 + k, none⟩ (.slice A4 l'.length c4) = w5 at *
  refine hK.out _ _ ?_ (fun hHeld => ?_)
  · trivial
  clear hK K'
  (try simp only [Act.put, List.setIfInBounds_toArray, List.set_cons_succ, List.set_cons_zero])
  refine wpAnyH_done (by kernel_rfl) ?_ _
  refine NoPanic.normal ?_
  go_wp2
  go_end0
  exact ⟨rfl, ⟨_, X5.out, O5.out⟩, K5.out⟩
end Go.Proofs.Ytflplldamefhoaa.Bd
