import Derived.Test.YtflplldamefhoaaCt2
namespace Go.Proofs.Ytflplldamefhoaa.Bd
open Go Go.RowKit
set_option linter.unusedVariables false
set_option maxHeartbeats 1000000 in
/-- two lists that read alike are the same -/
theorem sint_any (A1 A2 : Option Addr) (c1 c2 : Nat) (l : Is) (w : World) (h1 : Bi w A1 l) (h2 : Bi w A2 l) (hn : l.length ≤ 9223372036854775807) :
    Calls Try.prog 31 #[.slice A1 l.length c1, .slice A2 l.length c2] w fun e w' => e = .returned (.bool true) ∧ Below w.heap.size w w' := by
  have H1 := hide h1
  have H2 := hide h2
  clear h1 h2
  go_enter Try.func31, Try.ntmps31
  go_wp2
  go_loopw [5] (fun i wr => ∃ k : Nat, k ≤ l.length ∧ i = .int .i64 k ∧ Hid (Below w.heap.size w wr)) (fun i _ => l.length - (intOf i).toNat)
  case atStart => exact ⟨0, Nat.zero_le _, rfl, hide (brefl _)⟩
  case round =>
    obtain ⟨k, hk, rfl, K⟩ := hrel
    by_cases hlt : k < l.length
    · obtain ⟨b1, o1, rfl, hb1, x1⟩ := H1.out.cells K.out hlt
      obtain ⟨b2, o2, rfl, hb2, x2⟩ := H2.out.cells K.out hlt
      generalize l.getD k 0 = z at *
      go_wp2
      go_quiet (fail)
      go_wp2
      go_roundw
      case rel => exact ⟨k + 1, by omega, by go_num, hide (below_drewN K.out _)⟩
      case measure => simp [intOf]; omega
    · go_wp2
      go_ret
      exact ⟨rfl, K.out⟩
set_option maxRecDepth 100000 in
set_option maxHeartbeats 4000000 in
/-- two zones that read alike are the same -/
theorem same_any (p : Pm) (v u : Nat → Value) (L M : Fl) (w : World) (h1 : RdZ w v L) (h2 : RdZ w u M) (he : ∀ k, k < 5 → L k = M k) (hn : ∀ k, k < 5 → (L k).length ≤ 1000000) :
    Calls Try.prog 20 #[.agg (znC p v), .agg (znC p u)] w fun e w' => e = .returned (.bool true) ∧ Below w.heap.size w w' := by
  obtain ⟨W0, hW0⟩ : ∃ W0, W0 = (w.alloc (.cells (znC p v) 25)).alloc (.cells (znC p u) 25) := ⟨_, rfl⟩
  have K0 := hide (show Below w.heap.size w W0 by rw [hW0]; exact bal (bal (brefl w) _) _)
  have X := hide (show Box W0 w.heap.size 25 (znC p v) by rw [hW0]; exact (Box.new w 25 _).more _)
  have Z := hide (show Box W0 (w.heap.size + 1) 25 (znC p u) by rw [hW0]; exact Box.new2 w _ 25 _)
  have H1 := hide h1
  have H2 := hide h2
  have HE := hide he
  have HN := hide hn
  obtain ⟨g, hg⟩ : ∃ g, g = w.heap.size := ⟨_, rfl⟩
  rw [← hg] at X Z
  clear h1 h2 he hn
  obtain ⟨y0, y1, y2, y3, y4⟩ := box_zone X.out
  obtain ⟨z0, z1, z2, z3, z4⟩ := box_zone Z.out
  go_enter Try.func20, Try.ntmps20
  go_upto_region 1 with fail
  rw [← hW0, ← hg]
  clear hW0 hg
  go_wp2
  clear y0 y1 y2 y3 y4 z0 z1 z2 z3 z4
  go_loopw [5] (fun i wr => ∃ k : Nat, k ≤ 5 ∧ i = .int .i64 k ∧ Hid (Box wr g 25 (znC p v)) ∧ Hid (Box wr (g + 1) 25 (znC p u)) ∧ Hid (Below w.heap.size w wr)) (fun i _ => 5 - (intOf i).toNat)
  case atStart => exact ⟨0, Nat.zero_le _, rfl, X, Z, K0⟩
  case round =>
    clear X Z K0
    obtain ⟨k, hk, rfl, X, Z, K⟩ := hrel
    by_cases h5 : k < 5
    · have hk5 : (k : Int) < 5 := by omega
      have hle : decide ((k : Int) ≤ 4) = true := decide_eq_true (by omega)
      obtain ⟨A, c, ev, hc1, r1⟩ := H1.out k h5
      obtain ⟨A2, cc2, eu, hc2, r2⟩ := H2.out k h5
      rw [← HE.out k h5] at eu r2
      have ln := HN.out k h5
      have KD : Below wr.heap.size wr wr.drew := below_drewN (brefl _) 1
      replace K := hide (K.out.trans (KD.mono K.out.size))
      replace X := hide (X.out.below KD)
      replace Z := hide (Z.out.below KD)
      have GL := hide (show g < wr.drew.heap.size ∧ g + 1 < wr.drew.heap.size from ⟨X.out.lt, Z.out.lt⟩)
      have SI := hide (sint_any A A2 c cc2 (L k) wr.drew (r1.below K.out) (r2.below K.out) (by omega))
      have CE := hide (show (fun W => W.cell? ⟨g, 5 + k, none⟩ = some (.slice A (L k).length c) ∧ W.cell? ⟨g + 1, 5 + k, none⟩ = some (.slice A2 (L k).length cc2)) wr.drew from ⟨by have := box_list X.out h5; rw [ev] at this; exact this, by have := box_list Z.out h5; rw [eu] at this; exact this⟩)
      clear ev eu r1 r2 KD
      generalize (L k).length = n at *
      go_wp2
      refine wp_region_noPanic ?_
      refine wp_region_held_drew (S := (fun W => W.cell? ⟨g, 5 + k, none⟩ = some (.slice A n c) ∧ W.cell? ⟨g + 1, 5 + k, none⟩ = some (.slice A2 n cc2))) (by kernel_rfl) ?_ (fun hHeld => ?_)
      · exact CE.out
      generalize wr.drew = w2 at *
      refine wpAnyH_take (i := 0) (oi := ⟨some 43, _, _, _, _, _⟩) (v := ?_) rfl (by kernel_rfl) (by kernel_rfl) (by kernel_rfl) (fun _ _ _ h => h) (Or.inl ⟨by kernel_rfl, ?_⟩) (by assumption) ?_
      rotate_left 1
      · (intro w hSw; (try dsimp only at hSw); go_simp) <;> (with_reducible rfl)
      (try simp only [Act.put, List.setIfInBounds_toArray, List.set_cons_succ, List.set_cons_zero])
      refine wpAnyH_take (i := 1) (oi := ⟨some 44, _, _, _, _, _⟩) (v := ?_) rfl (by kernel_rfl) (by kernel_rfl) (by kernel_rfl) (fun _ _ _ h => h) (Or.inl ⟨by kernel_rfl, ?_⟩) (by assumption) ?_
      rotate_left 1
      · (intro w hSw; (try dsimp only at hSw); go_simp) <;> (with_reducible rfl)
      (try simp only [Act.put, List.setIfInBounds_toArray, List.set_cons_succ, List.set_cons_zero])
      refine wpAnyH_take (i := 2) (oi := ⟨some 45, _, _, _, _, _⟩) (v := ?_) rfl (by kernel_rfl) (by kernel_rfl) (by kernel_rfl) (fun _ _ _ h => h) (Or.inl ⟨by kernel_rfl, ?_⟩) (by assumption) ?_
      rotate_left 1
      · (intro w hSw; (try dsimp only at hSw); go_simp) <;> (with_reducible rfl)
      (try simp only [Act.put, List.setIfInBounds_toArray, List.set_cons_succ, List.set_cons_zero])
      refine wpAnyH_take (i := 3) (oi := ⟨some 46, _, _, _, _, _⟩) (v := ?_) rfl (by kernel_rfl) (by kernel_rfl) (by kernel_rfl) (fun _ _ _ h => h) (Or.inl ⟨by kernel_rfl, ?_⟩) (by assumption) ?_
      rotate_left 1
      · (intro w hSw; (try dsimp only at hSw); go_simp) <;> (with_reducible rfl)
      (try simp only [Act.put, List.setIfInBounds_toArray, List.set_cons_succ, List.set_cons_zero])
      refine wpAnyH_take (i := 4) (oi := ⟨some 47, _, _, _, _, _⟩) (v := ?_) rfl (by kernel_rfl) (by kernel_rfl) (by kernel_rfl) (fun _ _ _ h => h) (Or.inl ⟨by kernel_rfl, ?_⟩) (by assumption) ?_
      rotate_left 1
      · (intro w hSw; (try dsimp only at hSw); go_simp) <;> (with_reducible rfl)
      (try simp only [Act.put, List.setIfInBounds_toArray, List.set_cons_succ, List.set_cons_zero])
      refine wpAnyH_take (i := 5) (oi := ⟨some 48, _, _, _, _, _⟩) (v := ?_) rfl (by kernel_rfl) (by kernel_rfl) (by kernel_rfl) (fun _ _ _ h => h) (Or.inl ⟨by kernel_rfl, ?_⟩) (by assumption) ?_
      rotate_left 1
      · (intro w hSw; (try dsimp only at hSw); go_simp) <;> (with_reducible rfl)
      (try simp only [Act.put, List.setIfInBounds_toArray, List.set_cons_succ, List.set_cons_zero])
      refine wpAnyH_take (i := 6) (oi := ⟨some 49, _, _, _, _, _⟩) (v := ?_) rfl (by kernel_rfl) (by kernel_rfl) (by kernel_rfl) (fun _ _ _ h => h) (Or.inl ⟨by kernel_rfl, ?_⟩) (by assumption) ?_
      rotate_left 1
      · (intro w hSw; (try dsimp only at hSw); go_simp) <;> (with_reducible rfl)
      (try simp only [Act.put, List.setIfInBounds_toArray, List.set_cons_succ, List.set_cons_zero])
      refine wpAnyH_take (i := 7) (oi := ⟨some 50, _, _, _, _, _⟩) (v := ?_) rfl (by kernel_rfl) (by kernel_rfl) (by kernel_rfl) (fun _ _ _ h => h) (Or.inl ⟨by kernel_rfl, ?_⟩) (by assumption) ?_
      rotate_left 1
      · (intro w hSw; (try dsimp only at hSw); go_simp) <;> (with_reducible rfl)
      (try simp only [Act.put, List.setIfInBounds_toArray, List.set_cons_succ, List.set_cons_zero])
      refine wpAnyH_ready (rs := [8]) (by kernel_rfl) (by simp) ?_
      refine AllReadyH.cons (o := _) rfl (fun K' hK => ?_) AllReadyH.nil
      go_simp
      refine SI.out.mono ?_
      rintro e w5 ⟨rfl, hb⟩
      replace CE := hide (show (fun W => W.cell? ⟨g, 5 + k, none⟩ = some (.slice A n c) ∧ W.cell? ⟨g + 1, 5 + k, none⟩ = some (.slice A2 n cc2)) w5 from ⟨(hb.cell (p := ⟨g, 5 + k, none⟩) GL.out.1).trans CE.out.1, (hb.cell (p := ⟨g + 1, 5 + k, none⟩) GL.out.2).trans CE.out.2⟩)
      replace X := hide (X.out.below hb)
      replace Z := hide (Z.out.below hb)
      replace K := hide (K.out.trans (hb.mono K.out.size))
      clear hb
      refine hK.out _ _ ?_ (fun hHeld => ?_)
      · exact CE.out
      clear hK K'
      (try simp only [Act.put, List.setIfInBounds_toArray, List.set_cons_succ, List.set_cons_zero])
      refine wpAnyH_take (i := 9) (oi := ⟨some 52, _, _, _, _, _⟩) (v := ?_) rfl (by kernel_rfl) (by kernel_rfl) (by kernel_rfl) (fun _ _ _ h => h) (Or.inl ⟨by kernel_rfl, ?_⟩) (by assumption) ?_
      rotate_left 1
      · (intro w hSw; (try dsimp only at hSw); go_simp) <;> (with_reducible rfl)
      (try simp only [Act.put, List.setIfInBounds_toArray, List.set_cons_succ, List.set_cons_zero])
      refine wpAnyH_done (by kernel_rfl) ?_ _
      refine NoPanic.normal ?_
      go_wp2
      go_roundw
      case rel => first | exact ⟨k + 1, by omega, by go_num, X, Z, K⟩ | ((repeat apply Exists.intro); exact ⟨⟨k + 1, by omega, by go_num, X, Z, K⟩, rfl⟩)
      case measure => simp [intOf]; omega
    · obtain rfl : k = 5 := by omega
      go_wp2
      go_ret
      exact ⟨rfl, K.out⟩
def few (L : Fl) : Prop := ∀ k, k < 5 → (L k).length ≤ 300
instance (L : Fl) : Decidable (few L) := by unfold few; infer_instance
set_option maxRecDepth 100000 in
theorem few_any (p : Pm) (v : Nat → Value) (L : Fl) (w : World) (h1 : RdZ w v L) :
    Calls Try.prog 15 #[.agg (znC p v)] w fun e w' => e = .returned (.bool (decide (few L))) ∧ Below w.heap.size w w' := by
  have X := hide (Box.new w 25 (znC p v))
  have K0 := hide (bal (brefl w) (.cells (znC p v) 25))
  have H1 := hide h1
  obtain ⟨res, hres⟩ : ∃ r, r = decide (few L) := ⟨_, rfl⟩
  rw [← hres]
  have HRes := hide hres
  clear hres h1
  obtain ⟨g, hg⟩ : ∃ g, g = w.heap.size := ⟨_, rfl⟩
  obtain ⟨W0, hW0⟩ : ∃ W0, W0 = (w.alloc (.cells (znC p v) 25)) := ⟨_, rfl⟩
  rw [← hg, ← hW0] at X
  rw [← hW0] at K0
  go_enter Try.func15, Try.ntmps15
  go_upto_region 1 with fail
  rw [← hg, ← hW0]
  clear hg hW0
  go_wp2
  go_loopw [3] (fun i wr => ∃ k : Nat, k ≤ 5 ∧ i = .int .i64 k ∧ Hid (∀ j, j < k → (L j).length ≤ 300) ∧ wr = W0) (fun i _ => 5 - (intOf i).toNat)
  case atStart => exact ⟨0, Nat.zero_le _, rfl, hide (fun j hj => absurd hj (Nat.not_lt_zero _)), rfl⟩
  case round =>
    obtain ⟨k, hk, rfl, N, rfl⟩ := hrel
    by_cases h5 : k < 5
    · have hk5 : (k : Int) < 5 := by omega
      have hle : decide ((k : Int) ≤ 4) = true := decide_eq_true (by omega)
      have s0 := box_list X.out h5
      obtain ⟨A, c, ev, hcap, r⟩ := H1.out k h5
      rw [ev] at s0
      by_cases hl : (L k).length ≤ 300
      · have N2 := hide (show ∀ j, j < k + 1 → (L j).length ≤ 300 from fun j hj => by
          by_cases e : j = k
          · rw [e]; exact hl
          · exact N.out j (by omega))
        clear ev r hcap N
        generalize (L k).length = n at *
        go_wp2
        go_roundw
        case rel => exact ⟨k + 1, by omega, by go_num, N2, by first | rfl | trivial⟩
        case measure => simp [intOf]; omega
      · have E := hide (show res = false by rw [HRes.out]; exact decide_eq_false (fun h => hl (h k h5)))
        clear ev r hcap N
        generalize (L k).length = n at *
        go_wp2
        go_ret
        exact ⟨ret_bool E.out.symm, K0.out⟩
    · obtain rfl : k = 5 := by omega
      have E := hide (show res = true by rw [HRes.out]; exact decide_eq_true N.out)
      go_wp2
      go_ret
      exact ⟨ret_bool E.out.symm, K0.out⟩
end Go.Proofs.Ytflplldamefhoaa.Bd
