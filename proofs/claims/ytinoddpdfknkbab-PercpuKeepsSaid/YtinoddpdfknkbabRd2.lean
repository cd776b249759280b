import Derived.Test.YtinoddpdfknkbabRd1
namespace Go.Proofs.Ytinoddpdfknkbab.Pc
open Go Go.RowKit
set_option linter.unusedVariables false
theorem below_drew {B : Nat} {a w : World} (h : Below B a w) : Below B a w.drew := ⟨h.os, h.tape, h.output, h.size, h.block⟩
/-- no list is too long -/
def Sz (m n : Nat) (C : Ls) : Prop := C.length ≤ m ∧ ∀ k, k < C.length → (lAt C k).length ≤ n
set_option maxHeartbeats 2000000 in
theorem same_ca (v1 v2 : Value) (C : Ls) (w : World) (h1 : CaIn w v1 C) (h2 : CaIn w v2 C) (hS : Sz 9223372036854775807 9223372036854775807 C) :
    Calls Try.prog 13 #[v1, v2] w fun e w' => e = .returned (.bool true) ∧ Below w.heap.size w w' := by
  obtain ⟨A1, c1, rfl, _, r1⟩ := h1
  obtain ⟨A2, c2, rfl, _, r2⟩ := h2
  obtain ⟨W0, hW0⟩ : ∃ W0, W0 = (w.alloc (.cells #[.slice A1 C.length c1] 24)).alloc (.cells #[.slice A2 C.length c2] 24) := ⟨_, rfl⟩
  have K0 := hide (show Below w.heap.size w W0 by rw [hW0]; exact bal (bal (brefl w) _) _)
  have X := hide (show Box W0 w.heap.size 24 #[.slice A1 C.length c1] by rw [hW0]; exact (Box.new w 24 _).more _)
  have Y := hide (show Box W0 (w.heap.size + 1) 24 #[.slice A2 C.length c2] by rw [hW0]; exact Box.new2 _ _ _ _)
  have R1 := hide (r1.below K0.out)
  have R2 := hide (r2.below K0.out)
  have HS := hide hS.2
  have ln := hS.1
  clear r1 r2 hS
  go_enter Try.func13, Try.ntmps13
  go_upto_region 1 with fail
  rw [← hW0]
  clear hW0
  have s1 := X.out.cell 0
  have s2 := Y.out.cell 0
  simp at s1 s2
  go_wp2
  clear s1 s2
  go_loopw [5, 16] (fun _ i wr => ∃ k : Nat, k ≤ C.length ∧ i = .int .i64 k ∧ Hid (Below W0.heap.size W0 wr)) (fun _ i _ => C.length - (intOf i).toNat)
  case atStart => exact ⟨0, Nat.zero_le _, rfl, hide (brefl _)⟩
  case round =>
    obtain ⟨k, hk, rfl, K⟩ := hrel
    have s1 := (X.out.below K.out).cell 0
    have s2 := (Y.out.below K.out).cell 0
    simp at s1 s2
    by_cases hlt : k < C.length
    · obtain ⟨b1, o1, u1, rfl, hl1, x1, hv1⟩ := R1.out.cells K.out hlt
      obtain ⟨b2, o2, u2, rfl, hl2, x2, hv2⟩ := R2.out.cells K.out hlt
      obtain ⟨D1, d1, rfl, _, q1⟩ := hv1
      obtain ⟨D2, d2, rfl, _, q2⟩ := hv2
      have Q := hide (fun W (hb : Below wr.heap.size wr W) => slist_any D1 D2 d1 d2 (lAt C k) W (q1.below hb) (q2.below hb) (HS.out k hlt))
      generalize (lAt C k).length = n1 at *
      clear q1 q2
      have KK := hide (below_drew (brefl wr))
      have CE := hide (fun (W : World) (h : Below wr.heap.size wr W) => (⟨(h.cell (p := ⟨w.heap.size, 0, none⟩) (Nat.lt_of_lt_of_le X.out.lt K.out.size)).trans s1, (h.cell (p := ⟨w.heap.size + 1, 0, none⟩) (Nat.lt_of_lt_of_le Y.out.lt K.out.size)).trans s2, (h.cell (p := ⟨b1, o1 + k, none⟩) (Nat.lt_of_lt_of_le hl1 K.out.size)).trans x1, (h.cell (p := ⟨b2, o2 + k, none⟩) (Nat.lt_of_lt_of_le hl2 K.out.size)).trans x2⟩ : W.cell? ⟨w.heap.size, 0, none⟩ = some (.slice (some ⟨b1, o1, none⟩) C.length c1) ∧ W.cell? ⟨w.heap.size + 1, 0, none⟩ = some (.slice (some ⟨b2, o2, none⟩) C.length c2) ∧ W.cell? ⟨b1, o1 + k, none⟩ = some (.slice D1 n1 d1) ∧ W.cell? ⟨b2, o2 + k, none⟩ = some (.slice D2 n1 d2)))
      go_wp2
      refine wp_region_noPanic ?_
      refine wp_region_held_drew (S := (fun W => W.cell? ⟨w.heap.size, 0, none⟩ = some (.slice (some ⟨b1, o1, none⟩) C.length c1) ∧ W.cell? ⟨w.heap.size + 1, 0, none⟩ = some (.slice (some ⟨b2, o2, none⟩) C.length c2) ∧ W.cell? ⟨b1, o1 + k, none⟩ = some (.slice D1 n1 d1) ∧ W.cell? ⟨b2, o2 + k, none⟩ = some (.slice D2 n1 d2))) (by kernel_rfl) ?_ (fun hHeld => ?_)
      · exact CE.out _ KK.out
      refine wpAnyH_take (i := 0) (oi := ⟨some 19, _, _, _, _, _⟩) (v := ?_) rfl (by kernel_rfl) (by kernel_rfl) (by kernel_rfl) (fun _ _ _ h => h) (Or.inl ⟨by kernel_rfl, ?_⟩) (by assumption) ?_
      rotate_left 1
      · (intro w hSw; (try dsimp only at hSw); go_simp) <;> (with_reducible rfl)
      (try simp only [Act.put, List.setIfInBounds_toArray, List.set_cons_succ, List.set_cons_zero])
      refine wpAnyH_take (i := 1) (oi := ⟨some 20, _, _, _, _, _⟩) (v := ?_) rfl (by kernel_rfl) (by kernel_rfl) (by kernel_rfl) (fun _ _ _ h => h) (Or.inl ⟨by kernel_rfl, ?_⟩) (by assumption) ?_
      rotate_left 1
      · (intro w hSw; (try dsimp only at hSw); go_simp) <;> (with_reducible rfl)
      (try simp only [Act.put, List.setIfInBounds_toArray, List.set_cons_succ, List.set_cons_zero])
      refine wpAnyH_take (i := 2) (oi := ⟨some 21, _, _, _, _, _⟩) (v := ?_) rfl (by kernel_rfl) (by kernel_rfl) (by kernel_rfl) (fun _ _ _ h => h) (Or.inl ⟨by kernel_rfl, ?_⟩) (by assumption) ?_
      rotate_left 1
      · (intro w hSw; (try dsimp only at hSw); go_simp) <;> (with_reducible rfl)
      (try simp only [Act.put, List.setIfInBounds_toArray, List.set_cons_succ, List.set_cons_zero])
      refine wpAnyH_take (i := 3) (oi := ⟨some 22, _, _, _, _, _⟩) (v := ?_) rfl (by kernel_rfl) (by kernel_rfl) (by kernel_rfl) (fun _ _ _ h => h) (Or.inl ⟨by kernel_rfl, ?_⟩) (by assumption) ?_
      rotate_left 1
      · (intro w hSw; (try dsimp only at hSw); go_simp) <;> (with_reducible rfl)
      (try simp only [Act.put, List.setIfInBounds_toArray, List.set_cons_succ, List.set_cons_zero])
      refine wpAnyH_take (i := 4) (oi := ⟨some 23, _, _, _, _, _⟩) (v := ?_) rfl (by kernel_rfl) (by kernel_rfl) (by kernel_rfl) (fun _ _ _ h => h) (Or.inl ⟨by kernel_rfl, ?_⟩) (by assumption) ?_
      rotate_left 1
      · (intro w hSw; (try dsimp only at hSw); go_simp) <;> (with_reducible rfl)
      (try simp only [Act.put, List.setIfInBounds_toArray, List.set_cons_succ, List.set_cons_zero])
      refine wpAnyH_take (i := 5) (oi := ⟨some 24, _, _, _, _, _⟩) (v := ?_) rfl (by kernel_rfl) (by kernel_rfl) (by kernel_rfl) (fun _ _ _ h => h) (Or.inl ⟨by kernel_rfl, ?_⟩) (by assumption) ?_
      rotate_left 1
      · (intro w hSw; (try dsimp only at hSw); go_simp) <;> (with_reducible rfl)
      (try simp only [Act.put, List.setIfInBounds_toArray, List.set_cons_succ, List.set_cons_zero])
      refine wpAnyH_take (i := 6) (oi := ⟨some 25, _, _, _, _, _⟩) (v := ?_) rfl (by kernel_rfl) (by kernel_rfl) (by kernel_rfl) (fun _ _ _ h => h) (Or.inl ⟨by kernel_rfl, ?_⟩) (by assumption) ?_
      rotate_left 1
      · (intro w hSw; (try dsimp only at hSw); go_simp) <;> (with_reducible rfl)
      (try simp only [Act.put, List.setIfInBounds_toArray, List.set_cons_succ, List.set_cons_zero])
      refine wpAnyH_take (i := 7) (oi := ⟨some 26, _, _, _, _, _⟩) (v := ?_) rfl (by kernel_rfl) (by kernel_rfl) (by kernel_rfl) (fun _ _ _ h => h) (Or.inl ⟨by kernel_rfl, ?_⟩) (by assumption) ?_
      rotate_left 1
      · (intro w hSw; (try dsimp only at hSw); go_simp) <;> (with_reducible rfl)
      (try simp only [Act.put, List.setIfInBounds_toArray, List.set_cons_succ, List.set_cons_zero])
      refine wpAnyH_take (i := 8) (oi := ⟨some 27, _, _, _, _, _⟩) (v := ?_) rfl (by kernel_rfl) (by kernel_rfl) (by kernel_rfl) (fun _ _ _ h => h) (Or.inl ⟨by kernel_rfl, ?_⟩) (by assumption) ?_
      rotate_left 1
      · (intro w hSw; (try dsimp only at hSw); go_simp) <;> (with_reducible rfl)
      (try simp only [Act.put, List.setIfInBounds_toArray, List.set_cons_succ, List.set_cons_zero])
      refine wpAnyH_take (i := 9) (oi := ⟨some 28, _, _, _, _, _⟩) (v := ?_) rfl (by kernel_rfl) (by kernel_rfl) (by kernel_rfl) (fun _ _ _ h => h) (Or.inl ⟨by kernel_rfl, ?_⟩) (by assumption) ?_
      rotate_left 1
      · (intro w hSw; (try dsimp only at hSw); go_simp) <;> (with_reducible rfl)
      (try simp only [Act.put, List.setIfInBounds_toArray, List.set_cons_succ, List.set_cons_zero])
      refine wpAnyH_ready (rs := [10]) (by kernel_rfl) (by simp) ?_
      refine AllReadyH.cons (o := _) rfl (fun K' hK => ?_) AllReadyH.nil
      go_simp
      refine (Q.out _ KK.out).mono ?_
      rintro e wk ⟨rfl, hbk⟩
      replace KK := hide (btrans KK.out hbk)
      clear hbk
      refine hK.out _ _ ?_ (fun hHeld => ?_)
      · exact CE.out _ KK.out
      clear hK K'
      (try simp only [Act.put, List.setIfInBounds_toArray, List.set_cons_succ, List.set_cons_zero])
      refine wpAnyH_take (i := 11) (oi := ⟨some 30, _, _, _, _, _⟩) (v := ?_) rfl (by kernel_rfl) (by kernel_rfl) (by kernel_rfl) (fun _ _ _ h => h) (Or.inl ⟨by kernel_rfl, ?_⟩) (by assumption) ?_
      rotate_left 1
      · (intro w hSw; (try dsimp only at hSw); go_simp) <;> (with_reducible rfl)
      (try simp only [Act.put, List.setIfInBounds_toArray, List.set_cons_succ, List.set_cons_zero])
      refine wpAnyH_done (by kernel_rfl) ?_ _
      refine NoPanic.normal ?_
      go_wp2
      go_roundw
      case rel => exact ⟨k + 1, by omega, by go_num, hide (btrans K.out KK.out)⟩
      case measure => simp [intOf]; omega
    · go_wp2
      go_ret
      exact ⟨rfl, btrans K0.out K.out⟩
/-- what Few answers -/
def FewR (C : Ls) (w : World) (e : Ending) (w' : World) : Prop := ∃ b, e = .returned (.bool b) ∧ (b = true → Sz 20 300 C) ∧ Below w.heap.size w w'
theorem few_ca (v : Value) (C : Ls) (w : World) (h : CaIn w v C) (hS : Sz 9223372036854775807 9223372036854775807 C) : Calls Try.prog 9 #[v] w (FewR C w) := by
  obtain ⟨A, c, rfl, _, r⟩ := h
  have K0 := hide (bal (brefl w) (.cells #[.slice A C.length c] 24))
  have X := hide (Box.new w 24 #[.slice A C.length c])
  have R := hide (r.below K0.out)
  have HS := hide hS.2
  have ln := hS.1
  clear r hS
  have s1 := X.out.cell 0
  simp at s1
  by_cases g : 20 < C.length
  · have hd : decide ((20 : Int) < (C.length : Int)) = true := decide_eq_true (by omega)
    clear g
    go_enter Try.func9, Try.ntmps9
    go_wp2
    go_ret
    exact ⟨false, rfl, (fun e => by cases e), K0.out⟩
  have hd : decide ((20 : Int) < (C.length : Int)) = false := decide_eq_false (by omega)
  go_enter Try.func9, Try.ntmps9
  go_wp2
  clear s1 hd
  go_loop [4, 12] (fun _ i => ∃ k : Nat, k ≤ C.length ∧ i = .int .i64 k ∧ Hid (∀ j, j < k → (lAt C j).length ≤ 300)) (fun _ i => C.length - (intOf i).toNat)
  case atStart => exact ⟨0, Nat.zero_le _, rfl, hide (fun j hj => by omega)⟩
  case round =>
    obtain ⟨k, hk, rfl, HK⟩ := hrel
    by_cases hlt : k < C.length
    · obtain ⟨b1, o1, u1, rfl, hl1, x1, hv1⟩ := R.out.cells (brefl _) hlt
      obtain ⟨D1, d1, rfl, _, q1⟩ := hv1
      have lk := HS.out k hlt
      by_cases g2 : 300 < (lAt C k).length
      · have hd : decide ((300 : Int) < ((lAt C k).length : Int)) = true := decide_eq_true (by omega)
        clear q1
        go_wp2
        go_ret
        exact ⟨false, rfl, (fun e => by cases e), K0.out⟩
      · have hd : decide ((300 : Int) < ((lAt C k).length : Int)) = false := decide_eq_false (by omega)
        clear q1
        go_wp2
        go_round
        case rel => exact ⟨k + 1, by omega, by go_num, hide (fun j hj => by
          by_cases e : j = k
          · subst e; omega
          · exact HK.out j (by omega))⟩
        case measure => simp [intOf]; omega
    · go_wp2
      go_ret
      exact ⟨true, rfl, fun _ => ⟨by omega, fun j hj => HK.out j (by omega)⟩, K0.out⟩
end Go.Proofs.Ytinoddpdfknkbab.Pc
