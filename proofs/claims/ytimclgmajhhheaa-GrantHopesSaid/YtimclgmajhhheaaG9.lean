import Derived.Test.YtimclgmajhhheaaG8
namespace Go.Proofs.Ytimclgmajhhheaa.Gr
open Go Go.RowKit Ac
set_option linter.unusedVariables false
set_option linter.unusedSimpArgs false
theorem mx_bd {L : List A5} (V : Vd L) {k : Nat} (hk : k < L.length) : 0 ≤ Ac.mx L k ∧ Ac.mx L k ≤ 1048576 := by have := (V.rg k hk).2.2; unfold inr at this; exact this
set_option maxRecDepth 100000 in
set_option maxHeartbeats 8000000 in
theorem hop_any (pc ac ke us : Int) (ok : okQ ⟨pc, ac, ke, us⟩) (g4 g5 : Nat) (A : Option Addr) (cp : Nat) (L : List A5) (x : Int) (hx : 0 ≤ x ∧ x < L.length) (V : Vd L) (w : World) (X : QB w g4 ⟨pc, ac, ke, us⟩) (Y : Box w g5 35 #[.slice A L.length cp]) (hr : As w A L) : Calls Try.prog 75 #[.int .i64 x, .pointer (some ⟨g4, 0, none⟩), .pointer (some ⟨g5, 0, none⟩)] w fun e w' => e = .returned (.bool (decide (Ac.mx L x.toNat < ke + us))) ∧ Below w.heap.size w w' := by
  obtain ⟨k, rfl⟩ := Int.eq_ofNat_of_zero_le hx.1
  have hk : k < L.length := by omega
  have hk2 : (k : Int) < (L.length : Int) := by omega
  have hk0 : (0 : Int) ≤ (k : Int) := by omega
  obtain ⟨b, off, rfl, hbl, -, -, -, -, y4⟩ := hr.cells (brefl _) hk
  have bd := mx_bd V hk
  rw [Int.toNat_natCast]
  have TQ := hide (fun w => tot_q pc ac ke us w ok)
  obtain ⟨wd, hwd⟩ : ∃ v, v = w.drew := ⟨_, rfl⟩
  have M := below_drewN (brefl w) 1
  have Y2 : w.drew.cell? ⟨g5, 0, none⟩ = some (.slice (some ⟨b, off, none⟩) L.length cp) := (M.cell (p := ⟨g5, 0, none⟩) (Box.lt Y)).trans (Box.cell Y 0)
  have y42 : w.drew.cell? ⟨b, off + k * 5 + 4, none⟩ = some (.int .i64 (Ac.mx L k)) := (M.cell (p := ⟨b, _, none⟩) hbl).trans y4
  replace X := hide (show QB w.drew g4 ⟨pc, ac, ke, us⟩ from QB.below X M)
  have K := hide (show Below w.heap.size w w.drew from M)
  have LT5 := hide (show g5 < w.drew.heap.size from Box.lt Y)
  have LTb := hide (show b < w.drew.heap.size from hbl)
  have i1 := ok.2.2.1
  have i2 := ok.2.2.2
  unfold inr at i1 i2
  dsimp only at i1 i2
  obtain ⟨a1, a2⟩ := i1
  obtain ⟨c1, c2⟩ := i2
  clear hr V hx Y y4 ok M
  generalize Ac.mx L k = m1 at *
  generalize L.length = q at *
  obtain ⟨b1, b2⟩ := bd
  rw [← hwd] at Y2 y42 X K LT5 LTb
  have HWD := hide hwd
  clear hwd
  have Y3 := hide (fun W (h : Below wd.heap.size wd W) => (h.cell (p := ⟨g5, 0, none⟩) LT5.out).trans Y2)
  have y5 := hide (fun W (h : Below wd.heap.size wd W) => (h.cell (p := ⟨b, off + k * 5 + 4, none⟩) LTb.out).trans y42)
  have KD := hide (brefl wd)
  clear Y2 y42
  go_enter Try.func75, Try.ntmps75
  go_upto_region 1 with fail
  refine wp_region_noPanic ?_
  refine wp_region_held_drew (S := (fun W => (W.cell? ⟨g4, 0, none⟩ = some (.int .i64 pc) ∧ W.cell? ⟨g4, 1, none⟩ = some (.int .i64 ac) ∧ W.cell? ⟨g4, 2, none⟩ = some (.int .i64 ke) ∧ W.cell? ⟨g4, 3, none⟩ = some (.int .i64 us)) ∧ W.cell? ⟨g5, 0, none⟩ = some (.slice (some ⟨b, off, none⟩) q cp) ∧ W.cell? ⟨b, off + k * 5 + 4, none⟩ = some (.int .i64 m1))) (by kernel_rfl) ?_ (fun hHeld => ?_)
  · first | exact ⟨QB.cells X.out, Y3.out _ KD.out, y5.out _ KD.out⟩ | (rw [← HWD.out]; exact ⟨QB.cells X.out, Y3.out _ KD.out, y5.out _ KD.out⟩)
  rw [← HWD.out] at hHeld ⊢
  refine wpAnyH_take (i := 0) (oi := ⟨some 5, _, _, _, _, _⟩) (v := ?_) rfl (by kernel_rfl) (by kernel_rfl) (by kernel_rfl) (fun _ _ _ h => h) (Or.inl ⟨by kernel_rfl, ?_⟩) (by assumption) ?_
  rotate_left 1
  · (intro w hSw; (try dsimp only at hSw); go_simp) <;> (with_reducible rfl)
  (try simp only [Act.put, List.setIfInBounds_toArray, List.set_cons_succ, List.set_cons_zero])
  refine wpAnyH_take (i := 2) (oi := ⟨some 7, _, _, _, _, _⟩) (v := ?_) rfl (by kernel_rfl) (by kernel_rfl) (by kernel_rfl) (fun _ _ _ h => h) (Or.inl ⟨by kernel_rfl, ?_⟩) (by assumption) ?_
  rotate_left 1
  · (intro w hSw; (try dsimp only at hSw); go_simp) <;> (with_reducible rfl)
  (try simp only [Act.put, List.setIfInBounds_toArray, List.set_cons_succ, List.set_cons_zero])
  refine wpAnyH_take (i := 3) (oi := ⟨some 8, _, _, _, _, _⟩) (v := ?_) rfl (by kernel_rfl) (by kernel_rfl) (by kernel_rfl) (fun _ _ _ h => h) (Or.inl ⟨by kernel_rfl, ?_⟩) (by assumption) ?_
  rotate_left 1
  · (intro w hSw; (try dsimp only at hSw); go_simp) <;> (with_reducible rfl)
  (try simp only [Act.put, List.setIfInBounds_toArray, List.set_cons_succ, List.set_cons_zero])
  refine wpAnyH_take (i := 4) (oi := ⟨some 9, _, _, _, _, _⟩) (v := ?_) rfl (by kernel_rfl) (by kernel_rfl) (by kernel_rfl) (fun _ _ _ h => h) (Or.inl ⟨by kernel_rfl, ?_⟩) (by assumption) ?_
  rotate_left 1
  · (intro w hSw; (try dsimp only at hSw); go_simp) <;> (with_reducible rfl)
  (try simp only [Act.put, List.setIfInBounds_toArray, List.set_cons_succ, List.set_cons_zero])
  refine wpAnyH_take (i := 5) (oi := ⟨some 10, _, _, _, _, _⟩) (v := ?_) rfl (by kernel_rfl) (by kernel_rfl) (by kernel_rfl) (fun _ _ _ h => h) (Or.inl ⟨by kernel_rfl, ?_⟩) (by assumption) ?_
  rotate_left 1
  · (intro w hSw; (try dsimp only at hSw); go_simp) <;> (with_reducible rfl)
  (try simp only [Act.put, List.setIfInBounds_toArray, List.set_cons_succ, List.set_cons_zero])
  refine wpAnyH_take (i := 6) (oi := ⟨some 11, _, _, _, _, _⟩) (v := ?_) rfl (by kernel_rfl) (by kernel_rfl) (by kernel_rfl) (fun _ _ _ h => h) (Or.inl ⟨by kernel_rfl, ?_⟩) (by assumption) ?_
  rotate_left 1
  · (intro w hSw; (try dsimp only at hSw); go_simp) <;> (with_reducible rfl)
  (try simp only [Act.put, List.setIfInBounds_toArray, List.set_cons_succ, List.set_cons_zero])
  refine wpAnyH_ready (rs := [1]) (by kernel_rfl) (by simp) ?_
  refine AllReadyH.cons (o := ⟨some 6, _, _, _, _, _⟩) rfl (fun K' hK => ?_) AllReadyH.nil
  go_simp
  refine (TQ.out _).mono ?_
  rintro e w2 ⟨rfl, hb⟩
  replace K := hide (btrans K.out hb)
  replace X := hide (X.out.below hb)
  replace KD := hide (btrans KD.out hb)
  clear hb
  refine hK.out _ _ ?_ (fun hHeld => ?_)
  · first | exact ⟨QB.cells X.out, Y3.out _ KD.out, y5.out _ KD.out⟩ | (rw [← HWD.out]; exact ⟨QB.cells X.out, Y3.out _ KD.out, y5.out _ KD.out⟩)
  clear hK K'
  (try simp only [Act.put, List.setIfInBounds_toArray, List.set_cons_succ, List.set_cons_zero])
  refine wpAnyH_take (i := 7) (oi := ⟨some 12, _, _, _, _, _⟩) (v := ?_) rfl (by kernel_rfl) (by kernel_rfl) (by kernel_rfl) (fun _ _ _ h => h) (Or.inl ⟨by kernel_rfl, ?_⟩) (by assumption) ?_
  rotate_left 1
  · (intro w hSw; (try dsimp only at hSw); go_simp) <;> (with_reducible rfl)
  (try simp only [Act.put, List.setIfInBounds_toArray, List.set_cons_succ, List.set_cons_zero])
  refine wpAnyH_take (i := 8) (oi := ⟨some 4, _, _, _, _, _⟩) (v := ?_) rfl (by kernel_rfl) (by kernel_rfl) (by kernel_rfl) (fun _ _ _ h => h) (Or.inl ⟨by kernel_rfl, ?_⟩) (by assumption) ?_
  rotate_left 1
  · (intro w hSw; (try dsimp only at hSw); go_simp) <;> (with_reducible rfl)
  (try simp only [Act.put, List.setIfInBounds_toArray, List.set_cons_succ, List.set_cons_zero])
  refine wpAnyH_done (by kernel_rfl) ?_ _
  refine NoPanic.normal ?_
  go_wp2
  go_ret
  exact ⟨rfl, K.out⟩
set_option maxRecDepth 100000 in
set_option maxHeartbeats 8000000 in
theorem hidx_any (AP : Option Addr) (c2 : Nat) (P : Is) (pc ac ke us : Int) (ok : okQ ⟨pc, ac, ke, us⟩) (g4 g5 : Nat) (A : Option Addr) (cp : Nat) (L : List A5) (hP : ∀ x ∈ P, 0 ≤ x ∧ x < (L.length : Int)) (h9 : P.length ≤ 1000) (V : Vd L) (w : World) (hp : Bi w AP P) (X : QB w g4 ⟨pc, ac, ke, us⟩) (Y : Box w g5 35 #[.slice A L.length cp]) (hr : As w A L) : Calls Try.prog 107 #[.slice AP P.length c2, .func (.func 75) #[] #[.pointer (some ⟨g4, 0, none⟩), .pointer (some ⟨g5, 0, none⟩)]] w (IxB (∀ x ∈ P, ke + us ≤ Ac.mx L x.toNat) w) := by
  have HP := hide hp
  have HH := hide hP
  have CR := hide (fun (x : Int) (hx : 0 ≤ x ∧ x < L.length) w' (h : Below w.heap.size w w') => hop_any pc ac ke us ok g4 g5 A cp L x hx V w' (X.below h) (Box.below Y h) (hr.below h))
  have eg : ∀ args w, (callFunc 75 args).run Try.prog w = .ok (.enter 75 args) w := Go.Proofs.enters_of Try.func75 (by kernel_rfl) rfl
  have K0 := hide (brefl w)
  clear hp hP X Y hr V ok
  go_enter Try.func107, Try.ntmps107
  go_wp2
  go_loopw [5, 8] (fun _ c wr => ∃ k : Nat, k ≤ P.length ∧ c = .int .i64 k ∧ Hid (∀ j, j < k → ke + us ≤ Ac.mx L (P.getD j 0).toNat) ∧ Hid (Below w.heap.size w wr)) (fun _ c _ => P.length - (intOf c).toNat)
  case atStart => exact ⟨0, Nat.zero_le _, rfl, hide (fun j h => by omega), K0⟩
  case round =>
    clear K0
    obtain ⟨k, hk, rfl, N, K⟩ := hrel
    by_cases hlt : k < P.length
    · have hl2 : (k : Int) < (P.length : Int) := by omega
      have hk0 : (0 : Int) ≤ (k : Int) := by omega
      obtain ⟨b, off, rfl, hbl, y0⟩ := HP.out.cells K.out hlt
      have C := hide (CR.out (P.getD k 0) (HH.out _ (getD_mem hlt)) wr K.out)
      have PM := hide (getD_mem hlt)
      by_cases hc : Ac.mx L (P.getD k 0).toNat < ke + us
      · have E := hide (show ¬ (∀ x ∈ P, ke + us ≤ Ac.mx L x.toNat) from fun h => by have := h _ PM.out; omega)
        rw [decide_eq_true hc] at C
        clear hc N PM
        generalize P.getD k 0 = z at *
        go_wp2_with fail
        refine C.out.mono ?_
        rintro e w' ⟨rfl, hb⟩
        replace K := hide (btrans K.out hb)
        clear C hb y0
        go_wp2
        go_ret
        exact ixb (i := (k : Int)) ⟨fun _ => E.out, fun _ => by omega⟩ K.out
      · have N2 := hide (all_next (P := fun j => ke + us ≤ Ac.mx L (P.getD j 0).toNat) N.out (by omega))
        rw [decide_eq_false hc] at C
        clear hc N PM
        generalize P.getD k 0 = z at *
        go_wp2_with fail
        refine C.out.mono ?_
        rintro e w' ⟨rfl, hb⟩
        replace K := hide (btrans K.out hb)
        clear C hb y0
        go_wp2
        go_roundw
        case rel => exact ⟨k + 1, by omega, by go_num, N2, K⟩
        case measure => simp [intOf]; omega
    · obtain rfl : k = P.length := by omega
      have E := hide (show ∀ x ∈ P, ke + us ≤ Ac.mx L x.toNat from fun x hx => by
        obtain ⟨j, hj, rfl⟩ := mem_at.1 hx
        exact N.out j hj)
      go_wp2
      go_ret
      exact ixb (i := -1) ⟨fun h => by omega, fun h => absurd E.out h⟩ K.out
set_option maxRecDepth 100000 in
set_option maxHeartbeats 8000000 in
theorem hcont_any (AP : Option Addr) (c2 : Nat) (P : Is) (pc ac ke us : Int) (ok : okQ ⟨pc, ac, ke, us⟩) (g4 g5 : Nat) (A : Option Addr) (cp : Nat) (L : List A5) (hP : ∀ x ∈ P, 0 ≤ x ∧ x < (L.length : Int)) (h9 : P.length ≤ 1000) (V : Vd L) (w : World) (hp : Bi w AP P) (X : QB w g4 ⟨pc, ac, ke, us⟩) (Y : Box w g5 35 #[.slice A L.length cp]) (hr : As w A L) : Calls Try.prog 77 #[.slice AP P.length c2, .func (.func 75) #[] #[.pointer (some ⟨g4, 0, none⟩), .pointer (some ⟨g5, 0, none⟩)]] w fun e w' => e = .returned (.bool (!decide (∀ x ∈ P, ke + us ≤ Ac.mx L x.toNat))) ∧ Below w.heap.size w w' := by
  have H := hide (hidx_any AP c2 P pc ac ke us ok g4 g5 A cp L hP h9 V w hp X Y hr)
  clear hr hp X Y hP V ok
  go_enter Try.func77, Try.ntmps77
  go_wp2_with fail
  refine H.out.mono ?_
  rintro e w1 ⟨i, rfl, hi, hb1⟩
  have K := hide hb1
  have I := hide hi
  clear hb1 hi
  go_wp2
  go_ret
  exact ⟨ret_bool (by rw [← I.out]), K.out⟩
theorem hp_no {a : A4} {L : List A5} {n m : Int} (h : ¬ hpP a L n m) : hpB a L n m = true := by unfold hpB; rw [decide_eq_false h]; rfl
theorem hp_yes {a : A4} {L : List A5} {n m : Int} (ok : okQ a) (hm : mE L a.ac = 0) : hpB a L n m = !(decide (∀ x ∈ pth L a.ac, tot a ≤ Ac.mx L x.toNat) && decide (a.ke ≤ n) && decide (tot a ≤ m)) := by
  unfold hpB hpP
  rw [Bool.eq_iff_iff]
  simp [ok, hm, or_assoc]
set_option maxRecDepth 100000 in
set_option maxHeartbeats 8000000 in
theorem hopeless_any (pc ac ke us : Int) (A : Option Addr) (cp : Nat) (L : List A5) (n m : Int) (w : World) (hr : As w A L) (hcp : L.length ≤ cp) (hn : L.length ≤ 9223372036854775807) : Calls Try.prog 28 #[.agg #[.int .i64 pc, .int .i64 ac, .int .i64 ke, .int .i64 us], .slice A L.length cp, .int .i64 n, .int .i64 m] w fun e w' => e = .returned (.bool (hpB ⟨pc, ac, ke, us⟩ L n m)) ∧ Below w.heap.size w w' := by
  have X := hide (show QB ((w.alloc (.cells #[.int .i64 pc, .int .i64 ac, .int .i64 ke, .int .i64 us] 27)).alloc (.cells #[.slice A L.length cp] 35)) w.heap.size ⟨pc, ac, ke, us⟩ from Box.more (Box.new w 27 #[.int .i64 pc, .int .i64 ac, .int .i64 ke, .int .i64 us]) (.cells #[.slice A L.length cp] 35))
  have Y := hide (show Box ((w.alloc (.cells #[.int .i64 pc, .int .i64 ac, .int .i64 ke, .int .i64 us] 27)).alloc (.cells #[.slice A L.length cp] 35)) (w.heap.size + 1) 35 #[.slice A L.length cp] from Box.new2 w (.cells #[.int .i64 pc, .int .i64 ac, .int .i64 ke, .int .i64 us] 27) 35 #[.slice A L.length cp])
  have K := hide (show Below w.heap.size w ((w.alloc (.cells #[.int .i64 pc, .int .i64 ac, .int .i64 ke, .int .i64 us] 27)).alloc (.cells #[.slice A L.length cp] 35)) from bal2 w _ _)
  obtain ⟨W0, hW0⟩ : ∃ W0, W0 = (w.alloc (.cells #[.int .i64 pc, .int .i64 ac, .int .i64 ke, .int .i64 us] 27)).alloc (.cells #[.slice A L.length cp] 35) := ⟨_, rfl⟩
  rw [← hW0] at X Y K
  obtain ⟨g4, hg4⟩ : ∃ g4, g4 = w.heap.size := ⟨_, rfl⟩
  rw [← hg4] at X Y
  have HW := hide hW0
  have HB := hide hg4
  clear hW0 hg4
  have PT := hide (fun w' (h : Below w.heap.size w w') => path_any A cp L ac w' (hr.below h) hcp hn)
  have HR := hide (fun w' (h : Below w.heap.size w w') => hr.below h)
  have VA := hide (fun w => val_any pc ac ke us w)
  unfold PR at PT
  have HN := hide (fun (h : ¬ hpP ⟨pc, ac, ke, us⟩ L n m) => hp_no h)
  have HY := hide (fun (ok : okQ ⟨pc, ac, ke, us⟩) hm => hp_yes (n := n) (m := m) ok hm (L := L))
  have HQ := fun (ok : okQ ⟨pc, ac, ke, us⟩) AP c2 P hP h9 V g4 g5 => hide (fun w' (h : Below w.heap.size w w') (hp : Bi w' AP P) (X : QB w' g4 ⟨pc, ac, ke, us⟩) (Y : Box w' g5 35 #[.slice A L.length cp]) => hcont_any AP c2 P pc ac ke us ok g4 g5 A cp L hP h9 V w' hp X Y (hr.below h))
  obtain ⟨hv, hhv⟩ : ∃ v, v = hpB ⟨pc, ac, ke, us⟩ L n m := ⟨_, rfl⟩
  rw [← hhv] at HN HY ⊢
  clear hhv hr
  by_cases ho : okQ ⟨pc, ac, ke, us⟩
  rotate_left 1
  · have G := hide (HN.out (fun h => ho h.1))
    rw [decide_eq_false ho] at VA
    clear HN HY HQ ho
    generalize pR L ac = P at *
    go_enter Try.func28, Try.ntmps28
    go_upto_region 1 with fail
    rw [← HW.out, ← HB.out]
    clear HW HB
    try clear x0 x1 x2 x3 u0
    obtain ⟨x0, x1, x2, x3⟩ := QB.cells X.out
    have u0 := Box.cell Y.out 0
    simp at u0
    go_wp2_with fail
    refine (PT.out _ K.out).mono ?_
    rintro e w2 ⟨AP, c3, rfl, hO, hb⟩
    have PB := hide (OwI.bi hO)
    replace K := hide (btrans K.out hb)
    replace X := hide (X.out.below hb)
    replace Y := hide (Y.out.below hb)
    clear hb hO
    try clear x0 x1 x2 x3 u0
    obtain ⟨x0, x1, x2, x3⟩ := QB.cells X.out
    have u0 := Box.cell Y.out 0
    simp at u0
    go_wp2_with fail
    refine (VA.out _).mono ?_
    rintro e w3 ⟨rfl, hb⟩
    replace K := hide (btrans K.out hb)
    replace X := hide (X.out.below hb)
    replace Y := hide (Y.out.below hb)
    clear hb
    go_wp2
    go_ret
    exact ⟨ret_bool G.out.symm, K.out⟩
  rw [decide_eq_true ho] at VA
  by_cases hm : mE L ac = 0
  rotate_left 1
  · have G := hide (HN.out (fun h => hm h.2.1))
    rw [pR_no (fun h => hm (mE_0 h.1 h.2))] at PT
    clear HN HY HQ ho hm
    go_enter Try.func28, Try.ntmps28
    go_upto_region 1 with fail
    rw [← HW.out, ← HB.out]
    clear HW HB
    try clear x0 x1 x2 x3 u0
    obtain ⟨x0, x1, x2, x3⟩ := QB.cells X.out
    have u0 := Box.cell Y.out 0
    simp at u0
    go_wp2_with fail
    refine (PT.out _ K.out).mono ?_
    rintro e w2 ⟨AP, c3, rfl, hO, hb⟩
    have PB := hide (OwI.bi hO)
    replace K := hide (btrans K.out hb)
    replace X := hide (X.out.below hb)
    replace Y := hide (Y.out.below hb)
    clear hb hO
    try clear x0 x1 x2 x3 u0
    obtain ⟨x0, x1, x2, x3⟩ := QB.cells X.out
    have u0 := Box.cell Y.out 0
    simp at u0
    go_wp2_with fail
    refine (VA.out _).mono ?_
    rintro e w3 ⟨rfl, hb⟩
    replace K := hide (btrans K.out hb)
    replace X := hide (X.out.below hb)
    replace Y := hide (Y.out.below hb)
    clear hb
    go_wp2
    go_ret
    exact ⟨ret_bool G.out.symm, K.out⟩
  have q := mE_ok hm
  have V := vd_of q.1
  have G := hide (HY.out ho hm)
  rw [pR_ok q] at PT
  have PN := pth_nlen q
  have TQ := hide (fun w => tot_q pc ac ke us w ho)
  replace HQ := hide (fun AP c2 g4 g5 => HQ ho AP c2 (pth L ac) (pth_ge V q.2.1 q.2.2) (by omega) V g4 g5)
  have T2 : tot ⟨pc, ac, ke, us⟩ = ke + us := rfl
  rw [T2] at G
  dsimp only at G
  have ok := ho
  have i1 := ok.2.2.1
  have i2 := ok.2.2.2
  have i0 := ok.2.1
  unfold inr at i1 i2
  dsimp only at i1 i2 i0
  obtain ⟨a1, a2⟩ := i1
  obtain ⟨c1, c2⟩ := i2
  clear HN HY ho hm q V ok T2
  generalize pth L ac = P at *
  obtain ⟨PN1, PN8⟩ := PN
  have pl1 : ((P.length : Int) == 0) = false := beq_eq_false_iff_ne.2 (by omega)
  obtain ⟨av, hav⟩ : ∃ v, v = decide (∀ x ∈ P, ke + us ≤ Ac.mx L x.toNat) := ⟨_, rfl⟩
  rw [← hav] at G HQ
  clear hav
  go_enter Try.func28, Try.ntmps28
  go_upto_region 1 with fail
  rw [← HW.out, ← HB.out]
  clear HW HB
  try clear x0 x1 x2 x3 u0
  obtain ⟨x0, x1, x2, x3⟩ := QB.cells X.out
  have u0 := Box.cell Y.out 0
  simp at u0
  go_wp2_with fail
  refine (PT.out _ K.out).mono ?_
  rintro e w2 ⟨AP, c3, rfl, hO, hb⟩
  have PB := hide (OwI.bi hO)
  replace K := hide (btrans K.out hb)
  replace X := hide (X.out.below hb)
  replace Y := hide (Y.out.below hb)
  clear hb hO
  try clear x0 x1 x2 x3 u0
  obtain ⟨x0, x1, x2, x3⟩ := QB.cells X.out
  have u0 := Box.cell Y.out 0
  simp at u0
  go_wp2_with fail
  refine (VA.out _).mono ?_
  rintro e w3 ⟨rfl, hb⟩
  replace K := hide (btrans K.out hb)
  replace X := hide (X.out.below hb)
  replace Y := hide (Y.out.below hb)
  replace PB := hide (PB.out.below hb)
  clear hb
  clear x0 x1 x2 x3 u0
  go_wp2_with fail
  refine ((HQ.out _ _ _ _).out _ K.out PB.out X.out Y.out).mono ?_
  rintro e w4 ⟨rfl, hb⟩
  replace K := hide (btrans K.out hb)
  replace X := hide (X.out.below hb)
  clear hb
  obtain ⟨x0, x1, x2, x3⟩ := QB.cells X.out
  cases av
  · go_wp2
    go_ret
    exact ⟨ret_bool (by rw [G.out]; rfl), K.out⟩
  · by_cases h1 : n < ke
    · go_wp2
      go_ret
      exact ⟨ret_bool (by rw [G.out, decide_eq_false (show ¬ ke ≤ n by omega)]; rfl), K.out⟩
    · by_cases h2 : m < ke + us
      · have G2 := hide (show true = hv by rw [G.out, decide_eq_true (show ke ≤ n by omega), decide_eq_false (show ¬ ke + us ≤ m by omega)]; rfl)
        have d1 : decide (n < ke) = false := decide_eq_false h1
        have d2 : decide (m < ke + us) = true := decide_eq_true h2
        go_wp2_with fail
        refine (TQ.out _).mono ?_
        rintro e w5 ⟨rfl, hb⟩
        replace K := hide (btrans K.out hb)
        clear hb
        go_wp2
        go_ret
        exact ⟨ret_bool G2.out, K.out⟩
      · have G2 := hide (show false = hv by rw [G.out, decide_eq_true (show ke ≤ n by omega), decide_eq_true (show ke + us ≤ m by omega)]; rfl)
        have d1 : decide (n < ke) = false := decide_eq_false h1
        have d2 : decide (m < ke + us) = false := decide_eq_false h2
        go_wp2_with fail
        refine (TQ.out _).mono ?_
        rintro e w5 ⟨rfl, hb⟩
        replace K := hide (btrans K.out hb)
        clear hb
        go_wp2
        go_ret
        exact ⟨ret_bool G2.out, K.out⟩
set_option maxRecDepth 100000 in
set_option maxHeartbeats 8000000 in
theorem rhopeless_any (pc ac ke us : Int) (A : Option Addr) (cp : Nat) (L : List A5) (n m : Int) (w : World) (hr : As w A L) (hcp : L.length ≤ cp) (hn : L.length ≤ 9223372036854775807) : Calls Try.prog 29 #[.agg #[.int .i64 pc, .int .i64 ac, .int .i64 ke, .int .i64 us], .slice A L.length cp, .int .i64 n, .int .i64 m] w fun e w' => e = .returned (.bool (hpB ⟨pc, ac, ke, us⟩ L n m)) ∧ Below w.heap.size w w' := by
  have X := hide (QB.new w pc ac ke us)
  have K := hide (bal (brefl w) (.cells #[.int .i64 pc, .int .i64 ac, .int .i64 ke, .int .i64 us] 27))
  obtain ⟨W0, hW0⟩ : ∃ W0, W0 = w.alloc (.cells #[.int .i64 pc, .int .i64 ac, .int .i64 ke, .int .i64 us] 27) := ⟨_, rfl⟩
  rw [← hW0] at X K
  obtain ⟨g4, hg4⟩ : ∃ g4, g4 = w.heap.size := ⟨_, rfl⟩
  rw [← hg4] at X
  have HW := hide hW0
  have HB := hide hg4
  clear hW0 hg4
  have PT := hide (fun w' (h : Below w.heap.size w w') => rpath_any A cp L ac w' (hr.below h) hcp hn)
  have HR := hide (fun w' (h : Below w.heap.size w w') => hr.below h)
  have VA := hide (fun w => rval_any pc ac ke us w)
  have CA := hide (fun w' (h : Below w.heap.size w w') => rcheck_any A cp L w' (hr.below h) hn)
  unfold PR at PT
  have HN := hide (fun (h : ¬ hpP ⟨pc, ac, ke, us⟩ L n m) => hp_no h)
  have HY := hide (fun (ok : okQ ⟨pc, ac, ke, us⟩) hm => hp_yes (n := n) (m := m) ok hm (L := L))
  obtain ⟨hv, hhv⟩ : ∃ v, v = hpB ⟨pc, ac, ke, us⟩ L n m := ⟨_, rfl⟩
  rw [← hhv] at HN HY ⊢
  clear hhv hr
  by_cases ho : okQ ⟨pc, ac, ke, us⟩
  rotate_left 1
  · have G := hide (HN.out (fun h => ho h.1))
    rw [decide_eq_false ho] at VA
    clear HN HY ho
    go_enter Try.func29, Try.ntmps29
    go_upto_region 1 with fail
    rw [← HW.out, ← HB.out]
    clear HW HB
    try clear x0 x1 x2 x3
    obtain ⟨x0, x1, x2, x3⟩ := QB.cells X.out
    go_wp2_with fail
    refine (VA.out _).mono ?_
    rintro e w3 ⟨rfl, hb⟩
    replace K := hide (btrans K.out hb)
    replace X := hide (X.out.below hb)
    clear hb
    go_wp2
    go_ret
    exact ⟨ret_bool G.out.symm, K.out⟩
  rw [decide_eq_true ho] at VA
  by_cases hc : chE L = 0
  rotate_left 1
  · have G := hide (HN.out (fun h => by have := h.2.1; rw [mE_bad hc] at this; exact hc this))
    have hc2 := ne_bool hc
    generalize chE L = ce at *
    clear HN HY ho hc
    go_enter Try.func29, Try.ntmps29
    go_upto_region 1 with fail
    rw [← HW.out, ← HB.out]
    clear HW HB
    try clear x0 x1 x2 x3
    obtain ⟨x0, x1, x2, x3⟩ := QB.cells X.out
    go_wp2_with fail
    refine (VA.out _).mono ?_
    rintro e w3 ⟨rfl, hb⟩
    replace K := hide (btrans K.out hb)
    replace X := hide (X.out.below hb)
    clear hb
    try clear x0 x1 x2 x3
    obtain ⟨x0, x1, x2, x3⟩ := QB.cells X.out
    go_wp2_with fail
    refine (CA.out _ K.out).mono ?_
    rintro e w4 ⟨rfl, hb⟩
    replace K := hide (btrans K.out hb)
    replace X := hide (X.out.below hb)
    clear hb
    go_wp2
    go_ret
    exact ⟨ret_bool G.out.symm, K.out⟩
  rw [hc] at CA
  have i0' := ho.2.1
  dsimp only at i0'
  by_cases hac : ac < L.length
  rotate_left 1
  · have G := hide (HN.out (fun h => by have := h.2.1; rw [mE_6 hc (by dsimp only; omega)] at this; omega))
    clear HN HY ho hc
    go_enter Try.func29, Try.ntmps29
    go_upto_region 1 with fail
    rw [← HW.out, ← HB.out]
    clear HW HB
    try clear x0 x1 x2 x3
    obtain ⟨x0, x1, x2, x3⟩ := QB.cells X.out
    go_wp2_with fail
    refine (VA.out _).mono ?_
    rintro e w3 ⟨rfl, hb⟩
    replace K := hide (btrans K.out hb)
    replace X := hide (X.out.below hb)
    clear hb
    try clear x0 x1 x2 x3
    obtain ⟨x0, x1, x2, x3⟩ := QB.cells X.out
    go_wp2_with fail
    refine (CA.out _ K.out).mono ?_
    rintro e w4 ⟨rfl, hb⟩
    replace K := hide (btrans K.out hb)
    replace X := hide (X.out.below hb)
    clear hb
    try clear x0 x1 x2 x3
    obtain ⟨x0, x1, x2, x3⟩ := QB.cells X.out
    go_wp2
    go_ret
    exact ⟨ret_bool G.out.symm, K.out⟩
  have q : chE L = 0 ∧ 0 ≤ ac ∧ ac < L.length := ⟨hc, i0', hac⟩
  have V := vd_of hc
  have G := hide (HY.out ho (mE_0 hc q.2))
  rw [pR_ok q] at PT
  have PN := pth_nlen q
  have PM := hide (pth_ge V q.2.1 q.2.2)
  have MB := hide (fun k (h : k < L.length) => mx_bd V h)
  have L8 := V.len.2
  have TQ := hide (fun w => rtot_q pc ac ke us w ho)
  have T2 : tot ⟨pc, ac, ke, us⟩ = ke + us := rfl
  rw [T2] at G
  dsimp only at G
  have ok := ho
  have i1 := ok.2.2.1
  have i2 := ok.2.2.2
  have i0 := ok.2.1
  unfold inr at i1 i2
  dsimp only at i1 i2 i0
  obtain ⟨a1, a2⟩ := i1
  obtain ⟨c1, c2⟩ := i2
  clear HN HY ho hc q V ok T2 i0'
  generalize pth L ac = P at *
  obtain ⟨PN1, PN8⟩ := PN
  have GN := hide (fun (h : ¬ ∀ x ∈ P, ke + us ≤ Ac.mx L x.toNat) => (show hv = true by rw [G.out, decide_eq_false h]; rfl))
  have GY := hide (fun (h : ∀ x ∈ P, ke + us ≤ Ac.mx L x.toNat) => (show hv = !(decide (ke ≤ n) && decide (ke + us ≤ m)) by rw [G.out, decide_eq_true h]; rfl))
  clear G
  go_enter Try.func29, Try.ntmps29
  go_upto_region 1 with fail
  rw [← HW.out, ← HB.out]
  clear HW HB
  try clear x0 x1 x2 x3
  obtain ⟨x0, x1, x2, x3⟩ := QB.cells X.out
  go_wp2_with fail
  refine (VA.out _).mono ?_
  rintro e w3 ⟨rfl, hb⟩
  replace K := hide (btrans K.out hb)
  replace X := hide (X.out.below hb)
  clear hb
  try clear x0 x1 x2 x3
  obtain ⟨x0, x1, x2, x3⟩ := QB.cells X.out
  go_wp2_with fail
  refine (CA.out _ K.out).mono ?_
  rintro e w4 ⟨rfl, hb⟩
  replace K := hide (btrans K.out hb)
  replace X := hide (X.out.below hb)
  clear hb
  try clear x0 x1 x2 x3
  obtain ⟨x0, x1, x2, x3⟩ := QB.cells X.out
  go_wp2_with fail
  refine (PT.out _ K.out).mono ?_
  rintro e w5 ⟨AP, c3, rfl, hO, hb⟩
  have PB := hide (OwI.bi hO)
  replace K := hide (btrans K.out hb)
  replace X := hide (X.out.below hb)
  clear hb hO x0 x1 x2 x3 PT
  go_wp2
  go_loopw [10] (fun i wr => ∃ k : Nat, k ≤ P.length ∧ i = .int .i64 k ∧ Hid (QB wr g4 ⟨pc, ac, ke, us⟩) ∧ Hid (Below w.heap.size w wr) ∧ Hid (Bi wr AP P) ∧ Hid (∀ j, j < k → ke + us ≤ Ac.mx L (P.getD j 0).toNat)) (fun i _ => P.length - (intOf i).toNat)
  case atStart => exact ⟨0, Nat.zero_le _, rfl, X, K, PB, hide (fun j h => by omega)⟩
  case round =>
    clear X K PB
    obtain ⟨k, hk, rfl, X, K, PB, N⟩ := hrel
    by_cases hlt : k < P.length
    · have hl2 : (k : Int) < (P.length : Int) := by omega
      have hk0 : (0 : Int) ≤ (k : Int) := by omega
      obtain ⟨bp, op, rfl, hbp, p0⟩ := PB.out.cells (brefl _) hlt
      have hx := PM.out _ (getD_mem hlt)
      have ST := hide (fun (h : Ac.mx L (P.getD k 0).toNat < ke + us) => GN.out (fun g => by have := g _ (getD_mem hlt); omega))
      have NX := hide (fun (h : ke + us ≤ Ac.mx L (P.getD k 0).toNat) => all_next (P := fun j => ke + us ≤ Ac.mx L (P.getD j 0).toNat) N.out h)
      have PC := hide (fun W (hW : Below wr.heap.size wr W) => (hW.cell (p := ⟨bp, op + k, none⟩) hbp).trans p0)
      obtain ⟨x, hxx⟩ : ∃ x, x = P.getD k 0 := ⟨_, rfl⟩
      rw [← hxx] at p0 hx ST NX PC
      clear hxx
      obtain ⟨q, rfl⟩ := Int.eq_ofNat_of_zero_le hx.1
      rw [Int.toNat_natCast] at ST NX
      have hq : q < L.length := by omega
      have hq2 : (q : Int) < (L.length : Int) := by omega
      have hq0 : (0 : Int) ≤ (q : Int) := by omega
      obtain ⟨b, off, rfl, hbl, -, -, -, -, y4⟩ := (HR.out _ K.out).cells (brefl _) hq
      have YC := hide (fun W (hW : Below wr.heap.size wr W) => (hW.cell (p := ⟨b, off + q * 5 + 4, none⟩) hbl).trans y4)
      have bd := MB.out q hq
      clear hx p0 y4
      generalize Ac.mx L q = m1 at *
      obtain ⟨b1, b2⟩ := bd
      have KQ := hide (show Below wr.heap.size wr wr.drew from below_drewN (brefl _) 1)
      replace K := hide (show Below w.heap.size w wr.drew from btrans K.out KQ.out)
      replace X := hide (X.out.below KQ.out)
      replace PB := hide (PB.out.below KQ.out)
      by_cases h : m1 < ke + us
      · have G := hide (ST.out h)
        clear ST NX
        go_upto_region 7 with fail
        refine wp_region_noPanic ?_
        refine wp_region_held_drew (S := (fun W => (W.cell? ⟨g4, 0, none⟩ = some (.int .i64 pc) ∧ W.cell? ⟨g4, 1, none⟩ = some (.int .i64 ac) ∧ W.cell? ⟨g4, 2, none⟩ = some (.int .i64 ke) ∧ W.cell? ⟨g4, 3, none⟩ = some (.int .i64 us)) ∧ W.cell? ⟨bp, op + k, none⟩ = some (.int .i64 q) ∧ W.cell? ⟨b, off + q * 5 + 4, none⟩ = some (.int .i64 m1))) (by kernel_rfl) ?_ (fun hHeld => ?_)
        · exact ⟨QB.cells X.out, PC.out _ KQ.out, YC.out _ KQ.out⟩
        refine wpAnyH_take (i := 0) (oi := ⟨some 36, _, _, _, _, _⟩) (v := ?_) rfl (by kernel_rfl) (by kernel_rfl) (by kernel_rfl) (fun _ _ _ h => h) (Or.inl ⟨by kernel_rfl, ?_⟩) (by assumption) ?_
        rotate_left 1
        · (intro w hSw; (try dsimp only at hSw); go_simp) <;> (with_reducible rfl)
        (try simp only [Act.put, List.setIfInBounds_toArray, List.set_cons_succ, List.set_cons_zero])
        refine wpAnyH_take (i := 2) (oi := ⟨some 38, _, _, _, _, _⟩) (v := ?_) rfl (by kernel_rfl) (by kernel_rfl) (by kernel_rfl) (fun _ _ _ h => h) (Or.inl ⟨by kernel_rfl, ?_⟩) (by assumption) ?_
        rotate_left 1
        · (intro w hSw; (try dsimp only at hSw); go_simp) <;> (with_reducible rfl)
        (try simp only [Act.put, List.setIfInBounds_toArray, List.set_cons_succ, List.set_cons_zero])
        refine wpAnyH_take (i := 3) (oi := ⟨some 39, _, _, _, _, _⟩) (v := ?_) rfl (by kernel_rfl) (by kernel_rfl) (by kernel_rfl) (fun _ _ _ h => h) (Or.inl ⟨by kernel_rfl, ?_⟩) (by assumption) ?_
        rotate_left 1
        · (intro w hSw; (try dsimp only at hSw); go_simp) <;> (with_reducible rfl)
        (try simp only [Act.put, List.setIfInBounds_toArray, List.set_cons_succ, List.set_cons_zero])
        refine wpAnyH_take (i := 4) (oi := ⟨some 40, _, _, _, _, _⟩) (v := ?_) rfl (by kernel_rfl) (by kernel_rfl) (by kernel_rfl) (fun _ _ _ h => h) (Or.inl ⟨by kernel_rfl, ?_⟩) (by assumption) ?_
        rotate_left 1
        · (intro w hSw; (try dsimp only at hSw); go_simp) <;> (with_reducible rfl)
        (try simp only [Act.put, List.setIfInBounds_toArray, List.set_cons_succ, List.set_cons_zero])
        refine wpAnyH_take (i := 5) (oi := ⟨some 41, _, _, _, _, _⟩) (v := ?_) rfl (by kernel_rfl) (by kernel_rfl) (by kernel_rfl) (fun _ _ _ h => h) (Or.inl ⟨by kernel_rfl, ?_⟩) (by assumption) ?_
        rotate_left 1
        · (intro w hSw; (try dsimp only at hSw); go_simp) <;> (with_reducible rfl)
        (try simp only [Act.put, List.setIfInBounds_toArray, List.set_cons_succ, List.set_cons_zero])
        refine wpAnyH_take (i := 6) (oi := ⟨some 42, _, _, _, _, _⟩) (v := ?_) rfl (by kernel_rfl) (by kernel_rfl) (by kernel_rfl) (fun _ _ _ h => h) (Or.inl ⟨by kernel_rfl, ?_⟩) (by assumption) ?_
        rotate_left 1
        · (intro w hSw; (try dsimp only at hSw); go_simp) <;> (with_reducible rfl)
        (try simp only [Act.put, List.setIfInBounds_toArray, List.set_cons_succ, List.set_cons_zero])
        refine wpAnyH_take (i := 7) (oi := ⟨some 43, _, _, _, _, _⟩) (v := ?_) rfl (by kernel_rfl) (by kernel_rfl) (by kernel_rfl) (fun _ _ _ h => h) (Or.inl ⟨by kernel_rfl, ?_⟩) (by assumption) ?_
        rotate_left 1
        · (intro w hSw; (try dsimp only at hSw); go_simp) <;> (with_reducible rfl)
        (try simp only [Act.put, List.setIfInBounds_toArray, List.set_cons_succ, List.set_cons_zero])
        refine wpAnyH_take (i := 8) (oi := ⟨some 44, _, _, _, _, _⟩) (v := ?_) rfl (by kernel_rfl) (by kernel_rfl) (by kernel_rfl) (fun _ _ _ h => h) (Or.inl ⟨by kernel_rfl, ?_⟩) (by assumption) ?_
        rotate_left 1
        · (intro w hSw; (try dsimp only at hSw); go_simp) <;> (with_reducible rfl)
        (try simp only [Act.put, List.setIfInBounds_toArray, List.set_cons_succ, List.set_cons_zero])
        refine wpAnyH_take (i := 9) (oi := ⟨some 45, _, _, _, _, _⟩) (v := ?_) rfl (by kernel_rfl) (by kernel_rfl) (by kernel_rfl) (fun _ _ _ h => h) (Or.inl ⟨by kernel_rfl, ?_⟩) (by assumption) ?_
        rotate_left 1
        · (intro w hSw; (try dsimp only at hSw); go_simp) <;> (with_reducible rfl)
        (try simp only [Act.put, List.setIfInBounds_toArray, List.set_cons_succ, List.set_cons_zero])
        refine wpAnyH_ready (rs := [1]) (by kernel_rfl) (by simp) ?_
        refine AllReadyH.cons (o := ⟨some 37, _, _, _, _, _⟩) rfl (fun K' hK => ?_) AllReadyH.nil
        go_simp
        refine (TQ.out _).mono ?_
        rintro e w6 ⟨rfl, hb⟩
        replace K := hide (btrans K.out hb)
        replace X := hide (X.out.below hb)
        replace PB := hide (PB.out.below hb)
        replace KQ := hide (btrans KQ.out hb)
        clear hb
        refine hK.out _ _ ?_ (fun hHeld => ?_)
        · exact ⟨QB.cells X.out, PC.out _ KQ.out, YC.out _ KQ.out⟩
        clear hK K'
        (try simp only [Act.put, List.setIfInBounds_toArray, List.set_cons_succ, List.set_cons_zero])
        refine wpAnyH_take (i := 10) (oi := ⟨some 46, _, _, _, _, _⟩) (v := ?_) rfl (by kernel_rfl) (by kernel_rfl) (by kernel_rfl) (fun _ _ _ h => h) (Or.inl ⟨by kernel_rfl, ?_⟩) (by assumption) ?_
        rotate_left 1
        · (intro w hSw; (try dsimp only at hSw); go_simp) <;> (with_reducible rfl)
        (try simp only [Act.put, List.setIfInBounds_toArray, List.set_cons_succ, List.set_cons_zero])
        refine wpAnyH_done (by kernel_rfl) ?_ _
        refine NoPanic.normal ?_
        go_wp2
        go_ret
        exact ⟨ret_bool G.out.symm, K.out⟩
      · have G := hide (NX.out (by omega))
        clear ST NX
        go_upto_region 7 with fail
        refine wp_region_noPanic ?_
        refine wp_region_held_drew (S := (fun W => (W.cell? ⟨g4, 0, none⟩ = some (.int .i64 pc) ∧ W.cell? ⟨g4, 1, none⟩ = some (.int .i64 ac) ∧ W.cell? ⟨g4, 2, none⟩ = some (.int .i64 ke) ∧ W.cell? ⟨g4, 3, none⟩ = some (.int .i64 us)) ∧ W.cell? ⟨bp, op + k, none⟩ = some (.int .i64 q) ∧ W.cell? ⟨b, off + q * 5 + 4, none⟩ = some (.int .i64 m1))) (by kernel_rfl) ?_ (fun hHeld => ?_)
        · exact ⟨QB.cells X.out, PC.out _ KQ.out, YC.out _ KQ.out⟩
        refine wpAnyH_take (i := 0) (oi := ⟨some 36, _, _, _, _, _⟩) (v := ?_) rfl (by kernel_rfl) (by kernel_rfl) (by kernel_rfl) (fun _ _ _ h => h) (Or.inl ⟨by kernel_rfl, ?_⟩) (by assumption) ?_
        rotate_left 1
        · (intro w hSw; (try dsimp only at hSw); go_simp) <;> (with_reducible rfl)
        (try simp only [Act.put, List.setIfInBounds_toArray, List.set_cons_succ, List.set_cons_zero])
        refine wpAnyH_take (i := 2) (oi := ⟨some 38, _, _, _, _, _⟩) (v := ?_) rfl (by kernel_rfl) (by kernel_rfl) (by kernel_rfl) (fun _ _ _ h => h) (Or.inl ⟨by kernel_rfl, ?_⟩) (by assumption) ?_
        rotate_left 1
        · (intro w hSw; (try dsimp only at hSw); go_simp) <;> (with_reducible rfl)
        (try simp only [Act.put, List.setIfInBounds_toArray, List.set_cons_succ, List.set_cons_zero])
        refine wpAnyH_take (i := 3) (oi := ⟨some 39, _, _, _, _, _⟩) (v := ?_) rfl (by kernel_rfl) (by kernel_rfl) (by kernel_rfl) (fun _ _ _ h => h) (Or.inl ⟨by kernel_rfl, ?_⟩) (by assumption) ?_
        rotate_left 1
        · (intro w hSw; (try dsimp only at hSw); go_simp) <;> (with_reducible rfl)
        (try simp only [Act.put, List.setIfInBounds_toArray, List.set_cons_succ, List.set_cons_zero])
        refine wpAnyH_take (i := 4) (oi := ⟨some 40, _, _, _, _, _⟩) (v := ?_) rfl (by kernel_rfl) (by kernel_rfl) (by kernel_rfl) (fun _ _ _ h => h) (Or.inl ⟨by kernel_rfl, ?_⟩) (by assumption) ?_
        rotate_left 1
        · (intro w hSw; (try dsimp only at hSw); go_simp) <;> (with_reducible rfl)
        (try simp only [Act.put, List.setIfInBounds_toArray, List.set_cons_succ, List.set_cons_zero])
        refine wpAnyH_take (i := 5) (oi := ⟨some 41, _, _, _, _, _⟩) (v := ?_) rfl (by kernel_rfl) (by kernel_rfl) (by kernel_rfl) (fun _ _ _ h => h) (Or.inl ⟨by kernel_rfl, ?_⟩) (by assumption) ?_
        rotate_left 1
        · (intro w hSw; (try dsimp only at hSw); go_simp) <;> (with_reducible rfl)
        (try simp only [Act.put, List.setIfInBounds_toArray, List.set_cons_succ, List.set_cons_zero])
        refine wpAnyH_take (i := 6) (oi := ⟨some 42, _, _, _, _, _⟩) (v := ?_) rfl (by kernel_rfl) (by kernel_rfl) (by kernel_rfl) (fun _ _ _ h => h) (Or.inl ⟨by kernel_rfl, ?_⟩) (by assumption) ?_
        rotate_left 1
        · (intro w hSw; (try dsimp only at hSw); go_simp) <;> (with_reducible rfl)
        (try simp only [Act.put, List.setIfInBounds_toArray, List.set_cons_succ, List.set_cons_zero])
        refine wpAnyH_take (i := 7) (oi := ⟨some 43, _, _, _, _, _⟩) (v := ?_) rfl (by kernel_rfl) (by kernel_rfl) (by kernel_rfl) (fun _ _ _ h => h) (Or.inl ⟨by kernel_rfl, ?_⟩) (by assumption) ?_
        rotate_left 1
        · (intro w hSw; (try dsimp only at hSw); go_simp) <;> (with_reducible rfl)
        (try simp only [Act.put, List.setIfInBounds_toArray, List.set_cons_succ, List.set_cons_zero])
        refine wpAnyH_take (i := 8) (oi := ⟨some 44, _, _, _, _, _⟩) (v := ?_) rfl (by kernel_rfl) (by kernel_rfl) (by kernel_rfl) (fun _ _ _ h => h) (Or.inl ⟨by kernel_rfl, ?_⟩) (by assumption) ?_
        rotate_left 1
        · (intro w hSw; (try dsimp only at hSw); go_simp) <;> (with_reducible rfl)
        (try simp only [Act.put, List.setIfInBounds_toArray, List.set_cons_succ, List.set_cons_zero])
        refine wpAnyH_take (i := 9) (oi := ⟨some 45, _, _, _, _, _⟩) (v := ?_) rfl (by kernel_rfl) (by kernel_rfl) (by kernel_rfl) (fun _ _ _ h => h) (Or.inl ⟨by kernel_rfl, ?_⟩) (by assumption) ?_
        rotate_left 1
        · (intro w hSw; (try dsimp only at hSw); go_simp) <;> (with_reducible rfl)
        (try simp only [Act.put, List.setIfInBounds_toArray, List.set_cons_succ, List.set_cons_zero])
        refine wpAnyH_ready (rs := [1]) (by kernel_rfl) (by simp) ?_
        refine AllReadyH.cons (o := ⟨some 37, _, _, _, _, _⟩) rfl (fun K' hK => ?_) AllReadyH.nil
        go_simp
        refine (TQ.out _).mono ?_
        rintro e w6 ⟨rfl, hb⟩
        replace K := hide (btrans K.out hb)
        replace X := hide (X.out.below hb)
        replace PB := hide (PB.out.below hb)
        replace KQ := hide (btrans KQ.out hb)
        clear hb
        refine hK.out _ _ ?_ (fun hHeld => ?_)
        · exact ⟨QB.cells X.out, PC.out _ KQ.out, YC.out _ KQ.out⟩
        clear hK K'
        (try simp only [Act.put, List.setIfInBounds_toArray, List.set_cons_succ, List.set_cons_zero])
        refine wpAnyH_take (i := 10) (oi := ⟨some 46, _, _, _, _, _⟩) (v := ?_) rfl (by kernel_rfl) (by kernel_rfl) (by kernel_rfl) (fun _ _ _ h => h) (Or.inl ⟨by kernel_rfl, ?_⟩) (by assumption) ?_
        rotate_left 1
        · (intro w hSw; (try dsimp only at hSw); go_simp) <;> (with_reducible rfl)
        (try simp only [Act.put, List.setIfInBounds_toArray, List.set_cons_succ, List.set_cons_zero])
        refine wpAnyH_done (by kernel_rfl) ?_ _
        refine NoPanic.normal ?_
        go_wp2
        go_roundw
        case rel => exact ⟨k + 1, by omega, by go_num, X, K, PB, G⟩
        case measure => simp [intOf]; omega
    · obtain rfl : k = P.length := by omega
      have G := hide (GY.out (fun x hx => by
        obtain ⟨j, hj, rfl⟩ := mem_at.1 hx
        exact N.out j hj))
      clear GY GN N PB
      try clear x0 x1 x2 x3
      obtain ⟨x0, x1, x2, x3⟩ := QB.cells X.out
      by_cases h1 : n < ke
      · go_wp2
        go_ret
        exact ⟨ret_bool (by rw [G.out, decide_eq_false (show ¬ ke ≤ n by omega)]; rfl), K.out⟩
      · by_cases h2 : m < ke + us
        · have G2 := hide (show true = hv by rw [G.out, decide_eq_true (show ke ≤ n by omega), decide_eq_false (show ¬ ke + us ≤ m by omega)]; rfl)
          have d1 : decide (n < ke) = false := decide_eq_false h1
          have d2 : decide (m < ke + us) = true := decide_eq_true h2
          go_wp2_with fail
          refine (TQ.out _).mono ?_
          rintro e w6 ⟨rfl, hb⟩
          replace K := hide (btrans K.out hb)
          clear hb
          go_wp2
          go_ret
          exact ⟨ret_bool G2.out, K.out⟩
        · have G2 := hide (show false = hv by rw [G.out, decide_eq_true (show ke ≤ n by omega), decide_eq_true (show ke + us ≤ m by omega)]; rfl)
          have d1 : decide (n < ke) = false := decide_eq_false h1
          have d2 : decide (m < ke + us) = false := decide_eq_false h2
          go_wp2_with fail
          refine (TQ.out _).mono ?_
          rintro e w6 ⟨rfl, hb⟩
          replace K := hide (btrans K.out hb)
          clear hb
          go_wp2
          go_ret
          exact ⟨ret_bool G2.out, K.out⟩
end Go.Proofs.Ytimclgmajhhheaa.Gr
