import Derived.Test.YtioffnpnoohbiaaF12
namespace Go.Proofs.Ytioffnpnoohbiaa.Rm
open Go Go.RowKit
set_option linter.unusedVariables false
set_option linter.unusedSimpArgs false
theorem grown_below {B g : Nat} {w w' : World} (h : w.grownBy w' (some g)) (hg : B ≤ g) (hB : B ≤ w.heap.size) : Below B w w' :=
  ⟨h.os, h.tape, h.output, h.size, fun k hk => h.block k (by omega) (by intro e; injection e with e; omega)⟩
set_option maxRecDepth 100000 in
set_option maxHeartbeats 8000000 in
theorem dfun_any (B : Nat) (A : Option Addr) (c : Nat) (L : List Mp) (t : Int) (g3 : Nat) (w : World) (ho : OwM B w (.slice A L.length c) L) (hB : B ≤ w.heap.size) (X : w.cell? ⟨g3, 0, none⟩ = some (.int .i64 t)) (hg : g3 < B) (hn : L.length ≤ 1000) : Calls Try.prog 31 #[.slice A L.length c, .func (.func 32) #[] #[.pointer (some ⟨g3, 0, none⟩)]] w (InR B (L.filter fun x => decide (x.s ≠ t)) w) := by
  have H := hide (is_idx A c L t g3 w ho.rs hn X (by omega))
  unfold IxP at H
  unfold InR
  have CL := hide (fun W (h : Below B w W) s p => is_any s p t g3 W ((h.cell (p := ⟨g3, 0, none⟩) hg).trans X) (by have := h.size; omega))
  have O := hide ho
  have K := hide (Below.refl B w)
  have HBw := hide hB
  have eg : ∀ args w, (callFunc 32 args).run Try.prog w = .ok (.enter 32 args) w := Go.Proofs.enters_of Try.func32 (by kernel_rfl) rfl
  clear X ho
  go_enter Try.func31, Try.ntmps31
  go_wp2_with fail
  refine H.out.mono ?_
  rintro e w1 ⟨i0, rfl, hi0, hb1⟩
  replace K := hide (hb1.mono hB)
  replace O := hide (row_below O.out hb1)
  have HB1 := hide (show B ≤ w1.heap.size from Nat.le_trans hB hb1.size)
  clear hb1
  rcases hi0 with ⟨rfl, h2⟩ | ⟨k0, hk0, rfl, h2, h3⟩
  · have F := hide (filter_all h2)
    clear h2
    go_wp2
    go_ret
    rw [F.out]
    exact ⟨A, c, rfl, O.out, K.out⟩
  · have I0 := hide (DelInv.start hk0 h2 h3)
    obtain ⟨b, rfl, hBb, hc, hm, R0⟩ : ∃ b, A = some ⟨b, 0, none⟩ ∧ B ≤ b ∧ L.length ≤ c ∧ c ≤ maxLen ∧ Hid (RwM w1 b c L) := by
      obtain ⟨hl, h | ⟨g, cap, cur, e, hg, hh, h4, h5, h6, ht⟩⟩ := O.out
      · omega
      · injection e with e1 _ e2
        subst e1 e2
        exact ⟨g, rfl, hg, h4, h5, hide ⟨cur, hh, h6, ht⟩⟩
    have hne1 : ((k0 : Int) == -1) = false := beq_eq_false_iff_ne.2 (by omega)
    unfold maxLen at hm
    clear h2 h3 O H
    go_wp2
    go_loopw [5, 6] (fun s5 s6 wr => ∃ (i j : Nat) (M : List Mp), s5 = .int .i64 i ∧ s6 = .int .i64 j ∧ j ≤ L.length ∧ Hid (DelInv t L M i j) ∧ Hid (RwM wr b c M) ∧ Hid (Below B w wr)) (fun _ s6 _ => L.length - (intOf s6).toNat)
    case atStart => exact ⟨k0, k0 + 1, L, rfl, by go_num, by omega, I0, R0, K⟩
    case round =>
      clear K R0 I0
      obtain ⟨i, j, M, rfl, rfl, hjl, I, R, K⟩ := hrel
      have hij := I.out.lt
      have hbl := R.out.lt
      by_cases hlt : j < L.length
      · have hjM : j < M.length := by rw [I.out.len]; exact hlt
        obtain ⟨c0, c1⟩ := R.out.cells hjM
        rw [I.out.hi j (Nat.le_refl _)] at c0 c1
        have hiM : i < M.length := by omega
        have IK := hide (fun h => I.out.keep hlt h)
        have IS := hide (fun h => I.out.skip hlt h)
        obtain ⟨x, hx⟩ : ∃ x, x = at' L j := ⟨_, rfl⟩
        rw [← hx] at c0 c1 IK IS
        clear hx
        obtain ⟨s, p⟩ := x
        dsimp only at c0 c1 IK IS
        have M5 := bal (brefl wr) (.cells #[.int .i64 s, .int .i64 p] 26)
        have hBr := Nat.le_trans HBw.out K.out.size
        have K5 := hide (K.out.trans (M5.mono hBr))
        have R5 := hide (R.out.below M5)
        have X5 := hide (MB.new wr s p)
        have HI := hide hiM
        have CP := hide (fun W h => CL.out W h s p)
        clear M5 hiM hjM I hBr
        by_cases hq : s = t
        · have G := hide (IS.out hq)
          rw [beq_iff_eq.2 hq] at CP
          clear hq IK IS
          go_wp2_with fail
          refine (CP.out _ K5.out).mono ?_
          rintro e w5 ⟨rfl, hb5⟩
          replace R5 := hide (R5.out.below hb5)
          replace K5 := hide (K5.out.trans (hb5.mono (Nat.le_trans HBw.out K5.out.size)))
          clear hb5 c0 c1 CP
          go_wp2
          go_roundw
          case rel => exact ⟨i, j + 1, M, rfl, by go_num, by omega, G, R5, K5⟩
          case measure => simp [intOf]; omega
        · have G := hide (IK.out hq)
          rw [beq_eq_false_iff_ne.2 hq] at CP
          clear hq IK IS
          go_wp2_with fail
          refine (CP.out _ K5.out).mono ?_
          rintro e w5 ⟨rfl, hb5⟩
          replace R5 := hide (R5.out.below hb5)
          replace X5 := hide (X5.out.below hb5)
          replace K5 := hide (K5.out.trans (hb5.mono (Nat.le_trans HBw.out K5.out.size)))
          obtain ⟨y0, y1⟩ := MB.cells X5.out
          clear hb5 c0 c1 CP
          obtain ⟨d0, d1⟩ := R5.out.cells HI.out
          have f0 := R5.out.frozen (i * 2)
          have f1 := R5.out.frozen (i * 2 + 1)
          have hic : i < L.length := by omega
          generalize (at' M i).s = z0 at *
          generalize (at' M i).p = z1 at *
          go_wp2
          go_roundw
          case rel => exact ⟨i + 1, j + 1, _, by go_num, by go_num, by omega, G, hide (R5.out.put ⟨s, p⟩), hide ((K5.out.setCell (by exact hBb) _).setCell (by exact hBb) _)⟩
          case measure => simp [intOf]; omega
      · obtain rfl : j = L.length := by omega
        have hML := I.out.len
        obtain ⟨w6, hrun, hr6, hbb⟩ := run_clearM wr b c i M R.out (by omega) (by omega)
        rw [hML] at hrun
        have F := hide I.out.fin
        have R6 := hide hr6
        have K6 := hide (K.out.trans (grown_below hbb hBb (Nat.le_trans HBw.out K.out.size)))
        have hcl := fun ty => hrun ty (c - i)
        have hic : i < c := by omega
        have hTL := hide (show (M.take i).length = i by rw [List.length_take]; omega)
        clear hrun hr6 hbb hML I R K
        go_wp2
        go_ret
        rw [← F.out, hTL.out]
        refine ⟨_, c, rfl, ?_, K6.out⟩
        have := R6.out.own hBb (by rw [hTL.out]; omega) (by unfold maxLen; omega)
        rw [hTL.out] at this
        unfold OwM
        rw [hTL.out]
        exact this
set_option maxRecDepth 100000 in
set_option maxHeartbeats 8000000 in
theorem drop_any (A : Option Addr) (c : Nat) (L : List Mp) (t : Int) (w : World) (hr : Ms w A L) (hn : L.length ≤ 1000) : Calls Try.prog 18 #[.slice A L.length c, .int .i64 t] w (InR w.heap.size (drL L t) w) := by
  unfold InR
  have K := hide (bal (brefl w) (.cells #[.int .i64 t] 3))
  have X := hide (Box.new w 3 #[.int .i64 t])
  obtain ⟨g3, hg3⟩ : ∃ g, g = w.heap.size := ⟨_, rfl⟩
  have HG := hide hg3
  rw [← hg3] at X
  have CK := hide (fun w' (h : Below w.heap.size w w') => check_any A c L w' (hr.below h) (by omega))
  have CL := hide (fun w' (h : Below w.heap.size w w') => clone_any A c L w' (hr.below h) (by omega))
  unfold ClR at CL
  clear hr hg3
  by_cases h0 : ck L = 0
  rotate_left 1
  · have EL := hide (show drL L t = [] from if_neg h0)
    rw [EL.out]
    have h2 := ne_bool h0
    clear EL h0 CL
    generalize ck L = ce at *
    go_enter Try.func18, Try.ntmps18
    go_wp2_with fail
    refine (CK.out _ K.out).mono ?_
    rintro e w2 ⟨rfl, hb⟩
    replace K := hide (btrans K.out hb)
    clear hb
    go_wp2
    go_ret
    exact ⟨none, 0, rfl, owm_nil _ _, K.out⟩
  rw [h0] at CK
  have EL := hide (show drL L t = L.filter (fun x => decide (x.s ≠ t)) from if_pos h0)
  rw [EL.out]
  clear EL h0
  have DF := hide (fun B A c w ho hB X hg => dfun_any B A c L t g3 w ho hB X hg hn)
  unfold InR at DF
  generalize L.filter (fun x => decide (x.s ≠ t)) = F at *
  go_enter Try.func18, Try.ntmps18
  go_wp2_with fail
  rw [← HG.out]
  generalize w.alloc (.cells #[.int .i64 t] 3) = w1 at *
  refine (CK.out _ K.out).mono ?_
  rintro e w2 ⟨rfl, hb⟩
  replace K := hide (btrans K.out hb)
  replace X := hide (X.out.below hb)
  clear hb
  go_wp2_with fail
  refine (CL.out _ K.out).mono ?_
  rintro e w3 ⟨A1, c1, rfl, ho, hb⟩
  have OQ := hide (row_mono ho (show g3 + 1 ≤ _ from X.out.lt))
  replace K := hide (btrans K.out hb)
  replace X := hide (X.out.below hb)
  clear hb ho
  go_wp2_with fail
  refine (DF.out (g3 + 1) A1 c1 _ OQ.out X.out.lt (Box.cell X.out 0) (Nat.lt_succ_self _)).mono ?_
  rintro e w4 ⟨A2, c2, rfl, ho, hb⟩
  have OR := hide ho
  replace K := hide (K.out.trans (hb.mono (by have := HG.out; omega)))
  clear hb ho
  go_wp2
  go_ret
  exact ⟨A2, c2, rfl, row_mono OR.out (by have := HG.out; omega), K.out⟩
end Go.Proofs.Ytioffnpnoohbiaa.Rm
