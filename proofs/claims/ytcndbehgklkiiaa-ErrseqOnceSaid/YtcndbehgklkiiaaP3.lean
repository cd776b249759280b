import Derived.Test.YtcndbehgklkiiaaP2
namespace Go.Proofs.Ytcndbehgklkiiaa.Es
open Go Go.RowKit
set_option linter.unusedVariables false
set_option linter.unusedSimpArgs false
theorem RdOp.cells {w w' : World} {A : Option Addr} {L : List (Int × Int)} (h : RdOp w A L) (hb : Below w.heap.size w w') {k : Nat} (hk : k < L.length) : ∃ b off, A = some ⟨b, off, none⟩ ∧ b < w.heap.size ∧
    w'.cell? ⟨b, off + k * 2, none⟩ = some (.int .i64 (L.getD k (0, 0)).1) ∧ w'.cell? ⟨b, off + k * 2 + 1, none⟩ = some (.int .i64 (L.getD k (0, 0)).2) := by
  obtain ⟨b, off, e, hl, hc⟩ := h (by rintro rfl; simp at hk)
  have c := fun j hj => (hb.cell (p := ⟨b, off + (k * 2 + j), none⟩) hl).trans (hc k hk j hj)
  exact ⟨b, off, e, hl, c 0 (by omega), c 1 (by omega)⟩
theorem info_parts {P : Program} {e : TypeId} {z : Value} {s bt : Nat} (h : (P.info? e).map (fun i => (i.zero, i.size, i.bytes)) = some (some z, s, bt)) : ∃ i, P.info? e = some i ∧ i.zero = some z ∧ i.size = s ∧ i.bytes = bt := by
  cases hq : P.info? e with
  | none => rw [hq] at h; cases h
  | some i =>
    rw [hq] at h
    simp at h
    exact ⟨i, rfl, h.1, h.2.1, h.2.2⟩
set_option maxRecDepth 100000 in
set_option maxHeartbeats 8000000 in
theorem play_any (A : Option Addr) (c : Nat) (L : List (Int × Int)) (w : World) (h : RdOp w A L) (hn : L.length ≤ 60) : Calls Try.prog 25 #[.slice A L.length c] w fun e w' => (∃ v, e = .returned (.tuple #[v, .bool true])) ∧ Below w.heap.size w w' := by
  have HR := hide (fun w' (hb : Below w.heap.size w w') k (hk : k < L.length) => h.cells hb hk)
  have K := hide (brefl w)
  obtain ⟨i0, hi0, hz0, hz1, hz2⟩ := info_parts info4
  clear h
  go_enter Try.func25, Try.ntmps25
  go_wp2_with fail
  refine (start_any w).mono ?_
  rintro e w1 ⟨p, gk, gb, rfl, lp, lk, lb, WD, hb⟩
  replace WD := hide WD
  replace K := hide (btrans K.out hb)
  clear hb
  have LL := hide (show (w.heap.size ≤ p ∧ w.heap.size ≤ gk ∧ w.heap.size ≤ gb) ∧ p < w1.heap.size ∧ gk < w1.heap.size ∧ gb < w1.heap.size from ⟨⟨lp, lk, lb⟩, WD.out.box.lt, WD.out.kn.lt, WD.out.bg.lt⟩)
  clear lp lk lb
  have AR := hide (show Rw (w1.alloc (.cells #[.int .i64 0, .int .i64 0, .int .i64 0, .int .i64 0] 62)) w1.heap.size 62 (fun _ => .int .i64 0) by have := World.rowIs_made w1 (.int .i64 0) 4 62; rw [show madeCells #[Value.int .i64 0] 4 = #[.int .i64 0, .int .i64 0, .int .i64 0, .int .i64 0] by kernel_rfl] at this; exact this)
  have M := bal (brefl w1) (.cells #[.int .i64 0, .int .i64 0, .int .i64 0, .int .i64 0] 62)
  replace WD := hide (WD.out.below M)
  replace K := hide (btrans K.out M)
  clear M
  go_upto_region 3 with fail
  obtain ⟨ga, hga⟩ : ∃ g, g = w1.heap.size := ⟨_, rfl⟩
  rw [← hga] at AR LL ⊢
  have GA := hide (show w.heap.size ≤ ga by have := K.out.size; rw [alloc_size'] at this; have := LL.out; omega)
  clear hga
  generalize w1.alloc (.cells #[.int .i64 0, .int .i64 0, .int .i64 0, .int .i64 0] 62) = w2 at *
  go_wp2_with fail
  refine (new_any _).mono ?_
  rintro e w3 ⟨rfl, hb⟩
  unfold eC
  replace WD := hide (WD.out.below hb)
  have GA2 := hide AR.out.lt
  replace AR := hide (AR.out.blk (hb.block _ AR.out.lt))
  replace K := hide (btrans K.out hb)
  clear hb
  have GA3 := hide AR.out.lt
  have EB := hide (Box.new w3 23 #[.int .i64 0, .bool false])
  have M := bal (brefl w3) (.cells #[.int .i64 0, .bool false] 23)
  replace WD := hide (WD.out.below M)
  replace AR := hide (AR.out.blk (M.block _ AR.out.lt))
  have GE := hide (show w.heap.size ≤ w3.heap.size from K.out.size)
  replace K := hide (btrans K.out M)
  clear M
  go_upto_region 4 with fail
  obtain ⟨ge, hge⟩ : ∃ g, g = w3.heap.size := ⟨_, rfl⟩
  rw [← hge] at EB GE GA3 ⊢
  clear hge
  generalize w3.alloc (.cells #[.int .i64 0, .bool false] 23) = w4 at *
  obtain ⟨B, hB⟩ : ∃ B, B = w4.heap.size := ⟨_, rfl⟩
  have SX := hide (show Sx w4 B p gk gb ge ga 0 false 0 0 (fun _ => 0) (fun _ => false) (fun _ => 0) (.slice none 0 0) [] by
    have l1 := WD.out.box.lt
    have l2 := WD.out.kn.lt
    have l3 := WD.out.bg.lt
    have l4 := EB.out.lt
    have l5 := AR.out.lt
    obtain ⟨-, a1, a2, a3⟩ := LL.out
    have a4 := GA3.out
    exact ⟨WD.out, EB.out, AR.out, ⟨rfl, .inl ⟨rfl, rfl⟩⟩, by omega, by omega⟩)
  have LB := hide (show w.heap.size ≤ p ∧ w.heap.size ≤ gk ∧ w.heap.size ≤ gb ∧ w.heap.size ≤ ge ∧ w.heap.size ≤ ga ∧ w.heap.size ≤ B by
    obtain ⟨⟨a1, a2, a3⟩, -⟩ := LL.out
    have := GA.out
    have := GE.out
    have := K.out.size
    omega)
  clear WD EB AR LL GA GE GA2 GA3 hB
  have IN := hide Inv.start
  go_wp2
  go_loopw [7, 8] (fun t i wr => ∃ (k : Nat) (n : Int) (b : Bool) (E S : Int) (kn : Nat → Int) (bg : Nat → Bool) (at' : Nat → Int) (A1 : Option Addr) (cap1 : Nat) (T : List Value), k ≤ L.length ∧ t = .slice A1 T.length cap1 ∧ i = .int .i64 k ∧ Hid (Sx wr B p gk gb ge ga n b E S kn bg at' (.slice A1 T.length cap1) T) ∧ Hid (Inv n b E S kn bg at') ∧ Hid (E ≤ k) ∧ Hid (T.length ≤ k) ∧ Hid (T.length ≤ cap1) ∧ Hid (Below w.heap.size w wr)) (fun _ i _ => L.length - (intOf i).toNat)
  case atStart => exact ⟨0, 0, false, 0, 0, _, _, _, none, 0, [], Nat.zero_le _, rfl, rfl, SX, IN, hide (Int.le_refl _), hide (Nat.le_refl _), hide (Nat.le_refl _), K⟩
  case round =>
    clear SX IN K
    obtain ⟨k, n, b, E, S, kn, bg, at', A1, cap1, T, hk, rfl, rfl, SX, IN, EK, TK, TC, K⟩ := hrel
    by_cases hlt : k < L.length
    · have hl2 : (k : Int) < (L.length : Int) := by omega
      have hk0 : (0 : Int) ≤ (k : Int) := by omega
      obtain ⟨b0, o0, rfl, hb0, y0, y1⟩ := HR.out _ K.out k hlt
      generalize (L.getD k (0, 0)).1 = kd at *
      generalize (L.getD k (0, 0)).2 = x at *
      obtain ⟨r, hr⟩ : ∃ r, r = x.tmod 4 := ⟨_, rfl⟩
      have r0 : -4 < r ∧ r < 4 := by
        have h1 := Int.tmod_lt_of_pos x (show (0 : Int) < 4 by decide)
        have h2 := Int.lt_tmod_of_pos x (show (0 : Int) < 4 by decide)
        omega
      have hq1 : x.tmod 4 = r := hr.symm
      clear hr
      obtain ⟨j, hj⟩ : ∃ j : Nat, ((r + 4).tmod 4) = j := ⟨((r + 4).tmod 4).toNat, by rw [Int.tmod_eq_emod_of_nonneg (by omega)]; omega⟩
      have hj4 : j < 4 := by rw [Int.tmod_eq_emod_of_nonneg (by omega)] at hj; omega
      have hjI : (j : Int) < 4 := by omega
      have hq2 : IntKind.i64.wrap r = r := by rw [IntKind.wrap_i64]; omega
      have hq3 : IntKind.i64.wrap (r + 4) = r + 4 := by rw [IntKind.wrap_i64]; omega
      have hq5 : IntKind.i64.wrap (j : Int) = j := by rw [IntKind.wrap_i64]; omega
      by_cases k0 : kd = 0
      · subst k0
        have CS := hide (fun w => set_any n b w)
        have E0 : 0 ≤ E := Int.le_trans IN.out.s0 IN.out.s1
        obtain ⟨er, IN2⟩ := IN.out.fail (by have := EK.out; omega)
        replace IN := hide IN2
        rw [show (st n b).2 = 0 from er] at CS
        clear IN2 er
        unfold eC at CS
        generalize (st n b).1.1 = n1 at *
        generalize (st n b).1.2 = b1 at *
        obtain ⟨e0, e1⟩ := SX.out.eb.two
        go_wp2_with fail
        refine (CS.out _).mono ?_
        rintro e w5 ⟨rfl, hb⟩
        replace SX := hide (SX.out.below hb)
        replace K := hide (btrans K.out hb)
        clear hb e0 e1 CS y0 y1
        have XB := hide (Box.new w5 23 #[.int .i64 n1, .bool b1])
        have M := bal (brefl w5) (.cells #[.int .i64 n1, .bool b1] 23)
        replace SX := hide (SX.out.below M)
        replace K := hide (btrans K.out M)
        clear M
        go_upto_region 14 with fail
        generalize w5.heap.size = gx at *
        generalize w5.alloc (.cells #[.int .i64 n1, .bool b1] 23) = w6 at *
        obtain ⟨x0, x1⟩ := XB.out.two
        obtain ⟨q0, q1⟩ := SX.out.eb.two
        have fe0 := SX.out.eb.frozen 0
        have fe1 := SX.out.eb.frozen 1
        replace SX := hide (SX.out.setE n1 b1)
        replace K := hide (bset (bset K.out (p := ⟨ge, 0, none⟩) LB.out.2.2.2.1 (.int .i64 n1)) (p := ⟨ge, 1, none⟩) LB.out.2.2.2.1 (.bool b1))
        go_upto_region 15 with fail
        clear XB x0 x1 fe0 fe1 q0 q1
        generalize (w6.setCell ⟨ge, 0, none⟩ (.int .i64 n1)).setCell ⟨ge, 1, none⟩ (.bool b1) = w7 at *
        go_wp2_with fail
        refine (fail_any _ p gk gb E S kn bg SX.out.wd E0 (by have := EK.out; omega)).mono ?_
        rintro e w8 ⟨⟨v8, rfl⟩, fr, wd⟩
        replace SX := hide (SX.out.step fr wd)
        replace K := hide (fr.below K.out LB.out.1 LB.out.2.1 LB.out.2.2.1)
        replace EK := hide (show E + 1 ≤ ((k + 1 : Nat) : Int) by have := EK.out; omega)
        clear fr wd
        go_upto_region 29 with fail
        have CV := hide (fun w => vl_any n1 b1 w)
        rw [IN.out.v] at CV
        unfold eC at CV
        obtain ⟨e0, e1⟩ := SX.out.eb.two
        go_wp2_with fail
        refine (CV.out _).mono ?_
        rintro e wv ⟨rfl, hb⟩
        replace SX := hide (SX.out.below hb)
        replace K := hide (btrans K.out hb)
        clear hb e0 e1 CV
        go_wp2
        go_roundw
        case rel => first | exact ⟨k + 1, n1, b1, _, _, _, _, _, _, _, _, by omega, rfl, by go_num, SX, IN, EK, hide (by have := TK.out; omega), TC, K⟩ | ((repeat apply Exists.intro); exact ⟨⟨k + 1, n1, b1, _, _, _, _, _, _, _, _, by omega, rfl, by go_num, SX, IN, EK, hide (by have := TK.out; omega), TC, K⟩, rfl⟩)
        case measure => simp [intOf]; omega
      · have d0 : (kd == 0) = false := by simp [k0]
        by_cases k1 : kd = 1
        · subst k1
          have CS := hide (fun w => smp_any n b w)
          obtain ⟨er, IN2⟩ := IN.out.begin hj4
          replace IN := hide IN2
          rw [show (sm n b).2 = 0 from er] at CS
          clear IN2 er
          unfold eC at CS
          generalize (sm n b).1 = ps at *
          obtain ⟨e0, e1⟩ := SX.out.eb.two
          go_wp2_with fail
          refine (CS.out _).mono ?_
          rintro e w5 ⟨rfl, hb⟩
          replace SX := hide (SX.out.below hb)
          replace K := hide (btrans K.out hb)
          clear hb e0 e1 CS y0 y1
          have a0 := SX.out.ar.at hj4
          have fa := SX.out.ar.frozen j
          go_upto_region 21 with fail
          clear a0 fa
          replace SX := hide (SX.out.setA j ps)
          replace K := hide (bset K.out (p := ⟨ga, j, none⟩) LB.out.2.2.2.2.1 (.int .i64 ps))
          generalize w5.setCell ⟨ga, j, none⟩ (.int .i64 ps) = w7 at *
          go_wp2_with fail
          refine (begin_any _ p gk gb E S kn bg j SX.out.wd hj4).mono ?_
          rintro e w8 ⟨⟨v8, rfl⟩, fr, wd⟩
          replace SX := hide (SX.out.step fr wd)
          replace K := hide (fr.below K.out LB.out.1 LB.out.2.1 LB.out.2.2.1)
          clear fr wd
          go_upto_region 29 with fail
          have CV := hide (fun w => vl_any n b w)
          rw [IN.out.v] at CV
          unfold eC at CV
          obtain ⟨e0, e1⟩ := SX.out.eb.two
          go_wp2_with fail
          refine (CV.out _).mono ?_
          rintro e wv ⟨rfl, hb⟩
          replace SX := hide (SX.out.below hb)
          replace K := hide (btrans K.out hb)
          clear hb e0 e1 CV
          go_wp2
          go_roundw
          case rel => first | exact ⟨k + 1, n, b, _, _, _, _, _, _, _, _, by omega, rfl, by go_num, SX, IN, hide (by have := EK.out; omega), hide (by have := TK.out; omega), TC, K⟩ | ((repeat apply Exists.intro); exact ⟨⟨k + 1, n, b, _, _, _, _, _, _, _, _, by omega, rfl, by go_num, SX, IN, hide (by have := EK.out; omega), hide (by have := TK.out; omega), TC, K⟩, rfl⟩)
          case measure => simp [intOf]; omega
        · have d1 : (kd == 1) = false := by simp [k1]
          by_cases k2' : kd = 2
          · subst k2'
            obtain ⟨x0, x1, x2, x3⟩ := SX.out.wd.box.four
            have bj := SX.out.wd.bg.at hj4
            cases hbg : bg j
            · rw [hbg] at bj
              clear hbg
              go_wp2
              go_roundw
              case rel => first | exact ⟨k + 1, n, b, _, _, _, _, _, _, _, _, by omega, rfl, by go_num, SX, IN, hide (by have := EK.out; omega), hide (by have := TK.out; omega), TC, K⟩ | ((repeat apply Exists.intro); exact ⟨⟨k + 1, n, b, _, _, _, _, _, _, _, _, by omega, rfl, by go_num, SX, IN, hide (by have := EK.out; omega), hide (by have := TK.out; omega), TC, K⟩, rfl⟩)
              case measure => simp [intOf]; omega
            · rw [hbg] at bj
              have CS := hide (fun w => chk_any n b (at' j) w)
              obtain ⟨vv, er, IN2⟩ := IN.out.ask hj4 hbg
              have INW := IN
              replace IN := hide IN2
              rw [er] at CS
              clear IN2 er vv hbg
              unfold eC at CS
              generalize (ck n b (at' j)).1.1 = n1 at *
              generalize (ck n b (at' j)).1.2 = b1 at *
              generalize (ck n b (at' j)).2.1 = ps at *
              go_upto_region 24 with fail
              clear x0 x1 x2 x3 bj y0 y1
              generalize wr = w4 at *
              have CE := hide (fun (w' : World) (hb : Below w4.heap.size w4 w') => (⟨(SX.out.below hb).eb.two.1, (SX.out.below hb).eb.two.2, (SX.out.below hb).ar.at hj4⟩ : w'.cell? ⟨ge, 0, none⟩ = some (.int .i64 n) ∧ w'.cell? ⟨ge, 1, none⟩ = some (.bool b) ∧ w'.cell? ⟨ga, j, none⟩ = some (.int .i64 (at' j))))
              have C := CS
              clear CS
              by_cases hkn : kn j < E
              · rw [if_pos hkn] at C IN
                have dkn : decide (kn j < E) = true := decide_eq_true hkn
                refine wp_region_noPanic ?_
                refine wp_region_held_drew (S := (fun w => w.cell? ⟨ge, 0, none⟩ = some (.int .i64 n) ∧ w.cell? ⟨ge, 1, none⟩ = some (.bool b) ∧ w.cell? ⟨ga, j, none⟩ = some (.int .i64 (at' j)))) (by kernel_rfl) ?_ (fun hHeld => ?_)
                · exact CE.out _ (below_drewN (brefl w4) 1)
                have KK := hide (below_drewN (brefl w4) 1)
                change Hid (Below w4.heap.size w4 w4.drew) at KK
                generalize w4.drew = w6 at *
                refine wpAnyH_take (i := 0) (oi := ⟨some 76, _, _, _, _, _⟩) (v := ?_) rfl (by kernel_rfl) (by kernel_rfl) (by kernel_rfl) (fun _ _ _ h => h) (Or.inl ⟨by kernel_rfl, ?_⟩) (by assumption) ?_
                rotate_left 1
                · (intro w hSw; (try dsimp only at hSw); go_simp) <;> (with_reducible rfl)
                (try simp only [Act.put, List.setIfInBounds_toArray, List.set_cons_succ, List.set_cons_zero])
                refine wpAnyH_take (i := 1) (oi := ⟨some 77, _, _, _, _, _⟩) (v := ?_) rfl (by kernel_rfl) (by kernel_rfl) (by kernel_rfl) (fun _ _ _ h => h) (Or.inl ⟨by kernel_rfl, ?_⟩) (by assumption) ?_
                rotate_left 1
                · (intro w hSw; (try dsimp only at hSw); go_simp) <;> (with_reducible rfl)
                (try simp only [Act.put, List.setIfInBounds_toArray, List.set_cons_succ, List.set_cons_zero])
                refine wpAnyH_take (i := 2) (oi := ⟨some 78, _, _, _, _, _⟩) (v := ?_) rfl (by kernel_rfl) (by kernel_rfl) (by kernel_rfl) (fun _ _ _ h => h) (Or.inl ⟨by kernel_rfl, ?_⟩) (by assumption) ?_
                rotate_left 1
                · (intro w hSw; (try dsimp only at hSw); go_simp) <;> (with_reducible rfl)
                (try simp only [Act.put, List.setIfInBounds_toArray, List.set_cons_succ, List.set_cons_zero])
                refine wpAnyH_take (i := 3) (oi := ⟨some 79, _, _, _, _, _⟩) (v := ?_) rfl (by kernel_rfl) (by kernel_rfl) (by kernel_rfl) (fun _ _ _ h => h) (Or.inl ⟨by kernel_rfl, ?_⟩) (by assumption) ?_
                rotate_left 1
                · (intro w hSw; (try dsimp only at hSw); go_simp) <;> (with_reducible rfl)
                (try simp only [Act.put, List.setIfInBounds_toArray, List.set_cons_succ, List.set_cons_zero])
                refine wpAnyH_ready (rs := [4, 9]) (by kernel_rfl) (by simp) ?_
                refine AllReadyH.cons (o := ⟨some 80, _, _, _, _, _⟩) rfl (fun K' hK => ?_) ?_
                · go_simp
                  refine (C.out _).mono ?_
                  rintro e wn ⟨rfl, hb⟩
                  replace KK := hide (btrans KK.out hb)
                  clear hb
                  refine hK.out _ _ ?_ (fun hHeld => ?_)
                  · first | exact CE.out _ KK.out | exact CE.out _ KB.out
                  clear hK K'
                  (try simp only [Act.put, List.setIfInBounds_toArray, List.set_cons_succ, List.set_cons_zero])
                  refine wpAnyH_take (i := 5) (oi := ⟨some 75, _, _, _, _, _⟩) (v := ?_) rfl (by kernel_rfl) (by kernel_rfl) (by kernel_rfl) (fun _ _ _ h => h) (Or.inl ⟨by kernel_rfl, ?_⟩) (by assumption) ?_
                  rotate_left 1
                  · (intro w hSw; (try dsimp only at hSw); go_simp) <;> (with_reducible rfl)
                  (try simp only [Act.put, List.setIfInBounds_toArray, List.set_cons_succ, List.set_cons_zero])
                  refine wpAnyH_take (i := 6) (oi := ⟨some 81, _, _, _, _, _⟩) (v := ?_) rfl (by kernel_rfl) (by kernel_rfl) (by kernel_rfl) (fun _ _ _ h => h) (Or.inl ⟨by kernel_rfl, ?_⟩) (by assumption) ?_
                  rotate_left 1
                  · (intro w hSw; (try dsimp only at hSw); go_simp) <;> (with_reducible rfl)
                  (try simp only [Act.put, List.setIfInBounds_toArray, List.set_cons_succ, List.set_cons_zero])
                  refine wpAnyH_take (i := 7) (oi := ⟨some 82, _, _, _, _, _⟩) (v := ?_) rfl (by kernel_rfl) (by kernel_rfl) (by kernel_rfl) (fun _ _ _ h => h) (Or.inl ⟨by kernel_rfl, ?_⟩) (by assumption) ?_
                  rotate_left 1
                  · (intro w hSw; (try dsimp only at hSw); go_simp) <;> (with_reducible rfl)
                  (try simp only [Act.put, List.setIfInBounds_toArray, List.set_cons_succ, List.set_cons_zero])
                  refine wpAnyH_take (i := 8) (oi := ⟨some 83, _, _, _, _, _⟩) (v := ?_) rfl (by kernel_rfl) (by kernel_rfl) (by kernel_rfl) (fun _ _ _ h => h) (Or.inl ⟨by kernel_rfl, ?_⟩) (by assumption) ?_
                  rotate_left 1
                  · (intro w hSw; (try dsimp only at hSw); go_simp) <;> (with_reducible rfl)
                  (try simp only [Act.put, List.setIfInBounds_toArray, List.set_cons_succ, List.set_cons_zero])
                  refine wpAnyH_ready (rs := [9]) (by kernel_rfl) (by simp) ?_
                  refine AllReadyH.cons (o := ⟨some 14, _, _, _, _, _⟩) rfl (fun K' hK => ?_) AllReadyH.nil
                  go_simp
                  have XA := hide (Box.new wn 23 #[.int .i64 0, .bool false])
                  have GA := hide (show w4.heap.size ≤ wn.heap.size from KK.out.size)
                  replace KK := hide (bal KK.out (.cells #[.int .i64 0, .bool false] 23))
                  obtain ⟨gx, hgx⟩ : ∃ g, g = wn.heap.size := ⟨_, rfl⟩
                  rw [← hgx] at XA GA ⊢
                  have GX := hide (show B ≤ gx by have := SX.out.lt; have := GA.out; omega)
                  clear hgx
                  generalize wn.alloc (.cells #[.int .i64 0, .bool false] 23) = wa at *
                  refine hK.out _ _ ?_ (fun hHeld => ?_)
                  · first | exact CE.out _ KK.out | exact CE.out _ KB.out
                  clear hK K'
                  (try simp only [Act.put, List.setIfInBounds_toArray, List.set_cons_succ, List.set_cons_zero])
                  refine wpAnyH_ready (rs := [10]) (by kernel_rfl) (by simp) ?_
                  refine AllReadyH.cons (o := ⟨none, _, _, _, _, _⟩) rfl (fun K' hK => ?_) AllReadyH.nil
                  obtain ⟨xc0, xc1⟩ := XA.out.two
                  have xf0 := XA.out.frozen 0
                  have xf1 := XA.out.frozen 1
                  go_simp
                  have XB := hide (XA.out.set2 (.int .i64 n1) (.bool b1))
                  have KB := hide (k2 KK.out GA.out (.int .i64 n1) (.bool b1))
                  clear xf0 xf1 xc0 xc1 XA KK
                  generalize (wa.setCell ⟨gx, 0, none⟩ (.int .i64 n1)).setCell ⟨gx, 1, none⟩ (.bool b1) = wb at *
                  refine hK.out _ _ ?_ (fun hHeld => ?_)
                  · exact CE.out _ KB.out
                  clear hK K'
                  (try simp only [Act.put, List.setIfInBounds_toArray, List.set_cons_succ, List.set_cons_zero])
                  refine wpAnyH_take (i := 11) (oi := ⟨some 15, _, _, _, _, _⟩) (v := ?_) rfl (by kernel_rfl) (by kernel_rfl) (by kernel_rfl) (fun _ _ _ h => h) (Or.inl ⟨by kernel_rfl, ?_⟩) (by assumption) ?_
                  rotate_left 1
                  · (intro w hSw; (try dsimp only at hSw); go_simp) <;> (with_reducible rfl)
                  (try simp only [Act.put, List.setIfInBounds_toArray, List.set_cons_succ, List.set_cons_zero])
                  refine wpAnyH_take (i := 12) (oi := ⟨some 16, _, _, _, _, _⟩) (v := ?_) rfl (by kernel_rfl) (by kernel_rfl) (by kernel_rfl) (fun _ _ _ h => h) (Or.inl ⟨by kernel_rfl, ?_⟩) (by assumption) ?_
                  rotate_left 1
                  · (intro w hSw; (try dsimp only at hSw); go_simp) <;> (with_reducible rfl)
                  (try simp only [Act.put, List.setIfInBounds_toArray, List.set_cons_succ, List.set_cons_zero])
                  refine wpAnyH_done (by kernel_rfl) ?_ _
                  refine NoPanic.normal ?_
                  replace SX := hide (SX.out.below KB.out)
                  replace K := hide (btrans K.out KB.out)
                  have CQ := hide (ask_any wb p gk gb E S kn bg j SX.out.wd hj4)
                  rw [dkn] at CQ
                  rw [if_pos hkn] at CQ
                  clear KB C CE INW hkn dkn GA
                  go_wp2_with fail
                  refine CQ.out.mono ?_
                  rintro e w8 ⟨rfl, fr, wd⟩
                  have XB := hide (show Box w8 gx 23 #[.int .i64 n1, .bool b1] from (fr.o gx (by have := GX.out; have := SX.out.lt; omega) (by have := GX.out; have := SX.out.lt; omega) (by have := GX.out; have := SX.out.lt; omega)).trans XB.out)
                  replace SX := hide (SX.out.step fr wd)
                  replace K := hide (fr.below K.out LB.out.1 LB.out.2.1 LB.out.2.2.1)
                  clear fr wd CQ
                  obtain ⟨z0, z1⟩ := XB.out.two
                  obtain ⟨q0, q1⟩ := SX.out.eb.two
                  have fe0 := SX.out.eb.frozen 0
                  have fe1 := SX.out.eb.frozen 1
                  have S2 := hide (SX.out.setE n1 b1)
                  have fa := S2.out.ar.frozen j
                  have qa := S2.out.ar.at hj4
                  have S3 := hide (S2.out.setA j ps)
                  replace K := hide (bset (bset (bset K.out (p := ⟨ge, 0, none⟩) LB.out.2.2.2.1 (.int .i64 n1)) (p := ⟨ge, 1, none⟩) LB.out.2.2.2.1 (.bool b1)) (p := ⟨ga, j, none⟩) LB.out.2.2.2.2.1 (.int .i64 ps))
                  go_upto_region 28 with fail
                  clear z0 z1 fe0 fe1 fa qa q0 q1 SX S2 XB
                  generalize ((w8.setCell ⟨ge, 0, none⟩ (.int .i64 n1)).setCell ⟨ge, 1, none⟩ (.bool b1)).setCell ⟨ga, j, none⟩ (.int .i64 ps) = w9 at *
                  have M := bal (brefl w9) (.cells #[.bool true] 4)
                  have OA := hide (row_below S3.out.ow M)
                  have SXA := hide (S3.out.below M)
                  have NB := hide (cell_one_new w9 (.bool true) 4)
                  have SA := hide SXA.out.lt.2.2.2.2.2
                  have KA := hide (btrans K.out M)
                  clear M S3 K
                  obtain ⟨m1, hm1⟩ : ∃ m1, m1 = T.length := ⟨_, rfl⟩
                  have hm60 : m1 ≤ 100 := by have := TK.out; omega
                  rw [← hm1] at OA ⊢
                  have HM := hide hm1
                  clear hm1
                  go_upto_region 29 with (at_builtin; refine wpList_append_own_at _ rfl (.tmp 102) (.tmp 105) 35 rfl B 4 i0 _ 1 1 Try.underlying35 hi0 hz0 hz1 hz2 rfl (by omega) (.slice A1 m1 cap1) m1 T rfl OA.out ⟨w9.heap.size, 0, none⟩ 1 1 [.bool true] rfl rfl NB.out (by intro u hu; rw [List.mem_singleton.1 hu]; rfl) (by simp only [maxLen]; omega) (by omega) SA.out ?_; intro v4 w10 hown4 hg4 _ hat4; obtain ⟨A4, cp4, ev4, hc4⟩ := row_form hown4; subst ev4)
                  have e3 : (T ++ [Value.bool true]).length = m1 + 1 := by rw [List.length_append, ← HM.out]; rfl
                  have BG := (Kp.grown OA.out hg4 (Nat.le_refl _) SA.out).below
                  have SX := hide (SXA.out.told (T' := T ++ [Value.bool true]) (v' := .slice A4 (m1 + 1) cp4) (by rw [e3]; exact hown4) BG)
                  have K := hide (KA.out.trans (BG.mono LB.out.2.2.2.2.2))
                  rw [← e3] at SX hc4 ⊢
                  replace TC := hide hc4
                  replace TK := hide (show (T ++ [Value.bool true]).length ≤ k + 1 by rw [e3]; have := TK.out; have := HM.out; omega)
                  clear BG hown4 hg4 hat4 OA NB SA KA SXA e3 hc4 HM
                  generalize T ++ [Value.bool true] = T2 at *
                  have CV := hide (fun w => vl_any n1 b1 w)
                  rw [IN.out.v] at CV
                  unfold eC at CV
                  obtain ⟨e0, e1⟩ := SX.out.eb.two
                  go_wp2_with fail
                  refine (CV.out _).mono ?_
                  rintro e wv ⟨rfl, hb⟩
                  replace SX := hide (SX.out.below hb)
                  replace K := hide (btrans K.out hb)
                  clear hb e0 e1 CV
                  go_wp2
                  go_roundw
                  case rel => first | exact ⟨k + 1, n1, b1, _, _, _, _, _, _, _, _, by omega, rfl, by go_num, SX, IN, hide (by have := EK.out; omega), hide (by have := TK.out; omega), TC, K⟩ | ((repeat apply Exists.intro); exact ⟨⟨k + 1, n1, b1, _, _, _, _, _, _, _, _, by omega, rfl, by go_num, SX, IN, hide (by have := EK.out; omega), hide (by have := TK.out; omega), TC, K⟩, rfl⟩)
                  case measure => simp [intOf]; omega
                refine AllReadyH.cons (o := ⟨some 14, _, _, _, _, _⟩) rfl (fun K' hK => ?_) AllReadyH.nil
                go_simp
                have XA := hide (Box.new w6 23 #[.int .i64 0, .bool false])
                have GA := hide (show w4.heap.size ≤ w6.heap.size from KK.out.size)
                replace KK := hide (bal KK.out (.cells #[.int .i64 0, .bool false] 23))
                obtain ⟨gx, hgx⟩ : ∃ g, g = w6.heap.size := ⟨_, rfl⟩
                rw [← hgx] at XA GA ⊢
                have GX := hide (show B ≤ gx by have := SX.out.lt; have := GA.out; omega)
                clear hgx
                generalize w6.alloc (.cells #[.int .i64 0, .bool false] 23) = wa at *
                refine hK.out _ _ ?_ (fun hHeld => ?_)
                · first | exact CE.out _ KK.out | exact CE.out _ KB.out
                clear hK K'
                (try simp only [Act.put, List.setIfInBounds_toArray, List.set_cons_succ, List.set_cons_zero])
                refine wpAnyH_ready (rs := [4]) (by kernel_rfl) (by simp) ?_
                refine AllReadyH.cons (o := ⟨some 80, _, _, _, _, _⟩) rfl (fun K' hK => ?_) AllReadyH.nil
                go_simp
                refine (C.out _).mono ?_
                rintro e wn ⟨rfl, hb⟩
                replace KK := hide (btrans KK.out hb)
                have XA := hide (Box.below XA.out hb)
                clear hb
                refine hK.out _ _ ?_ (fun hHeld => ?_)
                · first | exact CE.out _ KK.out | exact CE.out _ KB.out
                clear hK K'
                (try simp only [Act.put, List.setIfInBounds_toArray, List.set_cons_succ, List.set_cons_zero])
                refine wpAnyH_take (i := 5) (oi := ⟨some 75, _, _, _, _, _⟩) (v := ?_) rfl (by kernel_rfl) (by kernel_rfl) (by kernel_rfl) (fun _ _ _ h => h) (Or.inl ⟨by kernel_rfl, ?_⟩) (by assumption) ?_
                rotate_left 1
                · (intro w hSw; (try dsimp only at hSw); go_simp) <;> (with_reducible rfl)
                (try simp only [Act.put, List.setIfInBounds_toArray, List.set_cons_succ, List.set_cons_zero])
                refine wpAnyH_take (i := 6) (oi := ⟨some 81, _, _, _, _, _⟩) (v := ?_) rfl (by kernel_rfl) (by kernel_rfl) (by kernel_rfl) (fun _ _ _ h => h) (Or.inl ⟨by kernel_rfl, ?_⟩) (by assumption) ?_
                rotate_left 1
                · (intro w hSw; (try dsimp only at hSw); go_simp) <;> (with_reducible rfl)
                (try simp only [Act.put, List.setIfInBounds_toArray, List.set_cons_succ, List.set_cons_zero])
                refine wpAnyH_take (i := 7) (oi := ⟨some 82, _, _, _, _, _⟩) (v := ?_) rfl (by kernel_rfl) (by kernel_rfl) (by kernel_rfl) (fun _ _ _ h => h) (Or.inl ⟨by kernel_rfl, ?_⟩) (by assumption) ?_
                rotate_left 1
                · (intro w hSw; (try dsimp only at hSw); go_simp) <;> (with_reducible rfl)
                (try simp only [Act.put, List.setIfInBounds_toArray, List.set_cons_succ, List.set_cons_zero])
                refine wpAnyH_take (i := 8) (oi := ⟨some 83, _, _, _, _, _⟩) (v := ?_) rfl (by kernel_rfl) (by kernel_rfl) (by kernel_rfl) (fun _ _ _ h => h) (Or.inl ⟨by kernel_rfl, ?_⟩) (by assumption) ?_
                rotate_left 1
                · (intro w hSw; (try dsimp only at hSw); go_simp) <;> (with_reducible rfl)
                (try simp only [Act.put, List.setIfInBounds_toArray, List.set_cons_succ, List.set_cons_zero])
                refine wpAnyH_ready (rs := [10]) (by kernel_rfl) (by simp) ?_
                refine AllReadyH.cons (o := ⟨none, _, _, _, _, _⟩) rfl (fun K' hK => ?_) AllReadyH.nil
                obtain ⟨xc0, xc1⟩ := XA.out.two
                have xf0 := XA.out.frozen 0
                have xf1 := XA.out.frozen 1
                go_simp
                have XB := hide (XA.out.set2 (.int .i64 n1) (.bool b1))
                have KB := hide (k2 KK.out GA.out (.int .i64 n1) (.bool b1))
                clear xf0 xf1 xc0 xc1 XA KK
                generalize (wn.setCell ⟨gx, 0, none⟩ (.int .i64 n1)).setCell ⟨gx, 1, none⟩ (.bool b1) = wb at *
                refine hK.out _ _ ?_ (fun hHeld => ?_)
                · exact CE.out _ KB.out
                clear hK K'
                (try simp only [Act.put, List.setIfInBounds_toArray, List.set_cons_succ, List.set_cons_zero])
                refine wpAnyH_take (i := 11) (oi := ⟨some 15, _, _, _, _, _⟩) (v := ?_) rfl (by kernel_rfl) (by kernel_rfl) (by kernel_rfl) (fun _ _ _ h => h) (Or.inl ⟨by kernel_rfl, ?_⟩) (by assumption) ?_
                rotate_left 1
                · (intro w hSw; (try dsimp only at hSw); go_simp) <;> (with_reducible rfl)
                (try simp only [Act.put, List.setIfInBounds_toArray, List.set_cons_succ, List.set_cons_zero])
                refine wpAnyH_take (i := 12) (oi := ⟨some 16, _, _, _, _, _⟩) (v := ?_) rfl (by kernel_rfl) (by kernel_rfl) (by kernel_rfl) (fun _ _ _ h => h) (Or.inl ⟨by kernel_rfl, ?_⟩) (by assumption) ?_
                rotate_left 1
                · (intro w hSw; (try dsimp only at hSw); go_simp) <;> (with_reducible rfl)
                (try simp only [Act.put, List.setIfInBounds_toArray, List.set_cons_succ, List.set_cons_zero])
                refine wpAnyH_done (by kernel_rfl) ?_ _
                refine NoPanic.normal ?_
                replace SX := hide (SX.out.below KB.out)
                replace K := hide (btrans K.out KB.out)
                have CQ := hide (ask_any wb p gk gb E S kn bg j SX.out.wd hj4)
                rw [dkn] at CQ
                rw [if_pos hkn] at CQ
                clear KB C CE INW hkn dkn GA
                go_wp2_with fail
                refine CQ.out.mono ?_
                rintro e w8 ⟨rfl, fr, wd⟩
                have XB := hide (show Box w8 gx 23 #[.int .i64 n1, .bool b1] from (fr.o gx (by have := GX.out; have := SX.out.lt; omega) (by have := GX.out; have := SX.out.lt; omega) (by have := GX.out; have := SX.out.lt; omega)).trans XB.out)
                replace SX := hide (SX.out.step fr wd)
                replace K := hide (fr.below K.out LB.out.1 LB.out.2.1 LB.out.2.2.1)
                clear fr wd CQ
                obtain ⟨z0, z1⟩ := XB.out.two
                obtain ⟨q0, q1⟩ := SX.out.eb.two
                have fe0 := SX.out.eb.frozen 0
                have fe1 := SX.out.eb.frozen 1
                have S2 := hide (SX.out.setE n1 b1)
                have fa := S2.out.ar.frozen j
                have qa := S2.out.ar.at hj4
                have S3 := hide (S2.out.setA j ps)
                replace K := hide (bset (bset (bset K.out (p := ⟨ge, 0, none⟩) LB.out.2.2.2.1 (.int .i64 n1)) (p := ⟨ge, 1, none⟩) LB.out.2.2.2.1 (.bool b1)) (p := ⟨ga, j, none⟩) LB.out.2.2.2.2.1 (.int .i64 ps))
                go_upto_region 28 with fail
                clear z0 z1 fe0 fe1 fa qa q0 q1 SX S2 XB
                generalize ((w8.setCell ⟨ge, 0, none⟩ (.int .i64 n1)).setCell ⟨ge, 1, none⟩ (.bool b1)).setCell ⟨ga, j, none⟩ (.int .i64 ps) = w9 at *
                have M := bal (brefl w9) (.cells #[.bool true] 4)
                have OA := hide (row_below S3.out.ow M)
                have SXA := hide (S3.out.below M)
                have NB := hide (cell_one_new w9 (.bool true) 4)
                have SA := hide SXA.out.lt.2.2.2.2.2
                have KA := hide (btrans K.out M)
                clear M S3 K
                obtain ⟨m1, hm1⟩ : ∃ m1, m1 = T.length := ⟨_, rfl⟩
                have hm60 : m1 ≤ 100 := by have := TK.out; omega
                rw [← hm1] at OA ⊢
                have HM := hide hm1
                clear hm1
                go_upto_region 29 with (at_builtin; refine wpList_append_own_at _ rfl (.tmp 102) (.tmp 105) 35 rfl B 4 i0 _ 1 1 Try.underlying35 hi0 hz0 hz1 hz2 rfl (by omega) (.slice A1 m1 cap1) m1 T rfl OA.out ⟨w9.heap.size, 0, none⟩ 1 1 [.bool true] rfl rfl NB.out (by intro u hu; rw [List.mem_singleton.1 hu]; rfl) (by simp only [maxLen]; omega) (by omega) SA.out ?_; intro v4 w10 hown4 hg4 _ hat4; obtain ⟨A4, cp4, ev4, hc4⟩ := row_form hown4; subst ev4)
                have e3 : (T ++ [Value.bool true]).length = m1 + 1 := by rw [List.length_append, ← HM.out]; rfl
                have BG := (Kp.grown OA.out hg4 (Nat.le_refl _) SA.out).below
                have SX := hide (SXA.out.told (T' := T ++ [Value.bool true]) (v' := .slice A4 (m1 + 1) cp4) (by rw [e3]; exact hown4) BG)
                have K := hide (KA.out.trans (BG.mono LB.out.2.2.2.2.2))
                rw [← e3] at SX hc4 ⊢
                replace TC := hide hc4
                replace TK := hide (show (T ++ [Value.bool true]).length ≤ k + 1 by rw [e3]; have := TK.out; have := HM.out; omega)
                clear BG hown4 hg4 hat4 OA NB SA KA SXA e3 hc4 HM
                generalize T ++ [Value.bool true] = T2 at *
                have CV := hide (fun w => vl_any n1 b1 w)
                rw [IN.out.v] at CV
                unfold eC at CV
                obtain ⟨e0, e1⟩ := SX.out.eb.two
                go_wp2_with fail
                refine (CV.out _).mono ?_
                rintro e wv ⟨rfl, hb⟩
                replace SX := hide (SX.out.below hb)
                replace K := hide (btrans K.out hb)
                clear hb e0 e1 CV
                go_wp2
                go_roundw
                case rel => first | exact ⟨k + 1, n1, b1, _, _, _, _, _, _, _, _, by omega, rfl, by go_num, SX, IN, hide (by have := EK.out; omega), hide (by have := TK.out; omega), TC, K⟩ | ((repeat apply Exists.intro); exact ⟨⟨k + 1, n1, b1, _, _, _, _, _, _, _, _, by omega, rfl, by go_num, SX, IN, hide (by have := EK.out; omega), hide (by have := TK.out; omega), TC, K⟩, rfl⟩)
                case measure => simp [intOf]; omega
              · rw [if_neg hkn] at C IN
                have dkn : decide (kn j < E) = false := decide_eq_false hkn
                refine wp_region_noPanic ?_
                refine wp_region_held_drew (S := (fun w => w.cell? ⟨ge, 0, none⟩ = some (.int .i64 n) ∧ w.cell? ⟨ge, 1, none⟩ = some (.bool b) ∧ w.cell? ⟨ga, j, none⟩ = some (.int .i64 (at' j)))) (by kernel_rfl) ?_ (fun hHeld => ?_)
                · exact CE.out _ (below_drewN (brefl w4) 1)
                have KK := hide (below_drewN (brefl w4) 1)
                change Hid (Below w4.heap.size w4 w4.drew) at KK
                generalize w4.drew = w6 at *
                refine wpAnyH_take (i := 0) (oi := ⟨some 76, _, _, _, _, _⟩) (v := ?_) rfl (by kernel_rfl) (by kernel_rfl) (by kernel_rfl) (fun _ _ _ h => h) (Or.inl ⟨by kernel_rfl, ?_⟩) (by assumption) ?_
                rotate_left 1
                · (intro w hSw; (try dsimp only at hSw); go_simp) <;> (with_reducible rfl)
                (try simp only [Act.put, List.setIfInBounds_toArray, List.set_cons_succ, List.set_cons_zero])
                refine wpAnyH_take (i := 1) (oi := ⟨some 77, _, _, _, _, _⟩) (v := ?_) rfl (by kernel_rfl) (by kernel_rfl) (by kernel_rfl) (fun _ _ _ h => h) (Or.inl ⟨by kernel_rfl, ?_⟩) (by assumption) ?_
                rotate_left 1
                · (intro w hSw; (try dsimp only at hSw); go_simp) <;> (with_reducible rfl)
                (try simp only [Act.put, List.setIfInBounds_toArray, List.set_cons_succ, List.set_cons_zero])
                refine wpAnyH_take (i := 2) (oi := ⟨some 78, _, _, _, _, _⟩) (v := ?_) rfl (by kernel_rfl) (by kernel_rfl) (by kernel_rfl) (fun _ _ _ h => h) (Or.inl ⟨by kernel_rfl, ?_⟩) (by assumption) ?_
                rotate_left 1
                · (intro w hSw; (try dsimp only at hSw); go_simp) <;> (with_reducible rfl)
                (try simp only [Act.put, List.setIfInBounds_toArray, List.set_cons_succ, List.set_cons_zero])
                refine wpAnyH_take (i := 3) (oi := ⟨some 79, _, _, _, _, _⟩) (v := ?_) rfl (by kernel_rfl) (by kernel_rfl) (by kernel_rfl) (fun _ _ _ h => h) (Or.inl ⟨by kernel_rfl, ?_⟩) (by assumption) ?_
                rotate_left 1
                · (intro w hSw; (try dsimp only at hSw); go_simp) <;> (with_reducible rfl)
                (try simp only [Act.put, List.setIfInBounds_toArray, List.set_cons_succ, List.set_cons_zero])
                refine wpAnyH_ready (rs := [4, 9]) (by kernel_rfl) (by simp) ?_
                refine AllReadyH.cons (o := ⟨some 80, _, _, _, _, _⟩) rfl (fun K' hK => ?_) ?_
                · go_simp
                  refine (C.out _).mono ?_
                  rintro e wn ⟨rfl, hb⟩
                  replace KK := hide (btrans KK.out hb)
                  clear hb
                  refine hK.out _ _ ?_ (fun hHeld => ?_)
                  · first | exact CE.out _ KK.out | exact CE.out _ KB.out
                  clear hK K'
                  (try simp only [Act.put, List.setIfInBounds_toArray, List.set_cons_succ, List.set_cons_zero])
                  refine wpAnyH_take (i := 5) (oi := ⟨some 75, _, _, _, _, _⟩) (v := ?_) rfl (by kernel_rfl) (by kernel_rfl) (by kernel_rfl) (fun _ _ _ h => h) (Or.inl ⟨by kernel_rfl, ?_⟩) (by assumption) ?_
                  rotate_left 1
                  · (intro w hSw; (try dsimp only at hSw); go_simp) <;> (with_reducible rfl)
                  (try simp only [Act.put, List.setIfInBounds_toArray, List.set_cons_succ, List.set_cons_zero])
                  refine wpAnyH_take (i := 6) (oi := ⟨some 81, _, _, _, _, _⟩) (v := ?_) rfl (by kernel_rfl) (by kernel_rfl) (by kernel_rfl) (fun _ _ _ h => h) (Or.inl ⟨by kernel_rfl, ?_⟩) (by assumption) ?_
                  rotate_left 1
                  · (intro w hSw; (try dsimp only at hSw); go_simp) <;> (with_reducible rfl)
                  (try simp only [Act.put, List.setIfInBounds_toArray, List.set_cons_succ, List.set_cons_zero])
                  refine wpAnyH_take (i := 7) (oi := ⟨some 82, _, _, _, _, _⟩) (v := ?_) rfl (by kernel_rfl) (by kernel_rfl) (by kernel_rfl) (fun _ _ _ h => h) (Or.inl ⟨by kernel_rfl, ?_⟩) (by assumption) ?_
                  rotate_left 1
                  · (intro w hSw; (try dsimp only at hSw); go_simp) <;> (with_reducible rfl)
                  (try simp only [Act.put, List.setIfInBounds_toArray, List.set_cons_succ, List.set_cons_zero])
                  refine wpAnyH_take (i := 8) (oi := ⟨some 83, _, _, _, _, _⟩) (v := ?_) rfl (by kernel_rfl) (by kernel_rfl) (by kernel_rfl) (fun _ _ _ h => h) (Or.inl ⟨by kernel_rfl, ?_⟩) (by assumption) ?_
                  rotate_left 1
                  · (intro w hSw; (try dsimp only at hSw); go_simp) <;> (with_reducible rfl)
                  (try simp only [Act.put, List.setIfInBounds_toArray, List.set_cons_succ, List.set_cons_zero])
                  refine wpAnyH_ready (rs := [9]) (by kernel_rfl) (by simp) ?_
                  refine AllReadyH.cons (o := ⟨some 14, _, _, _, _, _⟩) rfl (fun K' hK => ?_) AllReadyH.nil
                  go_simp
                  have XA := hide (Box.new wn 23 #[.int .i64 0, .bool false])
                  have GA := hide (show w4.heap.size ≤ wn.heap.size from KK.out.size)
                  replace KK := hide (bal KK.out (.cells #[.int .i64 0, .bool false] 23))
                  obtain ⟨gx, hgx⟩ : ∃ g, g = wn.heap.size := ⟨_, rfl⟩
                  rw [← hgx] at XA GA ⊢
                  have GX := hide (show B ≤ gx by have := SX.out.lt; have := GA.out; omega)
                  clear hgx
                  generalize wn.alloc (.cells #[.int .i64 0, .bool false] 23) = wa at *
                  refine hK.out _ _ ?_ (fun hHeld => ?_)
                  · first | exact CE.out _ KK.out | exact CE.out _ KB.out
                  clear hK K'
                  (try simp only [Act.put, List.setIfInBounds_toArray, List.set_cons_succ, List.set_cons_zero])
                  refine wpAnyH_ready (rs := [10]) (by kernel_rfl) (by simp) ?_
                  refine AllReadyH.cons (o := ⟨none, _, _, _, _, _⟩) rfl (fun K' hK => ?_) AllReadyH.nil
                  obtain ⟨xc0, xc1⟩ := XA.out.two
                  have xf0 := XA.out.frozen 0
                  have xf1 := XA.out.frozen 1
                  go_simp
                  have XB := hide (XA.out.set2 (.int .i64 n1) (.bool b1))
                  have KB := hide (k2 KK.out GA.out (.int .i64 n1) (.bool b1))
                  clear xf0 xf1 xc0 xc1 XA KK
                  generalize (wa.setCell ⟨gx, 0, none⟩ (.int .i64 n1)).setCell ⟨gx, 1, none⟩ (.bool b1) = wb at *
                  refine hK.out _ _ ?_ (fun hHeld => ?_)
                  · exact CE.out _ KB.out
                  clear hK K'
                  (try simp only [Act.put, List.setIfInBounds_toArray, List.set_cons_succ, List.set_cons_zero])
                  refine wpAnyH_take (i := 11) (oi := ⟨some 15, _, _, _, _, _⟩) (v := ?_) rfl (by kernel_rfl) (by kernel_rfl) (by kernel_rfl) (fun _ _ _ h => h) (Or.inl ⟨by kernel_rfl, ?_⟩) (by assumption) ?_
                  rotate_left 1
                  · (intro w hSw; (try dsimp only at hSw); go_simp) <;> (with_reducible rfl)
                  (try simp only [Act.put, List.setIfInBounds_toArray, List.set_cons_succ, List.set_cons_zero])
                  refine wpAnyH_take (i := 12) (oi := ⟨some 16, _, _, _, _, _⟩) (v := ?_) rfl (by kernel_rfl) (by kernel_rfl) (by kernel_rfl) (fun _ _ _ h => h) (Or.inl ⟨by kernel_rfl, ?_⟩) (by assumption) ?_
                  rotate_left 1
                  · (intro w hSw; (try dsimp only at hSw); go_simp) <;> (with_reducible rfl)
                  (try simp only [Act.put, List.setIfInBounds_toArray, List.set_cons_succ, List.set_cons_zero])
                  refine wpAnyH_done (by kernel_rfl) ?_ _
                  refine NoPanic.normal ?_
                  replace SX := hide (SX.out.below KB.out)
                  replace K := hide (btrans K.out KB.out)
                  have CQ := hide (ask_any wb p gk gb E S kn bg j SX.out.wd hj4)
                  rw [dkn] at CQ
                  rw [if_neg hkn] at CQ
                  clear KB C CE INW hkn dkn GA
                  go_wp2_with fail
                  refine CQ.out.mono ?_
                  rintro e w8 ⟨rfl, fr, wd⟩
                  have XB := hide (show Box w8 gx 23 #[.int .i64 n1, .bool b1] from (fr.o gx (by have := GX.out; have := SX.out.lt; omega) (by have := GX.out; have := SX.out.lt; omega) (by have := GX.out; have := SX.out.lt; omega)).trans XB.out)
                  replace SX := hide (SX.out.step fr wd)
                  replace K := hide (fr.below K.out LB.out.1 LB.out.2.1 LB.out.2.2.1)
                  clear fr wd CQ
                  obtain ⟨z0, z1⟩ := XB.out.two
                  obtain ⟨q0, q1⟩ := SX.out.eb.two
                  have fe0 := SX.out.eb.frozen 0
                  have fe1 := SX.out.eb.frozen 1
                  have S2 := hide (SX.out.setE n1 b1)
                  have fa := S2.out.ar.frozen j
                  have qa := S2.out.ar.at hj4
                  have S3 := hide (S2.out.setA j ps)
                  replace K := hide (bset (bset (bset K.out (p := ⟨ge, 0, none⟩) LB.out.2.2.2.1 (.int .i64 n1)) (p := ⟨ge, 1, none⟩) LB.out.2.2.2.1 (.bool b1)) (p := ⟨ga, j, none⟩) LB.out.2.2.2.2.1 (.int .i64 ps))
                  go_upto_region 28 with fail
                  clear z0 z1 fe0 fe1 fa qa q0 q1 SX S2 XB
                  generalize ((w8.setCell ⟨ge, 0, none⟩ (.int .i64 n1)).setCell ⟨ge, 1, none⟩ (.bool b1)).setCell ⟨ga, j, none⟩ (.int .i64 ps) = w9 at *
                  have M := bal (brefl w9) (.cells #[.bool false] 4)
                  have OA := hide (row_below S3.out.ow M)
                  have SXA := hide (S3.out.below M)
                  have NB := hide (cell_one_new w9 (.bool false) 4)
                  have SA := hide SXA.out.lt.2.2.2.2.2
                  have KA := hide (btrans K.out M)
                  clear M S3 K
                  obtain ⟨m1, hm1⟩ : ∃ m1, m1 = T.length := ⟨_, rfl⟩
                  have hm60 : m1 ≤ 100 := by have := TK.out; omega
                  rw [← hm1] at OA ⊢
                  have HM := hide hm1
                  clear hm1
                  go_upto_region 29 with (at_builtin; refine wpList_append_own_at _ rfl (.tmp 102) (.tmp 105) 35 rfl B 4 i0 _ 1 1 Try.underlying35 hi0 hz0 hz1 hz2 rfl (by omega) (.slice A1 m1 cap1) m1 T rfl OA.out ⟨w9.heap.size, 0, none⟩ 1 1 [.bool false] rfl rfl NB.out (by intro u hu; rw [List.mem_singleton.1 hu]; rfl) (by simp only [maxLen]; omega) (by omega) SA.out ?_; intro v4 w10 hown4 hg4 _ hat4; obtain ⟨A4, cp4, ev4, hc4⟩ := row_form hown4; subst ev4)
                  have e3 : (T ++ [Value.bool false]).length = m1 + 1 := by rw [List.length_append, ← HM.out]; rfl
                  have BG := (Kp.grown OA.out hg4 (Nat.le_refl _) SA.out).below
                  have SX := hide (SXA.out.told (T' := T ++ [Value.bool false]) (v' := .slice A4 (m1 + 1) cp4) (by rw [e3]; exact hown4) BG)
                  have K := hide (KA.out.trans (BG.mono LB.out.2.2.2.2.2))
                  rw [← e3] at SX hc4 ⊢
                  replace TC := hide hc4
                  replace TK := hide (show (T ++ [Value.bool false]).length ≤ k + 1 by rw [e3]; have := TK.out; have := HM.out; omega)
                  clear BG hown4 hg4 hat4 OA NB SA KA SXA e3 hc4 HM
                  generalize T ++ [Value.bool false] = T2 at *
                  have CV := hide (fun w => vl_any n1 b1 w)
                  rw [IN.out.v] at CV
                  unfold eC at CV
                  obtain ⟨e0, e1⟩ := SX.out.eb.two
                  go_wp2_with fail
                  refine (CV.out _).mono ?_
                  rintro e wv ⟨rfl, hb⟩
                  replace SX := hide (SX.out.below hb)
                  replace K := hide (btrans K.out hb)
                  clear hb e0 e1 CV
                  go_wp2
                  go_roundw
                  case rel => first | exact ⟨k + 1, n1, b1, _, _, _, _, _, _, _, _, by omega, rfl, by go_num, SX, IN, hide (by have := EK.out; omega), hide (by have := TK.out; omega), TC, K⟩ | ((repeat apply Exists.intro); exact ⟨⟨k + 1, n1, b1, _, _, _, _, _, _, _, _, by omega, rfl, by go_num, SX, IN, hide (by have := EK.out; omega), hide (by have := TK.out; omega), TC, K⟩, rfl⟩)
                  case measure => simp [intOf]; omega
                refine AllReadyH.cons (o := ⟨some 14, _, _, _, _, _⟩) rfl (fun K' hK => ?_) AllReadyH.nil
                go_simp
                have XA := hide (Box.new w6 23 #[.int .i64 0, .bool false])
                have GA := hide (show w4.heap.size ≤ w6.heap.size from KK.out.size)
                replace KK := hide (bal KK.out (.cells #[.int .i64 0, .bool false] 23))
                obtain ⟨gx, hgx⟩ : ∃ g, g = w6.heap.size := ⟨_, rfl⟩
                rw [← hgx] at XA GA ⊢
                have GX := hide (show B ≤ gx by have := SX.out.lt; have := GA.out; omega)
                clear hgx
                generalize w6.alloc (.cells #[.int .i64 0, .bool false] 23) = wa at *
                refine hK.out _ _ ?_ (fun hHeld => ?_)
                · first | exact CE.out _ KK.out | exact CE.out _ KB.out
                clear hK K'
                (try simp only [Act.put, List.setIfInBounds_toArray, List.set_cons_succ, List.set_cons_zero])
                refine wpAnyH_ready (rs := [4]) (by kernel_rfl) (by simp) ?_
                refine AllReadyH.cons (o := ⟨some 80, _, _, _, _, _⟩) rfl (fun K' hK => ?_) AllReadyH.nil
                go_simp
                refine (C.out _).mono ?_
                rintro e wn ⟨rfl, hb⟩
                replace KK := hide (btrans KK.out hb)
                have XA := hide (Box.below XA.out hb)
                clear hb
                refine hK.out _ _ ?_ (fun hHeld => ?_)
                · first | exact CE.out _ KK.out | exact CE.out _ KB.out
                clear hK K'
                (try simp only [Act.put, List.setIfInBounds_toArray, List.set_cons_succ, List.set_cons_zero])
                refine wpAnyH_take (i := 5) (oi := ⟨some 75, _, _, _, _, _⟩) (v := ?_) rfl (by kernel_rfl) (by kernel_rfl) (by kernel_rfl) (fun _ _ _ h => h) (Or.inl ⟨by kernel_rfl, ?_⟩) (by assumption) ?_
                rotate_left 1
                · (intro w hSw; (try dsimp only at hSw); go_simp) <;> (with_reducible rfl)
                (try simp only [Act.put, List.setIfInBounds_toArray, List.set_cons_succ, List.set_cons_zero])
                refine wpAnyH_take (i := 6) (oi := ⟨some 81, _, _, _, _, _⟩) (v := ?_) rfl (by kernel_rfl) (by kernel_rfl) (by kernel_rfl) (fun _ _ _ h => h) (Or.inl ⟨by kernel_rfl, ?_⟩) (by assumption) ?_
                rotate_left 1
                · (intro w hSw; (try dsimp only at hSw); go_simp) <;> (with_reducible rfl)
                (try simp only [Act.put, List.setIfInBounds_toArray, List.set_cons_succ, List.set_cons_zero])
                refine wpAnyH_take (i := 7) (oi := ⟨some 82, _, _, _, _, _⟩) (v := ?_) rfl (by kernel_rfl) (by kernel_rfl) (by kernel_rfl) (fun _ _ _ h => h) (Or.inl ⟨by kernel_rfl, ?_⟩) (by assumption) ?_
                rotate_left 1
                · (intro w hSw; (try dsimp only at hSw); go_simp) <;> (with_reducible rfl)
                (try simp only [Act.put, List.setIfInBounds_toArray, List.set_cons_succ, List.set_cons_zero])
                refine wpAnyH_take (i := 8) (oi := ⟨some 83, _, _, _, _, _⟩) (v := ?_) rfl (by kernel_rfl) (by kernel_rfl) (by kernel_rfl) (fun _ _ _ h => h) (Or.inl ⟨by kernel_rfl, ?_⟩) (by assumption) ?_
                rotate_left 1
                · (intro w hSw; (try dsimp only at hSw); go_simp) <;> (with_reducible rfl)
                (try simp only [Act.put, List.setIfInBounds_toArray, List.set_cons_succ, List.set_cons_zero])
                refine wpAnyH_ready (rs := [10]) (by kernel_rfl) (by simp) ?_
                refine AllReadyH.cons (o := ⟨none, _, _, _, _, _⟩) rfl (fun K' hK => ?_) AllReadyH.nil
                obtain ⟨xc0, xc1⟩ := XA.out.two
                have xf0 := XA.out.frozen 0
                have xf1 := XA.out.frozen 1
                go_simp
                have XB := hide (XA.out.set2 (.int .i64 n1) (.bool b1))
                have KB := hide (k2 KK.out GA.out (.int .i64 n1) (.bool b1))
                clear xf0 xf1 xc0 xc1 XA KK
                generalize (wn.setCell ⟨gx, 0, none⟩ (.int .i64 n1)).setCell ⟨gx, 1, none⟩ (.bool b1) = wb at *
                refine hK.out _ _ ?_ (fun hHeld => ?_)
                · exact CE.out _ KB.out
                clear hK K'
                (try simp only [Act.put, List.setIfInBounds_toArray, List.set_cons_succ, List.set_cons_zero])
                refine wpAnyH_take (i := 11) (oi := ⟨some 15, _, _, _, _, _⟩) (v := ?_) rfl (by kernel_rfl) (by kernel_rfl) (by kernel_rfl) (fun _ _ _ h => h) (Or.inl ⟨by kernel_rfl, ?_⟩) (by assumption) ?_
                rotate_left 1
                · (intro w hSw; (try dsimp only at hSw); go_simp) <;> (with_reducible rfl)
                (try simp only [Act.put, List.setIfInBounds_toArray, List.set_cons_succ, List.set_cons_zero])
                refine wpAnyH_take (i := 12) (oi := ⟨some 16, _, _, _, _, _⟩) (v := ?_) rfl (by kernel_rfl) (by kernel_rfl) (by kernel_rfl) (fun _ _ _ h => h) (Or.inl ⟨by kernel_rfl, ?_⟩) (by assumption) ?_
                rotate_left 1
                · (intro w hSw; (try dsimp only at hSw); go_simp) <;> (with_reducible rfl)
                (try simp only [Act.put, List.setIfInBounds_toArray, List.set_cons_succ, List.set_cons_zero])
                refine wpAnyH_done (by kernel_rfl) ?_ _
                refine NoPanic.normal ?_
                replace SX := hide (SX.out.below KB.out)
                replace K := hide (btrans K.out KB.out)
                have CQ := hide (ask_any wb p gk gb E S kn bg j SX.out.wd hj4)
                rw [dkn] at CQ
                rw [if_neg hkn] at CQ
                clear KB C CE INW hkn dkn GA
                go_wp2_with fail
                refine CQ.out.mono ?_
                rintro e w8 ⟨rfl, fr, wd⟩
                have XB := hide (show Box w8 gx 23 #[.int .i64 n1, .bool b1] from (fr.o gx (by have := GX.out; have := SX.out.lt; omega) (by have := GX.out; have := SX.out.lt; omega) (by have := GX.out; have := SX.out.lt; omega)).trans XB.out)
                replace SX := hide (SX.out.step fr wd)
                replace K := hide (fr.below K.out LB.out.1 LB.out.2.1 LB.out.2.2.1)
                clear fr wd CQ
                obtain ⟨z0, z1⟩ := XB.out.two
                obtain ⟨q0, q1⟩ := SX.out.eb.two
                have fe0 := SX.out.eb.frozen 0
                have fe1 := SX.out.eb.frozen 1
                have S2 := hide (SX.out.setE n1 b1)
                have fa := S2.out.ar.frozen j
                have qa := S2.out.ar.at hj4
                have S3 := hide (S2.out.setA j ps)
                replace K := hide (bset (bset (bset K.out (p := ⟨ge, 0, none⟩) LB.out.2.2.2.1 (.int .i64 n1)) (p := ⟨ge, 1, none⟩) LB.out.2.2.2.1 (.bool b1)) (p := ⟨ga, j, none⟩) LB.out.2.2.2.2.1 (.int .i64 ps))
                go_upto_region 28 with fail
                clear z0 z1 fe0 fe1 fa qa q0 q1 SX S2 XB
                generalize ((w8.setCell ⟨ge, 0, none⟩ (.int .i64 n1)).setCell ⟨ge, 1, none⟩ (.bool b1)).setCell ⟨ga, j, none⟩ (.int .i64 ps) = w9 at *
                have M := bal (brefl w9) (.cells #[.bool false] 4)
                have OA := hide (row_below S3.out.ow M)
                have SXA := hide (S3.out.below M)
                have NB := hide (cell_one_new w9 (.bool false) 4)
                have SA := hide SXA.out.lt.2.2.2.2.2
                have KA := hide (btrans K.out M)
                clear M S3 K
                obtain ⟨m1, hm1⟩ : ∃ m1, m1 = T.length := ⟨_, rfl⟩
                have hm60 : m1 ≤ 100 := by have := TK.out; omega
                rw [← hm1] at OA ⊢
                have HM := hide hm1
                clear hm1
                go_upto_region 29 with (at_builtin; refine wpList_append_own_at _ rfl (.tmp 102) (.tmp 105) 35 rfl B 4 i0 _ 1 1 Try.underlying35 hi0 hz0 hz1 hz2 rfl (by omega) (.slice A1 m1 cap1) m1 T rfl OA.out ⟨w9.heap.size, 0, none⟩ 1 1 [.bool false] rfl rfl NB.out (by intro u hu; rw [List.mem_singleton.1 hu]; rfl) (by simp only [maxLen]; omega) (by omega) SA.out ?_; intro v4 w10 hown4 hg4 _ hat4; obtain ⟨A4, cp4, ev4, hc4⟩ := row_form hown4; subst ev4)
                have e3 : (T ++ [Value.bool false]).length = m1 + 1 := by rw [List.length_append, ← HM.out]; rfl
                have BG := (Kp.grown OA.out hg4 (Nat.le_refl _) SA.out).below
                have SX := hide (SXA.out.told (T' := T ++ [Value.bool false]) (v' := .slice A4 (m1 + 1) cp4) (by rw [e3]; exact hown4) BG)
                have K := hide (KA.out.trans (BG.mono LB.out.2.2.2.2.2))
                rw [← e3] at SX hc4 ⊢
                replace TC := hide hc4
                replace TK := hide (show (T ++ [Value.bool false]).length ≤ k + 1 by rw [e3]; have := TK.out; have := HM.out; omega)
                clear BG hown4 hg4 hat4 OA NB SA KA SXA e3 hc4 HM
                generalize T ++ [Value.bool false] = T2 at *
                have CV := hide (fun w => vl_any n1 b1 w)
                rw [IN.out.v] at CV
                unfold eC at CV
                obtain ⟨e0, e1⟩ := SX.out.eb.two
                go_wp2_with fail
                refine (CV.out _).mono ?_
                rintro e wv ⟨rfl, hb⟩
                replace SX := hide (SX.out.below hb)
                replace K := hide (btrans K.out hb)
                clear hb e0 e1 CV
                go_wp2
                go_roundw
                case rel => first | exact ⟨k + 1, n1, b1, _, _, _, _, _, _, _, _, by omega, rfl, by go_num, SX, IN, hide (by have := EK.out; omega), hide (by have := TK.out; omega), TC, K⟩ | ((repeat apply Exists.intro); exact ⟨⟨k + 1, n1, b1, _, _, _, _, _, _, _, _, by omega, rfl, by go_num, SX, IN, hide (by have := EK.out; omega), hide (by have := TK.out; omega), TC, K⟩, rfl⟩)
                case measure => simp [intOf]; omega
          · have d2 : (kd == 2) = false := by simp [k2']
            clear k0 k1 k2'
            go_upto_region 29 with fail
            have CV := hide (fun w => vl_any n b w)
            rw [IN.out.v] at CV
            unfold eC at CV
            obtain ⟨e0, e1⟩ := SX.out.eb.two
            go_wp2_with fail
            refine (CV.out _).mono ?_
            rintro e wv ⟨rfl, hb⟩
            replace SX := hide (SX.out.below hb)
            replace K := hide (btrans K.out hb)
            clear hb e0 e1 CV
            go_wp2
            go_roundw
            case rel => first | exact ⟨k + 1, n, b, _, _, _, _, _, _, _, _, by omega, rfl, by go_num, SX, IN, hide (by have := EK.out; omega), hide (by have := TK.out; omega), TC, K⟩ | ((repeat apply Exists.intro); exact ⟨⟨k + 1, n, b, _, _, _, _, _, _, _, _, by omega, rfl, by go_num, SX, IN, hide (by have := EK.out; omega), hide (by have := TK.out; omega), TC, K⟩, rfl⟩)
            case measure => simp [intOf]; omega
    · obtain rfl : k = L.length := by omega
      go_wp2
      go_ret2
      exact ⟨⟨_, rfl⟩, K.out⟩
end Go.Proofs.Ytcndbehgklkiiaa.Es
