import Derived.Test.YtinoddpdfknkbabAw
import Derived.Test.YtinoddpdfknkbabKs0
import Derived.Test.YtinoddpdfknkbabFrame
namespace Go.Proofs.Ytinoddpdfknkbab.Pc
open Go Go.RowKit
set_option linter.unusedVariables false
theorem info46 : (Try.prog.info? 46).map (fun i => i.zero) = some (some (.agg (Array.replicate 256 (.bool false)))) := by kernel_rfl
theorem zero46 (w : World) : (zeroValue 46).run Try.prog w = .ok (.agg (Array.replicate 256 (.bool false))) w := by
  have h := info46
  rw [Option.map_eq_some_iff] at h
  obtain ⟨i, hi, hz⟩ := h
  simp [zeroValue, typeInfo, hi, hz]
theorem InB.made (w : World) : InB (w.alloc (.cells (Array.replicate 256 (.bool false)) 46)) w.heap.size [] := by
  have h := World.rowIs_alloc w (Array.replicate 256 (.bool false)) 46 (fun j => .bool (decide ((j : Int) ∈ ([] : Is)))) (fun i hi => by
    have hi' : i < 256 := by simpa using hi
    rw [Array.getElem?_replicate, if_pos hi']; simp)
  rw [Array.size_replicate] at h
  exact h
set_option maxHeartbeats 8000000 in
set_option maxRecDepth 100000 in
theorem law_keeps (z : Int) (A : Option Addr) (c : Nat) (L : List Po) (w : World) (hc : L.length ≤ c) (hr : RdO4 w A L) (hn : L.length ≤ 9223372036854775807) : Calls Try.prog 8 #[.int .i64 z, .slice A L.length c] w fun e w' => e = .returned (.bool true) ∧ Below w.heap.size w w' := by
  have AW := hide (fun W => awake_any W)
  have Q := hide hr
  clear hr
  by_cases hz : z < 1 ∨ 6 < z
  · have NW := hide (new_any z w)
    rw [show nwE0 z = 1 by unfold nwE0; rw [if_pos hz], show nwC z = [] by unfold nwC; rw [if_pos hz]] at NW
    unfold R2 at NW
    by_cases h1 : z < 1
    · have d1 : decide (1 ≤ z) = false := decide_eq_false (by omega)
      clear hz h1
      go_enter Try.func8, Try.ntmps8
      go_wp2_with fail
      refine NW.out.mono ?_
      rintro e w1 ⟨A1, c1, rfl, hc1, r1, hb⟩
      have K := hide (bal hb (.cells #[.slice A1 ([] : Ls).length c1] 24))
      clear hb r1
      go_upto_region 2 with fail
      generalize w1.alloc (.cells #[.slice A1 ([] : Ls).length c1] 24) = w2 at *
      go_wp2_with fail
      refine (AW.out _).mono ?_
      rintro e w3 ⟨rfl, hb⟩
      replace K := hide (btrans K.out hb)
      clear hb
      go_wp2_with fail
      go_ret
      exact ⟨rfl, K.out⟩
    · have d1 : decide (1 ≤ z) = true := decide_eq_true (by omega)
      have d2 : decide (z ≤ 6) = false := decide_eq_false (by omega)
      clear hz h1
      go_enter Try.func8, Try.ntmps8
      go_wp2_with fail
      refine NW.out.mono ?_
      rintro e w1 ⟨A1, c1, rfl, hc1, r1, hb⟩
      have K := hide (bal hb (.cells #[.slice A1 ([] : Ls).length c1] 24))
      clear hb r1
      go_upto_region 2 with fail
      generalize w1.alloc (.cells #[.slice A1 ([] : Ls).length c1] 24) = w2 at *
      go_wp2_with fail
      refine (AW.out _).mono ?_
      rintro e w3 ⟨rfl, hb⟩
      replace K := hide (btrans K.out hb)
      clear hb
      go_wp2_with fail
      go_ret
      exact ⟨rfl, K.out⟩
  · obtain ⟨n, rfl⟩ : ∃ n : Nat, z = n := ⟨z.toNat, by omega⟩
    have n1 : 1 ≤ n := by omega
    have n6 : n ≤ 6 := by omega
    clear hz
    have NW := hide (new_at (z := (n : Int)) (w := w) (C' := List.replicate n []) (er := 0) (n' := n) (Vk.new n1 n6).1 (by unfold nwE0; rw [if_neg (by omega)]) (by simp))
    unfold A2 at NW
    have V0 := hide (Vk.new n1 n6).2
    generalize (List.replicate n [] : Ls) = D0 at *
    have e1 : decide ((1 : Int) ≤ (n : Int)) = true := decide_eq_true (by omega)
    have e2 : decide ((n : Int) ≤ 6) = true := decide_eq_true (by omega)
    have e3 : decide (1 ≤ n) = true := decide_eq_true n1
    have e4 : decide (n ≤ 6) = true := decide_eq_true n6
    by_cases hl : 60 < L.length
    · have hd : decide ((60 : Int) < (L.length : Int)) = true := decide_eq_true (by omega)
      go_enter Try.func8, Try.ntmps8
      go_wp2_with fail
      refine NW.out.mono ?_
      rintro e w1 ⟨A1, c1, rfl, ca1, hb⟩
      have K := hide (bal hb (.cells #[.slice A1 n c1] 24))
      clear hb ca1
      go_upto_region 2 with fail
      generalize w1.alloc (.cells #[.slice A1 n c1] 24) = w2 at *
      go_wp2_with fail
      refine (AW.out _).mono ?_
      rintro e w3 ⟨rfl, hb⟩
      replace K := hide (btrans K.out hb)
      clear hb
      go_wp2_with fail
      go_ret
      exact ⟨rfl, K.out⟩
    · have hd : decide ((60 : Int) < (L.length : Int)) = false := decide_eq_false (by omega)
      go_enter Try.func8, Try.ntmps8
      go_wp2_with fail
      refine NW.out.mono ?_
      rintro e w1 ⟨A1, c1, rfl, ca1, hb⟩
      have M := bal (brefl w1) (.cells #[.slice A1 n c1] 24)
      have K := hide (btrans hb M)
      have X5 := hide (Box.new w1 24 #[.slice A1 n c1])
      have CA := hide (ca1.below M)
      obtain ⟨b5, hb5⟩ : ∃ g, g = w1.heap.size := ⟨_, rfl⟩
      have HB5 := hide (show w.heap.size ≤ b5 by rw [hb5]; exact hb.size)
      rw [← hb5] at X5
      clear hb ca1 M NW
      go_upto_region 2 with fail
      rw [← hb5]
      generalize w1.alloc (.cells #[.slice A1 n c1] 24) = w2 at *
      clear hb5
      have s5 := cell_box1 X5.out
      go_upto_region 4 with fail
      clear e1 e2 e3 e4 hd s5
      obtain ⟨zz, hzz⟩ : ∃ zz : Array Value, zz = Array.replicate 256 (.bool false) := ⟨_, rfl⟩
      have z46 : ∀ w, (zeroValue 46).run Try.prog w = .ok (.agg zz) w := fun w => by rw [hzz]; exact zero46 w
      obtain ⟨b7, hb7⟩ : ∃ g, g = w2.heap.size := ⟨_, rfl⟩
      have X7 := hide (show InB (w2.alloc (.cells zz 46)) b7 D0.flatten by
        rw [hzz, hb7]
        refine (InB.made w2).congr fun i => ?_
        have : D0.flatten = [] := List.eq_nil_of_length_eq_zero (by have := V0.out.few; omega)
        rw [this])
      have M := bal (brefl w2) (.cells zz 46)
      have HB7 := hide (show w.heap.size ≤ b7 by rw [hb7]; exact K.out.size)
      replace K := hide (btrans K.out M)
      replace X5 := hide (X5.out.below M)
      replace CA := hide (CA.out.below M)
      clear M hzz
      go_upto_region 5 with fail
      rw [← hb7]
      generalize w2.alloc (.cells zz 46) = w3 at *
      clear z46 hb7
      go_wp2
      go_loopw [8, 57] (fun mm i wr => ∃ (m : Int) (k : Nat) (D : Ls) (A' : Option Addr) (c' : Nat), mm = .int .i64 m ∧ k ≤ L.length ∧ i = .int .i64 k ∧ Hid (Below w.heap.size w wr) ∧ Hid (Box wr b5 24 #[.slice A' n c']) ∧ Hid (InB wr b7 D.flatten) ∧ Hid (CaO wr A' n c' D) ∧ Hid (Vk n m k D)) (fun _ i _ => L.length - (intOf i).toNat)
      case atStart => exact ⟨0, 0, D0, A1, c1, rfl, Nat.zero_le _, rfl, K, X5, X7, CA, V0⟩
      case round =>
        clear K X5 X7 CA V0
        obtain ⟨m, k, D, A', c', rfl, hk, rfl, K, X5, X7, CA, V⟩ := hrel
        by_cases hlt : k < L.length
        · obtain ⟨qb, qo, rfl, hql, hqc⟩ := Q.out (by intro e; rw [e] at hlt; simp at hlt)
          obtain ⟨x0, x1, x2, x3⟩ := hqc k hlt
          clear hqc
          generalize oAt L k = q at *
          obtain ⟨zo, f, bt, hi⟩ := q
          replace x0 := (K.out.cell (p := ⟨qb, qo + k * 4, none⟩) hql).trans x0
          replace x1 := (K.out.cell (p := ⟨qb, qo + k * 4 + 1, none⟩) hql).trans x1
          replace x2 := (K.out.cell (p := ⟨qb, qo + k * 4 + 2, none⟩) hql).trans x2
          replace x3 := (K.out.cell (p := ⟨qb, qo + k * 4 + 3, none⟩) hql).trans x3
          dsimp only at x0 x1 x2 x3
          have M := bal (brefl wr) (.cells #[.int .i64 zo, .int .i64 f, .int .i64 bt, .int .i64 hi] 40)
          have X10 := hide (Box.new wr 40 #[.int .i64 zo, .int .i64 f, .int .i64 bt, .int .i64 hi])
          replace K := hide (btrans K.out M)
          replace X5 := hide (X5.out.below M)
          replace X7 := hide (X7.out.below M)
          replace CA := hide (CA.out.below M)
          clear M
          go_upto_region 9 with fail
          obtain ⟨ba, hba⟩ : ∃ g, g = wr.heap.size := ⟨_, rfl⟩
          rw [← hba] at X10 ⊢
          generalize wr.alloc (.cells #[.int .i64 zo, .int .i64 f, .int .i64 bt, .int .i64 hi] 40) = wa at *
          clear x0 x1 x2 x3 hba
          have y0 := X10.out.cell 0
          have y1 := X10.out.cell 1
          have y2 := X10.out.cell 2
          have y3 := X10.out.cell 3
          simp at y0 y1 y2 y3
          by_cases g1 : zo < 0
          · have d1 : decide (zo < 0) = true := decide_eq_true g1
            go_wp2
            go_roundw
            case rel => exact ⟨m, k + 1, D, A', c', rfl, by omega, by go_num, K, X5, X7, CA, hide V.out.up⟩
            case measure => simp [intOf]; omega
          have d1 : decide (zo < 0) = false := decide_eq_false g1
          by_cases g2 : (n : Int) ≤ zo
          · have d2 : decide ((n : Int) ≤ zo) = true := decide_eq_true g2
            go_wp2
            go_roundw
            case rel => exact ⟨m, k + 1, D, A', c', rfl, by omega, by go_num, K, X5, X7, CA, hide V.out.up⟩
            case measure => simp [intOf]; omega
          have d2 : decide ((n : Int) ≤ zo) = false := decide_eq_false g2
          by_cases g3 : f < 0
          · have d3 : decide (f < 0) = true := decide_eq_true g3
            go_wp2
            go_roundw
            case rel => exact ⟨m, k + 1, D, A', c', rfl, by omega, by go_num, K, X5, X7, CA, hide V.out.up⟩
            case measure => simp [intOf]; omega
          have d3 : decide (f < 0) = false := decide_eq_false g3
          by_cases g4 : 256 ≤ f
          · have d4 : decide (256 ≤ f) = true := decide_eq_true g4
            go_wp2
            go_roundw
            case rel => exact ⟨m, k + 1, D, A', c', rfl, by omega, by go_num, K, X5, X7, CA, hide V.out.up⟩
            case measure => simp [intOf]; omega
          have d4 : decide (256 ≤ f) = false := decide_eq_false g4
          go_upto_region 10 with fail
          obtain ⟨fn, rfl⟩ : ∃ fn : Nat, f = fn := ⟨f.toNat, by omega⟩
          have hf256 : fn < 256 := by omega
          have hfi : (fn : Int) < 256 := by omega
          clear d1 d2 d3 d4 g3 g4
          have c0 := World.rowIs.cell X7.out hf256
          have HSZ := hide (V.out.sz (by omega) n6)
          have s5 := cell_box1 X5.out
          by_cases hm : (fn : Int) ∈ D.flatten
          · rw [decide_eq_true hm] at c0
            clear hm
            by_cases h0 : tkE D zo = 0
            · obtain ⟨V2, hg, hgm, hset⟩ := V.out.take h0
              obtain ⟨gn, hgn⟩ : ∃ gn : Nat, tkF D zo = gn := ⟨(tkF D zo).toNat, by omega⟩
              have TK := hide (take_at (f := (gn : Int)) (n' := n) CA.out HSZ.out rfl hgn h0 V2.len)
              rw [hgn] at hg hgm hset
              have HS2 := hide hset
              have V2 := hide V2
              generalize tkC D zo = D2 at *
              have hg256 : gn < 256 := by omega
              have hgi : (gn : Int) < 256 := by omega
              unfold Pc.A3 at TK
              clear h0 hgn hset hg HSZ CA V
              go_wp2_with fail
              refine TK.out.mono ?_
              rintro e wb ⟨A2, c2, rfl, ca2, hb⟩
              have M := bal hb (.cells #[.slice A2 n c2] 24)
              have Y := hide (Box.new wb 24 #[.slice A2 n c2])
              have CA := hide (ca2.below (bal (brefl wb) (.cells #[.slice A2 n c2] 24)))
              replace K := hide (btrans K.out M)
              replace X5 := hide (X5.out.below M)
              replace X7 := hide (X7.out.below M)
              clear M hb ca2 s5 TK c0 y0 y1 y2 y3
              go_upto_region 12 with fail
              generalize wb.alloc (.cells #[.slice A2 n c2] 24) = wc at *
              have cg := World.rowIs.cell X7.out hg256
              rw [decide_eq_true hgm] at cg
              have fg := World.rowIs.frozen X7.out gn
              go_upto_region 16 with fail
              obtain ⟨cs7, hB7⟩ := X7.out.box
              have KP := Kp.boxset hB7 HB7.out gn (.bool false)
              replace X5 := hide (X5.out.kp KP (by decide))
              replace Y := hide (Y.out.kp KP (by decide))
              replace CA := hide (CA.out.kpT KP (by decide) (by decide))
              replace K := hide (bset K.out (p := ⟨b7, gn, none⟩) HB7.out (.bool false))
              replace X7 := hide (X7.out.off gn fun i => (HS2.out i).symm)
              clear KP hB7 cg fg
              generalize wc.setCell ⟨b7, gn, none⟩ (.bool false) = wd at *
              have s5 := cell_box1 X5.out
              have f5 := X5.out.frozen 0
              have sY := cell_box1 Y.out
              go_wp2
              have KP := Kp.boxset X5.out HB5.out 0 (.slice A2 n c2)
              go_roundw
              case rel => exact ⟨m, k + 1, D2, A2, c2, rfl, by omega, by go_num, hide (bset K.out (p := ⟨b5, 0, none⟩) HB5.out _), hide (X5.out.put 0 _), hide (X7.out.kp KP (by decide)), hide (CA.out.kpT KP (by decide) (by decide)), hide V2.out.up⟩
              case measure => simp [intOf]; omega
            · have TK := hide (take_any _ D zo wa CA.out.in_ HSZ.out)
              unfold R3 at TK
              have hd : (tkE D zo != 0) = true := by simpa using h0
              generalize tkE D zo = er at *
              generalize tkC D zo = C1 at *
              generalize tkF D zo = g1 at *
              clear h0 HSZ
              go_wp2_with fail
              refine TK.out.mono ?_
              rintro e wb ⟨A2, c2, rfl, _, _, hb⟩
              have M := bal hb (.cells #[.slice A2 C1.length c2] 24)
              replace K := hide (btrans K.out M)
              replace X5 := hide (X5.out.below M)
              replace X7 := hide (X7.out.below M)
              replace CA := hide (CA.out.below M)
              clear M hb s5 TK c0 y0 y1 y2 y3
              go_upto_region 12 with fail
              generalize wb.alloc (.cells #[.slice A2 C1.length c2] 24) = wc at *
              go_wp2
              go_roundw
              case rel => exact ⟨m, k + 1, D, A', c', rfl, by omega, by go_num, K, X5, X7, CA, hide V.out.up⟩
              case measure => simp [intOf]; omega
          · rw [decide_eq_false hm] at c0
            clear hm
            by_cases h0 : ptE D zo fn bt hi = 0
            · obtain ⟨V2, nd, rg, hset, hll⟩ := V.out.put h0
              have PT := hide (put_at (n' := n) (m := (ptB D zo fn bt hi).length) CA.out HSZ.out rfl rfl h0 V2.len rfl)
              have HS2 := hide hset
              have V2 := hide V2
              have ND := hide nd
              have RG := hide rg
              generalize ptC D zo fn bt hi = D2 at *
              generalize ptB D zo fn bt hi = l at *
              unfold AB at PT
              clear h0 hset HSZ CA V nd rg
              go_wp2_with fail
              refine PT.out.mono ?_
              rintro e wb ⟨A2, c2, DD, dd, rfl, ca2, _, hdd, oi2, hb⟩
              have M := bal hb (.cells #[.slice A2 n c2] 24)
              have Y := hide (Box.new wb 24 #[.slice A2 n c2])
              have CA := hide (ca2.below (bal (brefl wb) (.cells #[.slice A2 n c2] 24)))
              have OI := hide (oi2.below (bal (brefl wb) (.cells #[.slice A2 n c2] 24)))
              replace K := hide (btrans K.out M)
              replace X5 := hide (X5.out.below M)
              replace X7 := hide (X7.out.below M)
              replace X10 := hide (X10.out.below M)
              clear M hb ca2 oi2 s5 PT c0 y0 y1 y2 y3
              go_upto_region 18 with fail
              obtain ⟨b14, hb14⟩ : ∃ g, g = wb.heap.size := ⟨_, rfl⟩
              rw [← hb14] at Y ⊢
              generalize wb.alloc (.cells #[.slice A2 n c2] 24) = wc at *
              clear hb14
              have y1 := X10.out.cell 1
              simp at y1
              have cg := World.rowIs.cell X7.out hf256
              have fg := World.rowIs.frozen X7.out fn
              go_upto_region 20 with fail
              obtain ⟨cs7, hB7⟩ := X7.out.box
              have KP := Kp.boxset hB7 HB7.out fn (.bool true)
              replace X5 := hide (X5.out.kp KP (by decide))
              replace X10 := hide (X10.out.kp KP (by decide))
              replace Y := hide (Y.out.kp KP (by decide))
              replace CA := hide (CA.out.kpT KP (by decide) (by decide))
              replace OI := hide (OI.out.kp KP (by decide))
              replace K := hide (bset K.out (p := ⟨b7, fn, none⟩) HB7.out (.bool true))
              replace X7 := hide (X7.out.on fn HS2.out)
              clear KP hB7 cg fg y1
              generalize wc.setCell ⟨b7, fn, none⟩ (.bool true) = wd at *
              go_wp2
              go_loopw [130] (fun i wr => ∃ (j : Nat), j ≤ l.length ∧ i = .int .i64 j ∧ Hid (Below w.heap.size w wr) ∧ Hid (Box wr b5 24 #[.slice A' n c']) ∧ Hid (Box wr b14 24 #[.slice A2 n c2]) ∧ Hid (Box wr ba 40 #[.int .i64 zo, .int .i64 (fn : Int), .int .i64 bt, .int .i64 hi]) ∧ Hid (InB wr b7 (l.drop j ++ D2.flatten)) ∧ Hid (CaO wr A2 n c2 D2) ∧ Hid (OwnI wr (.slice DD l.length dd) l)) (fun i _ => l.length - (intOf i).toNat)
              case atStart => exact ⟨0, Nat.zero_le _, rfl, K, X5, Y, X10, X7, CA, OI⟩
              case round =>
                clear K X5 Y X10 X7 CA OI
                obtain ⟨j, hj, rfl, K, X5, Y, X10, X7, CA, OI⟩ := hrel
                by_cases hlj : j < l.length
                · obtain ⟨b2, o2, rfl, hl2, x2⟩ := OI.out.bi.cells (brefl _) hlj
                  have hx := RG.out _ (getD_mem hlj)
                  have hnd := ND.out.sublist ((List.drop_sublist j l).append (List.Sublist.refl D2.flatten))
                  rw [drop_at hlj] at X7 hnd
                  generalize l.getD j 0 = x at *
                  obtain ⟨xn, rfl⟩ : ∃ xn : Nat, x = xn := ⟨x.toNat, by omega⟩
                  have hx256 : xn < 256 := by omega
                  have hxi : (xn : Int) < 256 := by omega
                  have HX := hide (List.nodup_cons.1 hnd).1
                  have cg := World.rowIs.cell X7.out hx256
                  rw [decide_eq_true (show (xn : Int) ∈ (xn : Int) :: l.drop (j + 1) ++ D2.flatten from List.mem_append.2 (.inl List.mem_cons_self))] at cg
                  have fg := World.rowIs.frozen X7.out xn
                  clear hx hnd
                  go_wp2
                  obtain ⟨cs7, hB7⟩ := X7.out.box
                  have KP := Kp.boxset hB7 HB7.out xn (.bool false)
                  go_roundw
                  case rel => exact ⟨j + 1, by omega, by go_num, hide (bset K.out (p := ⟨b7, xn, none⟩) HB7.out _), hide (X5.out.kp KP (by decide)), hide (Y.out.kp KP (by decide)), hide (X10.out.kp KP (by decide)), hide (X7.out.off xn fun i => by
                    rw [List.cons_append, List.mem_cons]
                    constructor
                    · rintro ⟨h | h, hne⟩
                      · exact absurd h hne
                      · exact h
                    · intro h
                      exact ⟨.inr h, fun e => HX.out (e ▸ h)⟩), hide (CA.out.kpT KP (by decide) (by decide)), hide (OI.out.kp KP (by decide))⟩
                  case measure => simp [intOf]; omega
                · obtain rfl : j = l.length := by omega
                  rw [List.drop_length, List.nil_append] at X7
                  have s5 := cell_box1 X5.out
                  have f5 := X5.out.frozen 0
                  have sY := cell_box1 Y.out
                  clear hlj hj
                  go_upto_region 28 with fail
                  have KP := Kp.boxset X5.out HB5.out 0 (.slice A2 n c2)
                  replace K := hide (bset K.out (p := ⟨b5, 0, none⟩) HB5.out (.slice A2 n c2))
                  replace X5 := hide (X5.out.put 0 (.slice A2 n c2))
                  replace X7 := hide (X7.out.kp KP (by decide))
                  replace X10 := hide (X10.out.kp KP (by decide))
                  replace CA := hide (CA.out.kpT KP (by decide) (by decide))
                  clear KP s5 f5 sY Y
                  generalize wr.setCell ⟨b5, 0, none⟩ (.slice A2 n c2) = we at *
                  have y3 := X10.out.cell 3
                  simp at y3
                  go_wp2
                  go_roundw
                  case rel => exact ⟨_, k + 1, D2, A2, c2, rfl, by omega, by go_num, K, hide (show Box we b5 24 #[.slice A2 n c2] from X5.out), X7, CA, hide (by
                    have e : (if m < hi then hi else m) = max m hi := by split <;> omega
                    first
                    | exact V2.out
                    | (rw [e]; exact V2.out)
                    | (show Vk n (if m < hi then hi else m) (k + 1) D2; rw [e]; exact V2.out))⟩
                  case measure => simp [intOf]; omega
            · have PT := hide (put_any _ D zo fn bt hi wa CA.out.in_ HSZ.out)
              unfold RB at PT
              have hd : (ptE D zo fn bt hi != 0) = true := by simpa using h0
              generalize ptE D zo fn bt hi = er at *
              generalize ptC D zo fn bt hi = C1 at *
              generalize ptB D zo fn bt hi = l1 at *
              clear h0 HSZ
              go_wp2_with fail
              refine PT.out.mono ?_
              rintro e wb ⟨A2, c2, L2, d2, rfl, _, _, _, _, hb⟩
              have M := bal hb (.cells #[.slice A2 C1.length c2] 24)
              replace K := hide (btrans K.out M)
              replace X5 := hide (X5.out.below M)
              replace X7 := hide (X7.out.below M)
              replace CA := hide (CA.out.below M)
              clear M hb s5 PT c0 y0 y1 y2 y3
              go_upto_region 18 with fail
              generalize wb.alloc (.cells #[.slice A2 C1.length c2] 24) = wc at *
              go_wp2
              go_roundw
              case rel => exact ⟨m, k + 1, D, A', c', rfl, by omega, by go_num, K, X5, X7, CA, hide V.out.up⟩
              case measure => simp [intOf]; omega
        · obtain rfl : k = L.length := by omega
          have HSZ := hide (V.out.sz (by omega) n6)
          have HLN := hide V.out.len
          have HRG := hide V.out.rng
          have hN : D.flatten.length ≤ 60 := by have := V.out.few; omega
          clear hlt hk
          go_wp2
          go_loop [19, 155] (fun nn i => ∃ (x j : Nat), nn = .int .i64 (x : Int) ∧ j ≤ 256 ∧ i = .int .i64 (j : Int) ∧ Hid (x = below D.flatten j)) (fun _ i => 256 - (intOf i).toNat)
          case atStart => exact ⟨0, 0, rfl, Nat.zero_le _, rfl, hide (below_zero HRG.out).symm⟩
          case round =>
            obtain ⟨x, j, rfl, hj, rfl, HX⟩ := hrel
            have hx : x ≤ 60 := by have := HX.out; have := below_le D.flatten j; omega
            by_cases hlt : j < 256
            · have hlti : (j : Int) < 256 := by omega
              have cg := World.rowIs.cell X7.out hlt
              by_cases hm : (j : Int) ∈ D.flatten
              · rw [decide_eq_true hm] at cg
                have HX2 := hide (show x + 1 = below D.flatten (j + 1) by rw [below_in V.out.nd hm, HX.out])
                clear hm HX
                go_wp2
                go_round
                case rel => exact ⟨x + 1, j + 1, by go_num, by omega, by go_num, HX2⟩
                case measure => simp [intOf]; omega
              · rw [decide_eq_false hm] at cg
                have HX2 := hide (show x = below D.flatten (j + 1) by rw [below_out hm, HX.out])
                clear hm HX
                go_wp2
                go_round
                case rel => exact ⟨x, j + 1, rfl, by omega, by go_num, HX2⟩
                case measure => simp [intOf]; omega
            · obtain rfl : j = 256 := by omega
              have HXN := hide (show x + (D.take 0).flatten.length = D.flatten.length by have := HX.out; rw [below_all HRG.out] at this; simpa using this)
              clear HX hlt hj hx
              go_wp2
              go_loopw [19, 165] (fun nn i wr => ∃ (x j : Nat), nn = .int .i64 (x : Int) ∧ j ≤ n ∧ i = .int .i64 (j : Int) ∧ Hid (Below w.heap.size w wr) ∧ Hid (Box wr b5 24 #[.slice A' n c']) ∧ Hid (InB wr b7 D.flatten) ∧ Hid (CaO wr A' n c' D) ∧ Hid (x + (D.take j).flatten.length = D.flatten.length)) (fun _ i _ => n - (intOf i).toNat)
              case atStart => exact ⟨x, 0, rfl, Nat.zero_le _, rfl, K, X5, X7, CA, HXN⟩
              case round =>
                clear K X5 X7 CA HXN
                obtain ⟨x, j, rfl, hj, rfl, K, X5, X7, CA, HXN⟩ := hrel
                have hx : x ≤ 60 := by have := HXN.out; omega
                by_cases hlt : j < n
                · have hjD : j < D.length := by rw [HLN.out]; exact hlt
                  obtain ⟨b1, o1, u1, rfl, hl1, x1, hv1⟩ := CA.out.2.2.rd.cells (brefl _) hjD
                  obtain ⟨D1, d1, rfl, _, q1⟩ := hv1
                  have hm1 := V.out.most j hlt
                  have CT := hide (fun W (hb : Below wr.heap.size wr W) => count_at (z := (j : Int)) (er := ((lAt D j).length : Int)) (CA.out.below hb) HSZ.out (by unfold cnt; rw [if_pos (V.out.cz n1 n6 (by omega) (by omega)), Int.toNat_natCast]))
                  have FM := hide (fun f (hf : f ∈ lAt D j) => flat_mem hjD hf)
                  have FS := hide (flat_snoc hjD)
                  have hPl : (D.take j).flatten.length + (lAt D j).length ≤ D.flatten.length := by
                    rw [← List.length_append, ← flat_snoc hjD]
                    have e := congrArg List.length (show D.flatten = (D.take (j + 1)).flatten ++ (D.drop (j + 1)).flatten by rw [← List.flatten_append, List.take_append_drop])
                    rw [List.length_append] at e
                    omega
                  generalize lAt D j = l at *
                  obtain ⟨P, hP⟩ : ∃ P, P = (D.take j).flatten.length := ⟨_, rfl⟩
                  have HXN2 := hide (show x + P = D.flatten.length by rw [hP]; exact HXN.out)
                  have FS2 := hide (show (D.take (j + 1)).flatten.length = P + l.length by rw [FS.out, List.length_append, hP])
                  rw [← hP] at hPl
                  clear hP HXN FS
                  obtain ⟨N, hN2⟩ : ∃ N, N = D.flatten.length := ⟨_, rfl⟩
                  rw [← hN2] at hPl HXN2 hN
                  have hl60 : l.length ≤ 60 := by omega
                  have dm : decide (m < (l.length : Int)) = false := decide_eq_false (by omega)
                  have y5 := cell_box1 X5.out
                  have CE := hide (fun (W : World) (h : Below wr.heap.size wr W) => (⟨(h.cell (p := ⟨b5, 0, none⟩) X5.out.lt).trans y5, (h.cell (p := ⟨b1, o1 + j, none⟩) hl1).trans x1⟩ : (fun W => W.cell? ⟨b5, 0, none⟩ = some (.slice (some ⟨b1, o1, none⟩) n c') ∧ W.cell? ⟨b1, o1 + j, none⟩ = some (.slice D1 l.length d1)) W))
                  have QI := hide q1
                  have KK := hide (below_drew (brefl wr))
                  clear q1 hm1
                  go_wp2
                  refine wp_region_noPanic ?_
                  refine wp_region_held_drew (S := (fun W => W.cell? ⟨b5, 0, none⟩ = some (.slice (some ⟨b1, o1, none⟩) n c') ∧ W.cell? ⟨b1, o1 + j, none⟩ = some (.slice D1 l.length d1))) (by kernel_rfl) ?_ (fun hHeld => ?_)
                  · exact CE.out _ KK.out
                  refine wpAnyH_take (i := 0) (oi := ⟨some 168, _, _, _, _, _⟩) (v := ?_) rfl (by kernel_rfl) (by kernel_rfl) (by kernel_rfl) (fun _ _ _ h => h) (Or.inl ⟨by kernel_rfl, ?_⟩) (by assumption) ?_
                  rotate_left 1
                  · (intro w hSw; (try dsimp only at hSw); go_simp) <;> (with_reducible rfl)
                  (try simp only [Act.put, List.setIfInBounds_toArray, List.set_cons_succ, List.set_cons_zero])
                  refine wpAnyH_take (i := 1) (oi := ⟨some 169, _, _, _, _, _⟩) (v := ?_) rfl (by kernel_rfl) (by kernel_rfl) (by kernel_rfl) (fun _ _ _ h => h) (Or.inl ⟨by kernel_rfl, ?_⟩) (by assumption) ?_
                  rotate_left 1
                  · (intro w hSw; (try dsimp only at hSw); go_simp) <;> (with_reducible rfl)
                  (try simp only [Act.put, List.setIfInBounds_toArray, List.set_cons_succ, List.set_cons_zero])
                  refine wpAnyH_take (i := 2) (oi := ⟨some 170, _, _, _, _, _⟩) (v := ?_) rfl (by kernel_rfl) (by kernel_rfl) (by kernel_rfl) (fun _ _ _ h => h) (Or.inl ⟨by kernel_rfl, ?_⟩) (by assumption) ?_
                  rotate_left 1
                  · (intro w hSw; (try dsimp only at hSw); go_simp) <;> (with_reducible rfl)
                  (try simp only [Act.put, List.setIfInBounds_toArray, List.set_cons_succ, List.set_cons_zero])
                  refine wpAnyH_take (i := 3) (oi := ⟨some 171, _, _, _, _, _⟩) (v := ?_) rfl (by kernel_rfl) (by kernel_rfl) (by kernel_rfl) (fun _ _ _ h => h) (Or.inl ⟨by kernel_rfl, ?_⟩) (by assumption) ?_
                  rotate_left 1
                  · (intro w hSw; (try dsimp only at hSw); go_simp) <;> (with_reducible rfl)
                  (try simp only [Act.put, List.setIfInBounds_toArray, List.set_cons_succ, List.set_cons_zero])
                  refine wpAnyH_take (i := 4) (oi := ⟨some 172, _, _, _, _, _⟩) (v := ?_) rfl (by kernel_rfl) (by kernel_rfl) (by kernel_rfl) (fun _ _ _ h => h) (Or.inl ⟨by kernel_rfl, ?_⟩) (by assumption) ?_
                  rotate_left 1
                  · (intro w hSw; (try dsimp only at hSw); go_simp) <;> (with_reducible rfl)
                  (try simp only [Act.put, List.setIfInBounds_toArray, List.set_cons_succ, List.set_cons_zero])
                  refine wpAnyH_take (i := 5) (oi := ⟨some 173, _, _, _, _, _⟩) (v := ?_) rfl (by kernel_rfl) (by kernel_rfl) (by kernel_rfl) (fun _ _ _ h => h) (Or.inl ⟨by kernel_rfl, ?_⟩) (by assumption) ?_
                  rotate_left 1
                  · (intro w hSw; (try dsimp only at hSw); go_simp) <;> (with_reducible rfl)
                  (try simp only [Act.put, List.setIfInBounds_toArray, List.set_cons_succ, List.set_cons_zero])
                  refine wpAnyH_take (i := 6) (oi := ⟨some 174, _, _, _, _, _⟩) (v := ?_) rfl (by kernel_rfl) (by kernel_rfl) (by kernel_rfl) (fun _ _ _ h => h) (Or.inl ⟨by kernel_rfl, ?_⟩) (by assumption) ?_
                  rotate_left 1
                  · (intro w hSw; (try dsimp only at hSw); go_simp) <;> (with_reducible rfl)
                  (try simp only [Act.put, List.setIfInBounds_toArray, List.set_cons_succ, List.set_cons_zero])
                  refine wpAnyH_take (i := 7) (oi := ⟨some 175, _, _, _, _, _⟩) (v := ?_) rfl (by kernel_rfl) (by kernel_rfl) (by kernel_rfl) (fun _ _ _ h => h) (Or.inl ⟨by kernel_rfl, ?_⟩) (by assumption) ?_
                  rotate_left 1
                  · (intro w hSw; (try dsimp only at hSw); go_simp) <;> (with_reducible rfl)
                  (try simp only [Act.put, List.setIfInBounds_toArray, List.set_cons_succ, List.set_cons_zero])
                  refine wpAnyH_take (i := 8) (oi := ⟨some 176, _, _, _, _, _⟩) (v := ?_) rfl (by kernel_rfl) (by kernel_rfl) (by kernel_rfl) (fun _ _ _ h => h) (Or.inl ⟨by kernel_rfl, ?_⟩) (by assumption) ?_
                  rotate_left 1
                  · (intro w hSw; (try dsimp only at hSw); go_simp) <;> (with_reducible rfl)
                  (try simp only [Act.put, List.setIfInBounds_toArray, List.set_cons_succ, List.set_cons_zero])
                  refine wpAnyH_take (i := 9) (oi := ⟨some 177, _, _, _, _, _⟩) (v := ?_) rfl (by kernel_rfl) (by kernel_rfl) (by kernel_rfl) (fun _ _ _ h => h) (Or.inl ⟨by kernel_rfl, ?_⟩) (by assumption) ?_
                  rotate_left 1
                  · (intro w hSw; (try dsimp only at hSw); go_simp) <;> (with_reducible rfl)
                  (try simp only [Act.put, List.setIfInBounds_toArray, List.set_cons_succ, List.set_cons_zero])
                  refine wpAnyH_take (i := 10) (oi := ⟨some 178, _, _, _, _, _⟩) (v := ?_) rfl (by kernel_rfl) (by kernel_rfl) (by kernel_rfl) (fun _ _ _ h => h) (Or.inl ⟨by kernel_rfl, ?_⟩) (by assumption) ?_
                  rotate_left 1
                  · (intro w hSw; (try dsimp only at hSw); go_simp) <;> (with_reducible rfl)
                  (try simp only [Act.put, List.setIfInBounds_toArray, List.set_cons_succ, List.set_cons_zero])
                  refine wpAnyH_take (i := 11) (oi := ⟨some 179, _, _, _, _, _⟩) (v := ?_) rfl (by kernel_rfl) (by kernel_rfl) (by kernel_rfl) (fun _ _ _ h => h) (Or.inl ⟨by kernel_rfl, ?_⟩) (by assumption) ?_
                  rotate_left 1
                  · (intro w hSw; (try dsimp only at hSw); go_simp) <;> (with_reducible rfl)
                  (try simp only [Act.put, List.setIfInBounds_toArray, List.set_cons_succ, List.set_cons_zero])
                  refine wpAnyH_take (i := 12) (oi := ⟨some 180, _, _, _, _, _⟩) (v := ?_) rfl (by kernel_rfl) (by kernel_rfl) (by kernel_rfl) (fun _ _ _ h => h) (Or.inl ⟨by kernel_rfl, ?_⟩) (by assumption) ?_
                  rotate_left 1
                  · (intro w hSw; (try dsimp only at hSw); go_simp) <;> (with_reducible rfl)
                  (try simp only [Act.put, List.setIfInBounds_toArray, List.set_cons_succ, List.set_cons_zero])
                  refine wpAnyH_take (i := 13) (oi := ⟨some 181, _, _, _, _, _⟩) (v := ?_) rfl (by kernel_rfl) (by kernel_rfl) (by kernel_rfl) (fun _ _ _ h => h) (Or.inl ⟨by kernel_rfl, ?_⟩) (by assumption) ?_
                  rotate_left 1
                  · (intro w hSw; (try dsimp only at hSw); go_simp) <;> (with_reducible rfl)
                  (try simp only [Act.put, List.setIfInBounds_toArray, List.set_cons_succ, List.set_cons_zero])
                  refine wpAnyH_take (i := 14) (oi := ⟨some 182, _, _, _, _, _⟩) (v := ?_) rfl (by kernel_rfl) (by kernel_rfl) (by kernel_rfl) (fun _ _ _ h => h) (Or.inl ⟨by kernel_rfl, ?_⟩) (by assumption) ?_
                  rotate_left 1
                  · (intro w hSw; (try dsimp only at hSw); go_simp) <;> (with_reducible rfl)
                  (try simp only [Act.put, List.setIfInBounds_toArray, List.set_cons_succ, List.set_cons_zero])
                  refine wpAnyH_take (i := 15) (oi := ⟨some 183, _, _, _, _, _⟩) (v := ?_) rfl (by kernel_rfl) (by kernel_rfl) (by kernel_rfl) (fun _ _ _ h => h) (Or.inl ⟨by kernel_rfl, ?_⟩) (by assumption) ?_
                  rotate_left 1
                  · (intro w hSw; (try dsimp only at hSw); go_simp) <;> (with_reducible rfl)
                  (try simp only [Act.put, List.setIfInBounds_toArray, List.set_cons_succ, List.set_cons_zero])
                  refine wpAnyH_take (i := 16) (oi := ⟨some 184, _, _, _, _, _⟩) (v := ?_) rfl (by kernel_rfl) (by kernel_rfl) (by kernel_rfl) (fun _ _ _ h => h) (Or.inl ⟨by kernel_rfl, ?_⟩) (by assumption) ?_
                  rotate_left 1
                  · (intro w hSw; (try dsimp only at hSw); go_simp) <;> (with_reducible rfl)
                  (try simp only [Act.put, List.setIfInBounds_toArray, List.set_cons_succ, List.set_cons_zero])
                  refine wpAnyH_take (i := 17) (oi := ⟨some 185, _, _, _, _, _⟩) (v := ?_) rfl (by kernel_rfl) (by kernel_rfl) (by kernel_rfl) (fun _ _ _ h => h) (Or.inl ⟨by kernel_rfl, ?_⟩) (by assumption) ?_
                  rotate_left 1
                  · (intro w hSw; (try dsimp only at hSw); go_simp) <;> (with_reducible rfl)
                  (try simp only [Act.put, List.setIfInBounds_toArray, List.set_cons_succ, List.set_cons_zero])
                  refine wpAnyH_take (i := 19) (oi := ⟨some 187, _, _, _, _, _⟩) (v := ?_) rfl (by kernel_rfl) (by kernel_rfl) (by kernel_rfl) (fun _ _ _ h => h) (Or.inl ⟨by kernel_rfl, ?_⟩) (by assumption) ?_
                  rotate_left 1
                  · (intro w hSw; (try dsimp only at hSw); go_simp) <;> (with_reducible rfl)
                  (try simp only [Act.put, List.setIfInBounds_toArray, List.set_cons_succ, List.set_cons_zero])
                  refine wpAnyH_take (i := 20) (oi := ⟨some 188, _, _, _, _, _⟩) (v := ?_) rfl (by kernel_rfl) (by kernel_rfl) (by kernel_rfl) (fun _ _ _ h => h) (Or.inl ⟨by kernel_rfl, ?_⟩) (by assumption) ?_
                  rotate_left 1
                  · (intro w hSw; (try dsimp only at hSw); go_simp) <;> (with_reducible rfl)
                  (try simp only [Act.put, List.setIfInBounds_toArray, List.set_cons_succ, List.set_cons_zero])
                  refine wpAnyH_take (i := 21) (oi := ⟨some 189, _, _, _, _, _⟩) (v := ?_) rfl (by kernel_rfl) (by kernel_rfl) (by kernel_rfl) (fun _ _ _ h => h) (Or.inl ⟨by kernel_rfl, ?_⟩) (by assumption) ?_
                  rotate_left 1
                  · (intro w hSw; (try dsimp only at hSw); go_simp) <;> (with_reducible rfl)
                  (try simp only [Act.put, List.setIfInBounds_toArray, List.set_cons_succ, List.set_cons_zero])
                  refine wpAnyH_take (i := 22) (oi := ⟨some 190, _, _, _, _, _⟩) (v := ?_) rfl (by kernel_rfl) (by kernel_rfl) (by kernel_rfl) (fun _ _ _ h => h) (Or.inl ⟨by kernel_rfl, ?_⟩) (by assumption) ?_
                  rotate_left 1
                  · (intro w hSw; (try dsimp only at hSw); go_simp) <;> (with_reducible rfl)
                  (try simp only [Act.put, List.setIfInBounds_toArray, List.set_cons_succ, List.set_cons_zero])
                  refine wpAnyH_take (i := 23) (oi := ⟨some 191, _, _, _, _, _⟩) (v := ?_) rfl (by kernel_rfl) (by kernel_rfl) (by kernel_rfl) (fun _ _ _ h => h) (Or.inl ⟨by kernel_rfl, ?_⟩) (by assumption) ?_
                  rotate_left 1
                  · (intro w hSw; (try dsimp only at hSw); go_simp) <;> (with_reducible rfl)
                  (try simp only [Act.put, List.setIfInBounds_toArray, List.set_cons_succ, List.set_cons_zero])
                  refine wpAnyH_take (i := 24) (oi := ⟨some 192, _, _, _, _, _⟩) (v := ?_) rfl (by kernel_rfl) (by kernel_rfl) (by kernel_rfl) (fun _ _ _ h => h) (Or.inl ⟨by kernel_rfl, ?_⟩) (by assumption) ?_
                  rotate_left 1
                  · (intro w hSw; (try dsimp only at hSw); go_simp) <;> (with_reducible rfl)
                  (try simp only [Act.put, List.setIfInBounds_toArray, List.set_cons_succ, List.set_cons_zero])
                  refine wpAnyH_ready (rs := [18]) (by kernel_rfl) (by simp) ?_
                  refine AllReadyH.cons (o := _) rfl (fun K' hK => ?_) AllReadyH.nil
                  go_simp
                  refine (CT.out _ KK.out).mono ?_
                  rintro e wk ⟨rfl, hb⟩
                  replace KK := hide (btrans KK.out hb)
                  clear hb
                  refine hK.out _ _ ?_ (fun hHeld => ?_)
                  · exact CE.out _ KK.out
                  clear hK K'
                  (try simp only [Act.put, List.setIfInBounds_toArray, List.set_cons_succ, List.set_cons_zero])
                  refine wpAnyH_take (i := 25) (oi := ⟨some 193, _, _, _, _, _⟩) (v := ?_) rfl (by kernel_rfl) (by kernel_rfl) (by kernel_rfl) (fun _ _ _ h => h) (Or.inl ⟨by kernel_rfl, ?_⟩) (by assumption) ?_
                  rotate_left 1
                  · (intro w hSw; (try dsimp only at hSw); go_simp) <;> (with_reducible rfl)
                  (try simp only [Act.put, List.setIfInBounds_toArray, List.set_cons_succ, List.set_cons_zero])
                  refine wpAnyH_take (i := 26) (oi := ⟨some 194, _, _, _, _, _⟩) (v := ?_) rfl (by kernel_rfl) (by kernel_rfl) (by kernel_rfl) (fun _ _ _ h => h) (Or.inl ⟨by kernel_rfl, ?_⟩) (by assumption) ?_
                  rotate_left 1
                  · (intro w hSw; (try dsimp only at hSw); go_simp) <;> (with_reducible rfl)
                  (try simp only [Act.put, List.setIfInBounds_toArray, List.set_cons_succ, List.set_cons_zero])
                  refine wpAnyH_done (by kernel_rfl) ?_ _
                  refine NoPanic.normal ?_
                  replace K := hide (btrans K.out KK.out)
                  replace X5 := hide (X5.out.below KK.out)
                  replace X7 := hide (X7.out.below KK.out)
                  replace CA := hide (CA.out.below KK.out)
                  replace QI := hide (QI.out.below KK.out)
                  have cc := CE.out _ KK.out
                  clear CT CE KK y5 x1
                  obtain ⟨y5, x1⟩ := cc
                  go_wp2
                  go_loop [19, 201] (fun nn i => ∃ (x t : Nat), nn = .int .i64 (x : Int) ∧ t ≤ l.length ∧ i = .int .i64 (t : Int) ∧ Hid (x + P + t = N)) (fun _ i => l.length - (intOf i).toNat)
                  case atStart => exact ⟨x, 0, rfl, Nat.zero_le _, rfl, hide (by have := HXN2.out; omega)⟩
                  case round =>
                    clear HXN2 hx
                    obtain ⟨x, t, rfl, ht, rfl, HX⟩ := hrel
                    by_cases htl : t < l.length
                    · obtain ⟨y, rfl⟩ : ∃ y, x = y + 1 := ⟨x - 1, by have := HX.out; omega⟩
                      have hy : y ≤ 60 := by have := HX.out; omega
                      obtain ⟨b2, o2, rfl, hl2, x2⟩ := QI.out.cells (brefl _) htl
                      have hfm := FM.out _ (getD_mem htl)
                      have hfr := HRG.out _ hfm
                      generalize l.getD t 0 = f at *
                      obtain ⟨fn, rfl⟩ : ∃ fn : Nat, f = fn := ⟨f.toNat, by omega⟩
                      have hf256 : fn < 256 := by omega
                      have hfi : (fn : Int) < 256 := by omega
                      have cg := World.rowIs.cell X7.out hf256
                      rw [decide_eq_true hfm] at cg
                      have HX2 := hide (show y + P + (t + 1) = N by have := HX.out; omega)
                      clear hfm hfr HX
                      go_wp2
                      go_round
                      case rel => exact ⟨y, t + 1, by go_num, by omega, by go_num, HX2⟩
                      case measure => simp [intOf]; omega
                    · obtain rfl : t = l.length := by omega
                      have HX2 := hide (show x + (D.take (j + 1)).flatten.length = D.flatten.length by have := HX.out; rw [FS2.out, ← hN2]; omega)
                      clear HX htl ht
                      go_wp2
                      go_roundw
                      case rel => exact ⟨x, j + 1, rfl, by omega, by go_num, K, X5, X7, CA, HX2⟩
                      case measure => simp [intOf]; omega
                · obtain rfl : j = n := by omega
                  obtain rfl : x = 0 := by
                    have h1 := HXN.out
                    rw [← HLN.out, List.take_length] at h1
                    omega
                  have CK := hide (fun W (hb : Below wr.heap.size wr W) => check_at (z := (j : Int)) (er := 0) (CA.out.below hb) HSZ.out (by
                    have h1 := HLN.out
                    have h2 : ¬ ((D.length : Int) < 1 ∨ 6 < (D.length : Int)) := by omega
                    have h3 := chk_in h2
                    rw [h1] at h3
                    rw [h3]; exact V.out.ok))
                  have s5 := cell_box1 X5.out
                  clear HXN hlt hj hx
                  go_wp2_with fail
                  refine (CK.out _ (brefl _)).mono ?_
                  rintro e wy ⟨rfl, hb⟩
                  replace K := hide (btrans K.out hb)
                  clear hb s5 CK
                  go_wp2_with fail
                  refine (AW.out _).mono ?_
                  rintro e wz ⟨rfl, hb⟩
                  replace K := hide (btrans K.out hb)
                  clear hb
                  go_wp2_with fail
                  go_ret
                  exact ⟨rfl, K.out⟩
end Go.Proofs.Ytinoddpdfknkbab.Pc
