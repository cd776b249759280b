import Derived.Test.YtinoddpdfknkbabCn
import Derived.Test.YtinoddpdfknkbabDr
import Derived.RangeFuncBox
namespace Go.Proofs.Ytinoddpdfknkbab.Pc
open Go Go.RowKit
set_option linter.unusedVariables false
theorem step_app {P : Program} {w w' : World} {ops : Array Oper} {o : Oper} {a : Act} {K : Act → World → Prop} {Q : Exit → Act → World → Prop} {E : Prop} (hgd : o.guard = none) (d s : Operand) (t : TypeId)
    (ho : o.op = .call { callee := .builtin .append, args := #[d, s], argTypes := #[t, t] }) (vd vs r : Value) (hd : a.eval d = vd) (hs : a.eval s = vs) (ty : TypeId) (hty : o.type = ty)
    (hr : (Builtin.append_ #[t, t] ty #[vd, vs]).run P w = .ok r w') (h : K (a.put o.dst r) w') :
    if Region.wanted o (yielded ops a.tmps) = true then Oper.wp P o a w K Q else E := by
  subst hty
  have hw : Region.wanted o (yielded ops a.tmps) = true := by simp [Region.wanted, hgd]
  rw [if_pos hw]
  unfold Oper.wp execOp
  simp only [ho, resolve, invoke, builtin, Sem.run_bind, Sem.run_pure, Result.andThen_ok, List.map_toArray, List.map_cons, List.map_nil, hd, hs, hr]
  exact h
theorem rset_same {C : Ls} {k : Nat} (h : k < C.length) : C.set k (lAt C k) = C := by
  apply List.ext_getElem?
  intro i
  rw [List.getElem?_set]
  by_cases e : k = i
  · subst e; rw [if_pos rfl, if_pos h, List.getElem?_eq_getElem h, lAt_get h]
  · rw [if_neg e]
theorem R2.mk {A : Option Addr} {n c : Nat} {C : Ls} {er : Int} {w w' : World} {e : Ending} (hn : C.length = n) (he : e = .returned (.tuple #[.agg #[.slice A n c], .int .i64 er])) (hc : n ≤ c) {B : Nat} {vs : List Value} (hr : OwnR B w' (.slice A n c) C vs) (hb : Below w.heap.size w w') : R2 C er w e w' := by
  subst hn; exact ⟨A, c, he, hc, ⟨vs, hr.mono (Nat.zero_le _)⟩, hb⟩
theorem rev_at {l : Is} {k : Nat} (h : k < l.length) : (l.drop k).reverse = (l.drop (k + 1)).reverse ++ [l.getD k 0] := by rw [drop_at h, List.reverse_cons]
theorem rfE_zero {C : Ls} {z : Int} {fs : Is} (h : czE C z = 0) : rfE C z fs = nwE C.flatten fs := by unfold rfE; rw [if_neg (fun x => x h)]
set_option maxHeartbeats 8000000 in
set_option maxRecDepth 100000 in
theorem rrefill_any (v : Value) (C : Ls) (z : Int) (Af : Option Addr) (cf : Nat) (fs : Is) (w : World) (h : CaIn w v C) (hS : Sz 1000 1000 C) (hq : Bi w Af fs) (hcf : fs.length ≤ cf) (hn : fs.length ≤ 1000) : Calls Try.prog 26 #[v, .int .i64 z, .slice Af fs.length cf] w (R2 (rfC C z fs) (rfE C z fs) w) := by
  have hI := h
  obtain ⟨A, c, rfl, hc, r⟩ := h
  obtain ⟨W0, hW0⟩ : ∃ W0, W0 = ((w.alloc (.cells #[.slice A C.length c] 24)).alloc (.cells #[.slice none 0 0] 24)) := ⟨_, rfl⟩
  have K0 := hide (show Below w.heap.size w W0 by rw [hW0]; exact bal (bal (brefl w) _) _)
  have X1 := hide (show Box W0 w.heap.size 24 #[.slice A C.length c] by rw [hW0]; exact (Box.new w 24 _).more _)
  have X2 := hide (show Box W0 (w.heap.size + 1) 24 #[.slice none 0 0] by rw [hW0]; exact Box.new2 w _ 24 _)
  have CZ := hide (rcz_any _ C z W0 (hI.below K0.out) hS)
  have HI := hide hI
  have HS := hide hS
  have Q := hide hq
  have ln := hS.1
  have HW := hide hW0
  obtain ⟨CC, hCC⟩ : ∃ CC, CC = rfC C z fs := ⟨_, rfl⟩
  rw [← hCC]
  clear r hI hS hW0 hq
  by_cases h0 : czE C z = 0
  · obtain ⟨_, _, hz0, hz1⟩ := czE_zero.1 h0
    rw [h0] at CZ
    obtain ⟨k, rfl⟩ : ∃ k : Nat, z = k := ⟨z.toNat, by omega⟩
    have hk : k < C.length := by omega
    obtain ⟨er, her⟩ : ∃ er, er = rfE C k fs := ⟨_, rfl⟩
    rw [← her]
    have HE := hide (show er = nwE C.flatten fs by rw [her, rfE_zero h0])
    have H1 := hide (show er ≠ 0 → CC = [] from fun h => by rw [hCC]; unfold rfC; rw [if_neg (by rw [← her]; exact h)])
    have H2 := hide (show er = 0 → CC = C.set k (lAt C k ++ fs.reverse) from fun h => by rw [hCC]; unfold rfC; rw [if_pos (by rw [← her]; exact h), Int.toNat_natCast])
    have FO := hide (fun f W (hb : Below w.heap.size w W) => has_any _ C f W (HI.out.below hb) HS.out)
    clear h0 hz0 hz1 hCC her
    go_enter Try.func26, Try.ntmps26
    go_upto_region 1 with fail
    rw [← HW.out]
    clear HW
    have s1 := cell_box1 X1.out
    go_wp2_with fail
    refine CZ.out.mono ?_
    rintro e w1 ⟨rfl, hb⟩
    replace K0 := hide (btrans K0.out hb)
    replace X1 := hide (X1.out.below hb)
    replace X2 := hide (X2.out.below hb)
    clear hb s1 CZ
    have s1 := cell_box1 X1.out
    have s2 := cell_box1 X2.out
    have f2 := X2.out.frozen 0
    go_wp2
    clear s1 s2 f2
    go_loopw [24] (fun i wr => ∃ j : Nat, j ≤ fs.length ∧ i = .int .i64 j ∧ Hid (Below w.heap.size w wr) ∧ Hid (Box wr w.heap.size 24 #[.slice A C.length c]) ∧ Hid (Box wr (w.heap.size + 1) 24 #[.slice none 0 0]) ∧ Hid (nwE C.flatten fs = nwE (C.flatten ++ fs.take j) (fs.drop j))) (fun i _ => fs.length - (intOf i).toNat)
    case atStart => exact ⟨0, Nat.zero_le _, rfl, K0, X1, X2, hide (by simp)⟩
    case round =>
      clear K0 X1 X2
      obtain ⟨j, hj, rfl, K0, X1, X2, RE⟩ := hrel
      by_cases hlt : j < fs.length
      · obtain ⟨b2, o2, rfl, hl2, x2⟩ := Q.out.cells K0.out hlt
        have TS := hide (getD_snoc hlt)
        have DS := hide (drop_at hlt)
        obtain ⟨f, hf⟩ : ∃ f, f = fs.getD j 0 := ⟨_, rfl⟩
        rw [← hf] at x2 TS DS
        have C1 := hide (fun w => out_any f w)
        have s1 := cell_box1 X1.out
        have s2 := cell_box1 X2.out
        have f2 := X2.out.frozen 0
        clear hf
        cases hz : fr f
        · obtain rfl : er = 2 := by rw [HE.out, RE.out, DS.out]; exact nwE_out hz
          obtain rfl := H1.out (by decide)
          rw [hz] at C1
          clear hz
          go_wp2_with fail
          refine (C1.out _).mono ?_
          rintro e wf ⟨rfl, rfl⟩
          go_wp2
          exact ret_c2 Try.results26 rfl rfl rfl (X2.out.put 0 _) ⟨none, 0, rfl, Nat.le_refl _, RdO.nil _, bset K0.out (p := ⟨w.heap.size + 1, 0, none⟩) (by show w.heap.size ≤ w.heap.size + 1; omega) _⟩
        · rw [hz] at C1
          have FF := hide (FO.out f wr K0.out)
          by_cases hm : f ∈ C.flatten
          · obtain rfl : er = 7 := by rw [HE.out, RE.out, DS.out]; exact nwE_old hz (List.mem_append.2 (.inl hm))
            obtain rfl := H1.out (by decide)
            rw [decide_eq_true hm] at FF
            clear hz hm
            go_wp2_with fail
            refine (C1.out _).mono ?_
            rintro e wf ⟨rfl, rfl⟩
            go_wp2_with fail
            refine FF.out.mono ?_
            rintro e wf2 ⟨rfl, hb⟩
            replace K0 := hide (btrans K0.out hb)
            replace X2 := hide (X2.out.below hb)
            clear hb s1 s2 f2
            have s2 := cell_box1 X2.out
            have f2 := X2.out.frozen 0
            go_wp2
            exact ret_c2 Try.results26 rfl rfl rfl (X2.out.put 0 _) ⟨none, 0, rfl, Nat.le_refl _, RdO.nil _, bset K0.out (p := ⟨w.heap.size + 1, 0, none⟩) (by show w.heap.size ≤ w.heap.size + 1; omega) _⟩
          · rw [decide_eq_false hm] at FF
            have OLD := hide (fun (h : f ∈ fs.take j) => show er = 7 by rw [HE.out, RE.out, DS.out]; exact nwE_old hz (List.mem_append.2 (.inr h)))
            have NEW := hide (fun (h : f ∉ fs.take j) => show nwE C.flatten fs = nwE (C.flatten ++ fs.take (j + 1)) (fs.drop (j + 1)) by
              rw [RE.out, DS.out, nwE_on hz (by rw [List.mem_append]; intro x; rcases x with x | x; exact hm x; exact h x), TS.out, List.append_assoc])
            have hjc : (j : Int) ≤ (cf : Int) := by omega
            have hjc2 : j ≤ cf := by omega
            clear hz hm
            go_wp2_with fail
            refine (C1.out _).mono ?_
            rintro e wf ⟨rfl, rfl⟩
            go_wp2_with fail
            refine FF.out.mono ?_
            rintro e wf2 ⟨rfl, hb⟩
            replace K0 := hide (btrans K0.out hb)
            replace X1 := hide (X1.out.below hb)
            replace X2 := hide (X2.out.below hb)
            clear hb s1 s2 f2 x2
            go_wp2
            go_loop [40] (fun i => ∃ q : Nat, q ≤ j ∧ i = .int .i64 q ∧ Hid (f ∉ fs.take q)) (fun i => j - (intOf i).toNat)
            case atStart => exact ⟨0, Nat.zero_le _, rfl, hide (by simp)⟩
            case round =>
              obtain ⟨q, hq, rfl, NQ⟩ := hrel
              by_cases hlq : q < j
              · obtain ⟨b3, o3, e3, hl3, x3⟩ := Q.out.cells K0.out (show q < fs.length by omega)
                injection e3 with e3; injection e3 with e3 e4; subst e3 e4
                have TQ := hide (getD_snoc (show q < fs.length by omega))
                have MQ := hide (show fs.getD q 0 ∈ fs.take j by
                  have hq2 : q < (fs.take j).length := by rw [List.length_take]; omega
                  have := getD_mem hq2
                  rw [List.getD_eq_getElem?_getD, List.getElem?_take_of_lt hlq, ← List.getD_eq_getElem?_getD] at this
                  exact this)
                generalize fs.getD q 0 = y at *
                by_cases hfy : f = y
                · subst hfy
                  obtain rfl : er = 7 := OLD.out MQ.out
                  obtain rfl := H1.out (by decide)
                  have s2 := cell_box1 X2.out
                  have f2 := X2.out.frozen 0
                  go_wp2
                  exact ret_c2 Try.results26 rfl rfl rfl (X2.out.put 0 _) ⟨none, 0, rfl, Nat.le_refl _, RdO.nil _, bset K0.out (p := ⟨w.heap.size + 1, 0, none⟩) (by show w.heap.size ≤ w.heap.size + 1; omega) _⟩
                · have hd : (f == y) = false := by simpa using hfy
                  have NQ2 := hide (show f ∉ fs.take (q + 1) by rw [TQ.out, List.mem_append]; intro x; rcases x with x | x; exact NQ.out x; exact hfy (by simpa using x))
                  clear hfy
                  go_wp2
                  go_round
                  case rel => exact ⟨q + 1, by omega, by go_num, NQ2⟩
                  case measure => simp [intOf]; omega
              · obtain rfl : q = j := by omega
                have NN := hide (NEW.out NQ.out)
                go_wp2
                go_roundw
                case rel => exact ⟨q + 1, by omega, by go_num, K0, X1, X2, NN⟩
                case measure => simp [intOf]; omega
      · obtain rfl : j = fs.length := by omega
        obtain rfl : er = 0 := by rw [HE.out, RE.out, List.drop_length]; rfl
        obtain rfl := H2.out rfl
        have CL := hide (rclone_any _ C wr (HI.out.below K0.out) HS.out)
        unfold CaR at CL
        have s1 := cell_box1 X1.out
        clear FO
        go_wp2_with fail
        refine CL.out.mono ?_
        rintro e w2 ⟨A2, c2, vs, rfl, hc2, hov2, hb⟩
        obtain ⟨G, rfl, hGw⟩ := (show ∃ G, A2 = some ⟨G, 0, none⟩ ∧ wr.heap.size ≤ G by
          obtain ⟨g, e, h1, h2, _⟩ := row_cell hov2.row (show C.length ≠ 0 by omega)
          exact ⟨g, e, h2⟩)
        have K := hide (bal (btrans K0.out hb) (.cells #[.slice (some ⟨G, 0, none⟩) C.length c2] 24))
        have hge1 : w.heap.size ≤ w.heap.size + 1 := by omega
        have KB := bal hb (.cells #[.slice (some ⟨G, 0, none⟩) C.length c2] 24)
        replace X2 := hide (X2.out.below KB)
        have X9 := hide (Box.new w2 24 #[.slice (some ⟨G, 0, none⟩) C.length c2])
        have OV := hide (show OwnV w.heap.size (w2.alloc (.cells #[.slice (some ⟨G, 0, none⟩) C.length c2] 24)) (.slice (some ⟨G, 0, none⟩) C.length c2) (C.set k (lAt C k ++ (fs.drop fs.length).reverse)) vs by
          rw [List.drop_length, List.reverse_nil, List.append_nil, rset_same hk]
          exact (hov2.mono K0.out.size).below (bal (brefl w2) _))
        have HGw := hide (Nat.le_trans K0.out.size hGw)
        clear CL hov2 hb hGw KB s1 K0 X1
        go_upto_region 19 with fail
        generalize w2.alloc (.cells #[.slice (some ⟨G, 0, none⟩) C.length c2] 24) = w4 at *
        go_wp2
        go_loopw [14] (fun i wr => ∃ (j : Nat) (i0 : Int) (vs : List Value), j ≤ fs.length ∧ i = .int .i64 i0 ∧ i0 = (j : Int) - 1 ∧ Hid (Below w.heap.size w wr) ∧ Hid (Box wr (w.heap.size + 1) 24 #[.slice none 0 0]) ∧ Hid (Box wr w2.heap.size 24 #[.slice (some ⟨G, 0, none⟩) C.length c2]) ∧ Hid (OwnV w.heap.size wr (.slice (some ⟨G, 0, none⟩) C.length c2) (C.set k (lAt C k ++ (fs.drop j).reverse)) vs)) (fun i _ => (intOf i + 1).toNat)
        case atStart => exact ⟨fs.length, _, _, Nat.le_refl _, rfl, rfl, K, X2, X9, OV⟩
        case round =>
          clear K X2 X9 OV
          obtain ⟨q, i0, vs, hq, rfl, hi0, K, X2, X9, OV⟩ := hrel
          rcases q with _ | j
          · obtain rfl : i0 = -1 := by omega
            have OVN := hide (show OwnV w.heap.size wr (.slice (some ⟨G, 0, none⟩) C.length c2) (C.set k (lAt C k ++ fs.reverse)) vs from OV.out)
            have s9 := cell_box1 X9.out
            have s2 := cell_box1 X2.out
            have f2 := X2.out.frozen 0
            clear OV hi0
            go_wp2
            have KP7 := Kp.boxset X2.out hge1 0 (.slice (some ⟨G, 0, none⟩) C.length c2)
            have K7 := hide (bset K.out (p := ⟨w.heap.size + 1, 0, none⟩) hge1 (.slice (some ⟨G, 0, none⟩) C.length c2))
            have OR7 := OVN.out.r.kp KP7 (by decide) (by decide)
            exact ret_c2 Try.results26 rfl rfl rfl (X2.out.put 0 _) (R2.mk (by rw [List.length_set]) rfl hc2 OR7 K7.out)
          · obtain rfl : i0 = (j : Int) := by omega
            have hjl : j < fs.length := by omega
            obtain ⟨f, hf⟩ : ∃ f, f = fs.getD j 0 := ⟨_, rfl⟩
            have HF := hide hf
            have RV := hide (rev_at hjl)
            rw [← hf] at RV
            obtain ⟨D, hD⟩ : ∃ D, D = C.set k (lAt C k ++ (fs.drop (j + 1)).reverse) := ⟨_, rfl⟩
            rw [← hD] at OV
            have HDL := hide (show D.length = C.length by rw [hD, List.length_set])
            have hDk : lAt D k = lAt C k ++ (fs.drop (j + 1)).reverse := by rw [hD, lAt_set hk, if_pos rfl]
            have HLD := hide (show (lAt D k).length ≤ 3000 by
              rw [hDk, List.length_append, List.length_reverse, List.length_drop]
              have := HS.out.2 k hk
              omega)
            have HDS := hide (show D.set k (lAt D k ++ [f]) = C.set k (lAt C k ++ (fs.drop j).reverse) by rw [hDk, hD, List.set_set, RV.out, List.append_assoc])
            have hkD : k < D.length := by rw [HDL.out]; exact hk
            have hj0 : (0 : Int) ≤ (j : Int) := by omega
            clear hf hi0 hD hDk
            obtain ⟨u0, hvk⟩ : ∃ u0, vs[k]? = some u0 := ⟨_, List.getElem?_eq_getElem (show k < vs.length by rw [OV.out.len]; exact hkD)⟩
            have hu0 := OV.out.inn k u0 hvk
            obtain ⟨U, cu, e0, hcu⟩ := row_form hu0
            subst e0
            obtain ⟨m, hm⟩ : ∃ m, m = (lAt D k).length := ⟨_, rfl⟩
            have lm : m ≤ 3000 := by rw [hm]; exact HLD.out
            rw [← hm] at hvk hu0
            have HM := hide hm
            have HVK := hide hvk
            have KD := below_drew (brefl wr)
            replace OV := hide (OV.out.below KD)
            replace X9 := hide (X9.out.below KD)
            replace X2 := hide (X2.out.below KD)
            replace K := hide (btrans K.out KD)
            have hu0 := row_below hu0 KD
            skip
            clear hvk hm KD
            obtain ⟨wd, hwd⟩ : ∃ wd, wd = wr.drew := ⟨_, rfl⟩
            rw [← hwd] at hu0 OV X9 X2 K
            obtain ⟨y8, g8⟩ := (OV.out.x k).cellz HVK.out
            have hal := bal (brefl wd) (.cells #[.int .i64 f] 3)
            have y8b := ((OV.out.below hal).x k |>.cellz HVK.out).1
            obtain ⟨i0, hi0, hq0, hq1, hq2⟩ := info_parts info3
            have hrow4 := row_below hu0 hal
            obtain ⟨v5, w5, ha5, ho5, hg5, _, hat5⟩ := run_append_own_at (P := Try.prog) (wd.alloc (.cells #[.int .i64 f] 3)) w.heap.size 34 34 3 i0 _ 1 8 Try.underlying34 hi0 hq0 hq1 hq2 rfl (by omega) (.slice U m cu) m _ hrow4 ⟨wd.heap.size, 0, none⟩ 1 1 [.int .i64 f] (by simp) (cell_one_new _ _ _) (by intro x hx; simp at hx; subst hx; rfl) (by simp only [maxLen]; omega) (by omega) (Nat.le_trans K.out.size hal.size)
            obtain ⟨g5, c5, rfl⟩ := ownsRow_succ ho5
            have hk5 : Kp w.heap.size 3 wd w5 := (Kp.of_below hal K.out.size).trans (kp_grown hrow4 hg5 (Nat.le_trans K.out.size hal.size))
            have hlD : (lAt D k ++ [f]).length = m + 1 := by rw [List.length_append, ← HM.out]; rfl
            have hX5 := (OV.out.below hal).grown HVK.out hg5
            have hO5 : w5.ownsRow w.heap.size 3 1 (.slice (some ⟨g5, 0, none⟩) (m + 1) c5) (lAt D k ++ [f]).length ((lAt D k ++ [f]).map ic) := by rw [hlD]; simpa [List.map_append, ic] using ho5
            have OV5 := hide (hX5.put hkD hO5 (dis_set OV.out.dis fun i u' hi hu' => by
              rcases OV.out.dis i k u' _ hi hu' HVK.out with h | h
              · exact .inl h
              · rcases hat5 with e | e
                · rw [e]; exact .inr h
                · rw [e]
                  right
                  intro e2
                  exact row_own_lt (row_below (OV.out.inn i u' hu') hal) (Nat.le_refl _) e2.symm))
            have hrw := hX5.row
            rw [HDL.out] at hrw
            obtain ⟨cur, hXG, hBG⟩ := row_set_box hrw
            clear hrw
            obtain ⟨yG, fG⟩ := hX5.cellz HVK.out
            have X95 := hide (X9.out.kp hk5 (by decide))
            have X25 := hide (X2.out.kp hk5 (by decide))
            have K5 := hide (K.out.trans hk5.below)
            skip
            have KPG := Kp.boxset hXG hBG k (.slice (some ⟨g5, 0, none⟩) (m + 1) c5)
            have X96 := hide (X95.out.kp KPG (by decide))
            have X26 := hide (X25.out.kp KPG (by decide))
            have K6 := hide (bset K5.out (p := ⟨G, k, none⟩) HGw.out (.slice (some ⟨g5, 0, none⟩) (m + 1) c5))
            skip
            have s9 := cell_box1 X9.out
            have HA5 := hide ha5

            obtain ⟨bf, of, e2, hlf, xf⟩ := Q.out.cells (brefl w) hjl
            subst e2
            rw [← HF.out] at xf
            have SF := hide (show (fun W => W.cell? ⟨w2.heap.size, 0, none⟩ = some (.slice (some ⟨G, 0, none⟩) C.length c2) ∧ W.cell? ⟨bf, of + j, none⟩ = some (.int .i64 f)) wd from ⟨s9, (K.out.cell (p := ⟨bf, of + j, none⟩) hlf).trans xf⟩)
            have SFB := hide (show (fun W => W.cell? ⟨w2.heap.size, 0, none⟩ = some (.slice (some ⟨G, 0, none⟩) C.length c2) ∧ W.cell? ⟨bf, of + j, none⟩ = some (.int .i64 f)) (wd.alloc (.cells #[.int .i64 f] 3)) from ⟨cell_box1 (X9.out.below (bal (brefl wd) _)), ((bal K.out (.cells #[.int .i64 f] 3)).cell (p := ⟨bf, of + j, none⟩) hlf).trans xf⟩)
            have SF5 := hide (show (fun W => W.cell? ⟨w2.heap.size, 0, none⟩ = some (.slice (some ⟨G, 0, none⟩) C.length c2) ∧ W.cell? ⟨bf, of + j, none⟩ = some (.int .i64 f)) w5 from ⟨cell_box1 X95.out, (K5.out.cell (p := ⟨bf, of + j, none⟩) hlf).trans xf⟩)
            have SF6 := hide (show (fun W => W.cell? ⟨w2.heap.size, 0, none⟩ = some (.slice (some ⟨G, 0, none⟩) C.length c2) ∧ W.cell? ⟨bf, of + j, none⟩ = some (.int .i64 f)) (w5.setCell ⟨G, k, none⟩ (.slice (some ⟨g5, 0, none⟩) (m + 1) c5)) from ⟨cell_box1 X96.out, (K6.out.cell (p := ⟨bf, of + j, none⟩) hlf).trans xf⟩)
            clear xf
            clear ha5 ho5 hg5 hat5 hk5 hu0 hrow4 hal hX5 hO5 hXG hBG KPG hcu hlD
            have REL := hide (show OwnV w.heap.size (w5.setCell ⟨G, k, none⟩ (.slice (some ⟨g5, 0, none⟩) (m + 1) c5)) (.slice (some ⟨G, 0, none⟩) C.length c2) (C.set k (lAt C k ++ (fs.drop j).reverse)) (vs.set k (.slice (some ⟨g5, 0, none⟩) (m + 1) c5)) by rw [← HDS.out]; exact OV5.out)
            go_wp2
            refine wp_region_noPanic ?_
            refine wp_region_held_drew (S := (fun W => W.cell? ⟨w2.heap.size, 0, none⟩ = some (.slice (some ⟨G, 0, none⟩) C.length c2) ∧ W.cell? ⟨bf, of + j, none⟩ = some (.int .i64 f))) (by kernel_rfl) ?_ (fun hHeld => ?_)
            · first | exact SF.out | exact SFB.out | exact SF5.out | exact SF6.out | (subst hwd; exact SF.out)
            rw [← hwd]
            clear hwd
            refine wpAnyH_take (i := 0) (oi := ⟨some 59, _, _, _, _, _⟩) (v := ?_) rfl (by kernel_rfl) (by kernel_rfl) (by kernel_rfl) (fun _ _ _ h => h) (Or.inl ⟨by kernel_rfl, ?_⟩) (by assumption) ?_
            rotate_left 1
            · (intro w hSw; (try dsimp only at hSw); go_simp) <;> (with_reducible rfl)
            (try simp only [Act.put, List.setIfInBounds_toArray, List.set_cons_succ, List.set_cons_zero])
            refine wpAnyH_take (i := 1) (oi := ⟨some 60, _, _, _, _, _⟩) (v := ?_) rfl (by kernel_rfl) (by kernel_rfl) (by kernel_rfl) (fun _ _ _ h => h) (Or.inl ⟨by kernel_rfl, ?_⟩) (by assumption) ?_
            rotate_left 1
            · (intro w hSw; (try dsimp only at hSw); go_simp) <;> (with_reducible rfl)
            (try simp only [Act.put, List.setIfInBounds_toArray, List.set_cons_succ, List.set_cons_zero])
            refine wpAnyH_take (i := 2) (oi := ⟨some 61, _, _, _, _, _⟩) (v := ?_) rfl (by kernel_rfl) (by kernel_rfl) (by kernel_rfl) (fun _ _ _ h => h) (Or.inl ⟨by kernel_rfl, ?_⟩) (by assumption) ?_
            rotate_left 1
            · (intro w hSw; (try dsimp only at hSw); go_simp) <;> (with_reducible rfl)
            (try simp only [Act.put, List.setIfInBounds_toArray, List.set_cons_succ, List.set_cons_zero])
            refine wpAnyH_take (i := 3) (oi := ⟨some 62, _, _, _, _, _⟩) (v := ?_) rfl (by kernel_rfl) (by kernel_rfl) (by kernel_rfl) (fun _ _ _ h => h) (Or.inl ⟨by kernel_rfl, ?_⟩) (by assumption) ?_
            rotate_left 1
            · (intro w hSw; (try dsimp only at hSw); go_simp) <;> (with_reducible rfl)
            (try simp only [Act.put, List.setIfInBounds_toArray, List.set_cons_succ, List.set_cons_zero])
            refine wpAnyH_take (i := 4) (oi := ⟨some 63, _, _, _, _, _⟩) (v := ?_) rfl (by kernel_rfl) (by kernel_rfl) (by kernel_rfl) (fun _ _ _ h => h) (Or.inl ⟨by kernel_rfl, ?_⟩) (by assumption) ?_
            rotate_left 1
            · (intro w hSw; (try dsimp only at hSw); go_simp) <;> (with_reducible rfl)
            (try simp only [Act.put, List.setIfInBounds_toArray, List.set_cons_succ, List.set_cons_zero])
            refine wpAnyH_take (i := 5) (oi := ⟨some 64, _, _, _, _, _⟩) (v := ?_) rfl (by kernel_rfl) (by kernel_rfl) (by kernel_rfl) (fun _ _ _ h => h) (Or.inl ⟨by kernel_rfl, ?_⟩) (by assumption) ?_
            rotate_left 1
            · (intro w hSw; (try dsimp only at hSw); go_simp) <;> (with_reducible rfl)
            (try simp only [Act.put, List.setIfInBounds_toArray, List.set_cons_succ, List.set_cons_zero])
            refine wpAnyH_take (i := 6) (oi := ⟨some 65, _, _, _, _, _⟩) (v := ?_) rfl (by kernel_rfl) (by kernel_rfl) (by kernel_rfl) (fun _ _ _ h => h) (Or.inl ⟨by kernel_rfl, ?_⟩) (by assumption) ?_
            rotate_left 1
            · (intro w hSw; (try dsimp only at hSw); go_simp) <;> (with_reducible rfl)
            (try simp only [Act.put, List.setIfInBounds_toArray, List.set_cons_succ, List.set_cons_zero])
            refine wpAnyH_take (i := 8) (oi := ⟨some 67, _, _, _, _, _⟩) (v := ?_) rfl (by kernel_rfl) (by kernel_rfl) (by kernel_rfl) (fun _ _ _ h => h) (Or.inl ⟨by kernel_rfl, ?_⟩) (by assumption) ?_
            rotate_left 1
            · (intro w hSw; (try dsimp only at hSw); go_simp) <;> (with_reducible rfl)
            (try simp only [Act.put, List.setIfInBounds_toArray, List.set_cons_succ, List.set_cons_zero])
            refine wpAnyH_take (i := 9) (oi := ⟨some 68, _, _, _, _, _⟩) (v := ?_) rfl (by kernel_rfl) (by kernel_rfl) (by kernel_rfl) (fun _ _ _ h => h) (Or.inl ⟨by kernel_rfl, ?_⟩) (by assumption) ?_
            rotate_left 1
            · (intro w hSw; (try dsimp only at hSw); go_simp) <;> (with_reducible rfl)
            (try simp only [Act.put, List.setIfInBounds_toArray, List.set_cons_succ, List.set_cons_zero])
            refine wpAnyH_take (i := 10) (oi := ⟨some 69, _, _, _, _, _⟩) (v := ?_) rfl (by kernel_rfl) (by kernel_rfl) (by kernel_rfl) (fun _ _ _ h => h) (Or.inl ⟨by kernel_rfl, ?_⟩) (by assumption) ?_
            rotate_left 1
            · (intro w hSw; (try dsimp only at hSw); go_simp) <;> (with_reducible rfl)
            (try simp only [Act.put, List.setIfInBounds_toArray, List.set_cons_succ, List.set_cons_zero])
            refine wpAnyH_take (i := 11) (oi := ⟨some 70, _, _, _, _, _⟩) (v := ?_) rfl (by kernel_rfl) (by kernel_rfl) (by kernel_rfl) (fun _ _ _ h => h) (Or.inl ⟨by kernel_rfl, ?_⟩) (by assumption) ?_
            rotate_left 1
            · (intro w hSw; (try dsimp only at hSw); go_simp) <;> (with_reducible rfl)
            (try simp only [Act.put, List.setIfInBounds_toArray, List.set_cons_succ, List.set_cons_zero])
            refine wpAnyH_ready (rs := [7, 12]) (by kernel_rfl) (by simp) ?_
            refine AllReadyH.cons (o := ⟨some 66, _, _, _, _, _⟩) rfl (fun K' hK => ?_) ?_
            · go_simp
              refine hK.out _ _ ?_ (fun hHeld => ?_)
              · first | exact SF.out | exact SFB.out | exact SF5.out | exact SF6.out | (subst hwd; exact SF.out)
              clear hK K'
              (try simp only [Act.put, List.setIfInBounds_toArray, List.set_cons_succ, List.set_cons_zero])
              refine wpAnyH_ready (rs := [12]) (by kernel_rfl) (by simp) ?_
              refine AllReadyH.cons (o := ⟨some 71, _, _, _, _, _⟩) rfl (fun K' hK => ?_) AllReadyH.nil
              go_simp
              refine hK.out _ _ ?_ (fun hHeld => ?_)
              · first | exact SF.out | exact SFB.out | exact SF5.out | exact SF6.out | (subst hwd; exact SF.out)
              clear hK K'
              (try simp only [Act.put, List.setIfInBounds_toArray, List.set_cons_succ, List.set_cons_zero])
              refine wpAnyH_ready (rs := [13]) (by kernel_rfl) (by simp) ?_
              refine AllReadyH.cons (o := ⟨some 72, _, _, _, _, _⟩) rfl (fun K' hK => ?_) AllReadyH.nil
              refine step_app rfl (.tmp 66) (.tmp 71) 34 rfl _ _ _ rfl rfl 34 rfl HA5.out ?_
              refine hK.out _ _ ?_ (fun hHeld => ?_)
              · first | exact SF.out | exact SFB.out | exact SF5.out | exact SF6.out | (subst hwd; exact SF.out)
              clear hK K'
              (try simp only [Act.put, List.setIfInBounds_toArray, List.set_cons_succ, List.set_cons_zero])
              refine wpAnyH_take (i := 14) (oi := ⟨some 73, _, _, _, _, _⟩) (v := ?_) rfl (by kernel_rfl) (by kernel_rfl) (by kernel_rfl) (fun _ _ _ h => h) (Or.inl ⟨by kernel_rfl, ?_⟩) (by assumption) ?_
              rotate_left 1
              · (intro w hSw; (try dsimp only at hSw); go_simp) <;> (with_reducible rfl)
              (try simp only [Act.put, List.setIfInBounds_toArray, List.set_cons_succ, List.set_cons_zero])
              refine wpAnyH_ready (rs := [15]) (by kernel_rfl) (by simp) ?_
              refine AllReadyH.cons (o := ⟨none, _, _, _, _, _⟩) rfl (fun K' hK => ?_) AllReadyH.nil
              go_simp
              refine hK.out _ _ ?_ (fun hHeld => ?_)
              · first | exact SF.out | exact SFB.out | exact SF5.out | exact SF6.out | (subst hwd; exact SF.out)
              clear hK K'
              (try simp only [Act.put, List.setIfInBounds_toArray, List.set_cons_succ, List.set_cons_zero])
              refine wpAnyH_done (by kernel_rfl) ?_ _
              refine NoPanic.normal ?_
              go_wp2
              go_roundw
              case rel => exact ⟨j, _, _, by omega, rfl, rfl, K6, X26, X96, REL⟩
              case measure => simp [intOf]
            refine AllReadyH.cons (o := ⟨some 71, _, _, _, _, _⟩) rfl (fun K' hK => ?_) AllReadyH.nil
            go_simp
            refine hK.out _ _ ?_ (fun hHeld => ?_)
            · first | exact SF.out | exact SFB.out | exact SF5.out | exact SF6.out | (subst hwd; exact SF.out)
            clear hK K'
            (try simp only [Act.put, List.setIfInBounds_toArray, List.set_cons_succ, List.set_cons_zero])
            refine wpAnyH_ready (rs := [7]) (by kernel_rfl) (by simp) ?_
            refine AllReadyH.cons (o := ⟨some 66, _, _, _, _, _⟩) rfl (fun K' hK => ?_) AllReadyH.nil
            go_simp
            refine hK.out _ _ ?_ (fun hHeld => ?_)
            · first | exact SF.out | exact SFB.out | exact SF5.out | exact SF6.out | (subst hwd; exact SF.out)
            clear hK K'
            (try simp only [Act.put, List.setIfInBounds_toArray, List.set_cons_succ, List.set_cons_zero])
            refine wpAnyH_ready (rs := [13]) (by kernel_rfl) (by simp) ?_
            refine AllReadyH.cons (o := ⟨some 72, _, _, _, _, _⟩) rfl (fun K' hK => ?_) AllReadyH.nil
            refine step_app rfl (.tmp 66) (.tmp 71) 34 rfl _ _ _ rfl rfl 34 rfl HA5.out ?_
            refine hK.out _ _ ?_ (fun hHeld => ?_)
            · first | exact SF.out | exact SFB.out | exact SF5.out | exact SF6.out | (subst hwd; exact SF.out)
            clear hK K'
            (try simp only [Act.put, List.setIfInBounds_toArray, List.set_cons_succ, List.set_cons_zero])
            refine wpAnyH_take (i := 14) (oi := ⟨some 73, _, _, _, _, _⟩) (v := ?_) rfl (by kernel_rfl) (by kernel_rfl) (by kernel_rfl) (fun _ _ _ h => h) (Or.inl ⟨by kernel_rfl, ?_⟩) (by assumption) ?_
            rotate_left 1
            · (intro w hSw; (try dsimp only at hSw); go_simp) <;> (with_reducible rfl)
            (try simp only [Act.put, List.setIfInBounds_toArray, List.set_cons_succ, List.set_cons_zero])
            refine wpAnyH_ready (rs := [15]) (by kernel_rfl) (by simp) ?_
            refine AllReadyH.cons (o := ⟨none, _, _, _, _, _⟩) rfl (fun K' hK => ?_) AllReadyH.nil
            go_simp
            refine hK.out _ _ ?_ (fun hHeld => ?_)
            · first | exact SF.out | exact SFB.out | exact SF5.out | exact SF6.out | (subst hwd; exact SF.out)
            clear hK K'
            (try simp only [Act.put, List.setIfInBounds_toArray, List.set_cons_succ, List.set_cons_zero])
            refine wpAnyH_done (by kernel_rfl) ?_ _
            refine NoPanic.normal ?_
            go_wp2
            go_roundw
            case rel => exact ⟨j, _, _, by omega, rfl, rfl, K6, X26, X96, REL⟩
            case measure => simp [intOf]
  · have hd : (czE C z != 0) = true := by simpa using h0
    have e1 : rfE C z fs = czE C z := by unfold rfE; rw [if_pos h0]
    have e2 : CC = [] := by rw [hCC]; unfold rfC; rw [e1, if_neg h0]
    rw [e1, e2]
    clear e1 e2 h0 hCC
    generalize czE C z = er at *
    go_enter Try.func26, Try.ntmps26
    go_upto_region 1 with fail
    rw [← HW.out]
    clear HW
    have s1 := cell_box1 X1.out
    go_wp2_with fail
    refine CZ.out.mono ?_
    rintro e w1 ⟨rfl, hb⟩
    replace K0 := hide (btrans K0.out hb)
    replace X1 := hide (X1.out.below hb)
    replace X2 := hide (X2.out.below hb)
    clear hb s1 CZ
    have s1 := cell_box1 X1.out
    have s2 := cell_box1 X2.out
    have f2 := X2.out.frozen 0
    go_wp2
    exact ret_c2 Try.results26 rfl rfl rfl (X2.out.put 0 _) ⟨none, 0, rfl, Nat.le_refl _, RdO.nil _, bset K0.out (p := ⟨w.heap.size + 1, 0, none⟩) (by show w.heap.size ≤ w.heap.size + 1; omega) _⟩
end Go.Proofs.Ytinoddpdfknkbab.Pc
