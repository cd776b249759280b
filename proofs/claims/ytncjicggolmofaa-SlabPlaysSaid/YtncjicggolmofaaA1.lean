import Derived.Test.YtncjicggolmofaaU1
namespace Go.Proofs.Ytncjicggolmofaa.Sb
open Go Go.RowKit
set_option linter.unusedVariables false
set_option linter.unusedSimpArgs false
/-- the error of the first frame that has one -/
def feE (seen : Is) : Is → Int
  | [] => 0
  | f :: fs => if 0 ≤ f ∧ f < 256 then (if f ∈ seen then 7 else feE (seen ++ [f]) fs) else 2
def frs (L : List Ca) : Is := L.map Prod.fst
def alE (S : Sc) (n : Int) (fs : Is) : Int := if chE S = 0 then (if n < 1 ∨ (fs.length : Int) ≠ ndN S n then 1 else feE (frs S.sl) fs) else chE S
/-- 256 flags: which frames have been seen -/
def SnI (w : World) (g : Nat) (seen : Is) : Prop := ∃ sn : By, Box w g 70 (sn.map bc).toArray ∧ sn.length = 256 ∧ ∀ x : Nat, x < 256 → sn.getD x false = decide ((x : Int) ∈ seen)
theorem SnI.below {w w' : World} {g : Nat} {seen : Is} (h : SnI w g seen) (hb : Below w.heap.size w w') : SnI w' g seen := by
  obtain ⟨sn, h1, h2⟩ := h
  exact ⟨sn, h1.below hb, h2⟩
theorem SnI.cell {w : World} {g : Nat} {seen : Is} (h : SnI w g seen) {x : Nat} (hx : x < 256) : w.cell? ⟨g, x, none⟩ = some (.bool (decide ((x : Int) ∈ seen))) ∧ w.frozen? ⟨g, x, none⟩ = false := by
  obtain ⟨sn, h1, h2, h3⟩ := h
  refine ⟨?_, h1.frozen x⟩
  rw [h1.cell, List.getElem?_toArray, List.getElem?_map, ← h3 x hx, List.getD_eq_getElem?_getD, List.getElem?_eq_getElem (by omega)]
  rfl
theorem SnI.put {w : World} {g : Nat} {seen : Is} (h : SnI w g seen) {x : Nat} (hx : x < 256) : SnI (w.setCell ⟨g, x, none⟩ (.bool true)) g (seen ++ [(x : Int)]) := by
  obtain ⟨sn, h1, h2, h3⟩ := h
  refine ⟨sn.set x true, ?_, by rw [List.length_set]; exact h2, fun y hy => ?_⟩
  · have := h1.put x (.bool true)
    rw [List.setIfInBounds_toArray] at this
    rw [bc_set]; exact this
  · rw [List.getD_eq_getElem?_getD, List.getElem?_set]
    by_cases e : x = y
    · subst e; rw [if_pos rfl, if_pos (by omega)]; simp
    · rw [if_neg e, ← List.getD_eq_getElem?_getD, h3 y hy]
      have : ¬ (y : Int) = (x : Int) := by omega
      simp [this]
theorem SnI.new (w : World) : SnI (w.alloc (.cells ((List.replicate 256 false).map bc).toArray 70)) w.heap.size [] :=
  ⟨List.replicate 256 false, Box.new w 70 _, List.length_replicate, fun x hx => by rw [List.getD_eq_getElem?_getD, List.getElem?_replicate, if_pos hx]; simp⟩
theorem SnI.far {w : World} {g b i : Nat} {seen : Is} {u : Value} (h : SnI w g seen) (hne : g ≠ b) : SnI (w.setCell ⟨b, i, none⟩ u) g seen := by
  obtain ⟨sn, h1, h2⟩ := h
  exact ⟨sn, h1.far hne u, h2⟩
theorem frs_snoc {L : List Ca} {k : Nat} (h : k < L.length) : frs (L.take (k + 1)) = frs (L.take k) ++ [(cAt L k).1] := by
  unfold frs; rw [cAt_snoc h, List.map_append]; rfl
theorem zc70 : Try.zeroCells70 = ((List.replicate 256 false).map bc).toArray := by kernel_rfl
set_option maxRecDepth 100000 in
set_option maxHeartbeats 8000000 in
theorem ca_any (A : Option Addr) (cp : Nat) (S : Sc) (n : Int) (Af : Option Addr) (cf : Nat) (fs : Is) (w : World) (hr : RdC w A S.sl) (hn : S.sl.length ≤ 1000) (hln : ∀ k, k < S.sl.length → (us S k).length ≤ 1000) (hnr : n ≤ 9223372036854775807 ∧ -9223372036854775808 ≤ n) (hf : Bi w Af fs) (hfl : fs.length ≤ 1000) : Calls Try.prog 39 #[.agg #[.int .i64 S.ob, .slice A S.sl.length cp], .int .i64 n, .slice Af fs.length cf] w fun e w' => e = .returned (.int .i64 (alE S n fs)) ∧ Below w.heap.size w w' := by
  have HR := hide (fun w' (h : Below w.heap.size w w') => hr.below h)
  have HF := hide (fun w' (h : Below w.heap.size w w') => hf.below h)
  have K := hide (bal (brefl w) (.cells #[.int .i64 S.ob, .slice A S.sl.length cp] 24))
  have CK := hide (fun w' (h : Below w.heap.size w w') => check_any A cp S w' (hr.below h) (by omega) (fun k hk => by have := hln k hk; omega))
  have ND := hide (fun w' (h : Below w.heap.size w w') => need_any A cp S n w' (hr.below h) hnr (by omega) (fun k hk => by have := hln k hk; omega))
  have X := hide (Box.new w 24 #[.int .i64 S.ob, .slice A S.sl.length cp])
  obtain ⟨g2, hg2⟩ : ∃ g, g = w.heap.size := ⟨_, rfl⟩
  have HG2 := hide hg2
  rw [← hg2] at X
  clear hg2 hr hf
  by_cases h0 : chE S = 0
  rotate_left 1
  · have E := hide (show alE S n fs = chE S from if_neg h0)
    rw [E.out]
    have h2 : (chE S != 0) = true := bne_iff_ne.2 h0
    clear E h0
    generalize chE S = ce at *
    go_enter Try.func39, Try.ntmps39
    go_upto_region 1 with fail
    rw [← HG2.out]
    generalize (w.alloc (.cells #[.int .i64 S.ob, .slice A S.sl.length cp] 24)) = w1 at *
    obtain ⟨x0, x1⟩ : w1.cell? ⟨g2, 0, none⟩ = some (.int .i64 S.ob) ∧ w1.cell? ⟨g2, 1, none⟩ = some (.slice A S.sl.length cp) := ⟨X.out.cell 0, X.out.cell 1⟩
    go_wp2_with fail
    refine (CK.out _ K.out).mono ?_
    rintro e w2 ⟨rfl, hb⟩
    have K2 := btrans K.out hb
    clear hb x0 x1
    go_wp2
    go_ret
    exact ⟨rfl, K2⟩
  rw [h0] at CK
  have V := hide (vd_of h0)
  have E0 := hide (show alE S n fs = if n < 1 ∨ (fs.length : Int) ≠ ndN S n then 1 else feE (frs S.sl) fs from if_pos h0)
  obtain ⟨res, hres⟩ : ∃ r, r = alE S n fs := ⟨_, rfl⟩
  rw [← hres]
  have R1 := hide (fun (h : n < 1) => show res = 1 by rw [hres, E0.out, if_pos (Or.inl h)])
  have R2 := hide (fun (h : (fs.length : Int) ≠ ndN S n) => show res = 1 by rw [hres, E0.out, if_pos (Or.inr h)])
  have R3 := hide (fun (h1 : ¬ n < 1) (h : (fs.length : Int) = ndN S n) => show res = feE (frs S.sl) fs by rw [hres, E0.out, if_neg (fun q => by rcases q with q | q; exact h1 q; exact q h)])
  clear E0 h0 hres
  go_enter Try.func39, Try.ntmps39
  go_upto_region 1 with fail
  rw [← HG2.out]
  generalize (w.alloc (.cells #[.int .i64 S.ob, .slice A S.sl.length cp] 24)) = w1 at *
  obtain ⟨x0, x1⟩ : w1.cell? ⟨g2, 0, none⟩ = some (.int .i64 S.ob) ∧ w1.cell? ⟨g2, 1, none⟩ = some (.slice A S.sl.length cp) := ⟨X.out.cell 0, X.out.cell 1⟩
  go_wp2_with fail
  refine (CK.out _ K.out).mono ?_
  rintro e w2 ⟨rfl, hb⟩
  replace K := hide (btrans K.out hb)
  replace X := hide (X.out.below hb)
  clear hb x0 x1 CK
  by_cases h1 : n < 1
  · have R := hide (R1.out h1)
    have hd : decide (n < 1) = true := decide_eq_true h1
    clear ND R1 R2 R3
    go_wp2
    go_ret
    exact ⟨ret_int R.out.symm, K.out⟩
  have hd : decide (n < 1) = false := decide_eq_false h1
  obtain ⟨nd, hnd⟩ : ∃ z, z = ndN S n := ⟨_, rfl⟩
  rw [← hnd] at ND R2 R3
  clear hnd
  obtain ⟨x0, x1⟩ : w2.cell? ⟨g2, 0, none⟩ = some (.int .i64 S.ob) ∧ w2.cell? ⟨g2, 1, none⟩ = some (.slice A S.sl.length cp) := ⟨X.out.cell 0, X.out.cell 1⟩
  by_cases h2 : (fs.length : Int) = nd
  rotate_left 1
  · have R := hide (R2.out h2)
    clear R1 R2 R3
    have hd2 : ((fs.length : Int) != nd) = true := bne_iff_ne.2 h2
    go_wp2_with fail
    refine (ND.out _ K.out).mono ?_
    rintro e w3 ⟨rfl, hb⟩
    have K3 := btrans K.out hb
    clear hb x0 x1
    go_wp2
    go_ret
    exact ⟨ret_int R.out.symm, K3⟩
  have R := hide (R3.out (by omega) h2)
  clear R1 R2 R3
  have hd2 : ((fs.length : Int) != nd) = false := by rw [h2]; simp
  go_wp2_with fail
  refine (ND.out _ K.out).mono ?_
  rintro e w3 ⟨rfl, hb⟩
  replace K := hide (btrans K.out hb)
  replace X := hide (X.out.below hb)
  clear hb x0 x1 ND
  go_upto_region 6 with fail
  have SN := hide (SnI.new w3)
  have M := bal (brefl w3) (.cells ((List.replicate 256 false).map bc).toArray 70)
  have HG8 := hide (show g2 ≠ w3.heap.size from Nat.ne_of_lt X.out.lt)
  have HGW := hide (show w.heap.size ≤ w3.heap.size from K.out.size)
  replace K := hide (btrans K.out M)
  replace X := hide (X.out.below M)
  clear M
  go_upto_region 7 with fail
  rw [zc70]
  obtain ⟨g8, hg8⟩ : ∃ g, g = w3.heap.size := ⟨_, rfl⟩
  rw [← hg8] at SN HG8 HGW ⊢
  clear hg8
  generalize w3.alloc (.cells ((List.replicate 256 false).map bc).toArray 70) = w4 at *
  obtain ⟨x0, x1⟩ : w4.cell? ⟨g2, 0, none⟩ = some (.int .i64 S.ob) ∧ w4.cell? ⟨g2, 1, none⟩ = some (.slice A S.sl.length cp) := ⟨X.out.cell 0, X.out.cell 1⟩
  have FS := hide V.out.fr
  go_upto_region 8 with fail
  clear x0 x1
  go_loopw [31] (fun c wr => ∃ k : Nat, k ≤ S.sl.length ∧ c = .int .i64 k ∧ Hid (Below w.heap.size w wr) ∧ Hid (SnI wr g8 (frs (S.sl.take k)))) (fun c _ => S.sl.length - (intOf c).toNat)
  case atStart => exact ⟨0, Nat.zero_le _, rfl, K, SN⟩
  case round =>
    clear K SN X
    obtain ⟨k, hk, rfl, K, SN⟩ := hrel
    by_cases hlt : k < S.sl.length
    · have hl2 : (k : Int) < (S.sl.length : Int) := by omega
      have hk0 : (0 : Int) ≤ (k : Int) := by omega
      obtain ⟨b, off, vu, eA, hbl, y0, y1, hu⟩ := (HR.out w (brefl w)).cells K.out hlt
      subst eA
      obtain ⟨hf0, hf1⟩ := FS.out k hlt
      have TS := hide (frs_snoc hlt)
      obtain ⟨f, hfe⟩ : ∃ f, f = fr S k := ⟨_, rfl⟩
      change wr.cell? _ = some (.int .i64 (fr S k)) at y0
      change Hid (_ = _ ++ [fr S k]) at TS
      rw [← hfe] at y0 hf0 hf1 TS
      obtain ⟨x, rfl⟩ : ∃ x : Nat, f = x := ⟨f.toNat, by omega⟩
      have hx : x < 256 := by omega
      obtain ⟨Au, cu, ev, _, _⟩ := hu
      subst ev
      generalize (cAt S.sl k).2.length = lu at *
      clear hfe
      have M := bal (brefl wr) (.cells #[.int .i64 (x : Int), .slice Au lu cu] 52)
      have X4 := hide (Box.new wr 52 #[.int .i64 (x : Int), .slice Au lu cu])
      have K4 := hide (btrans K.out M)
      have SN4 := hide (SN.out.below M)
      clear M K SN
      go_upto_region 10 with fail
      obtain ⟨g10, hg10⟩ : ∃ g, g = wr.heap.size := ⟨_, rfl⟩
      rw [← hg10] at X4 ⊢
      clear hg10 y0 y1
      generalize wr.alloc (.cells #[.int .i64 (x : Int), .slice Au lu cu] 52) = wx at *
      have z0 : wx.cell? ⟨g10, 0, none⟩ = some (.int .i64 (x : Int)) := X4.out.cell 0
      obtain ⟨z1, z2⟩ := SN4.out.cell hx
      have SN5 := hide (SN4.out.put hx)
      rw [← TS.out] at SN5
      have K5 := hide (bset K4.out (p := ⟨g8, x, none⟩) HGW.out (.bool true))
      clear SN4 K4 X4 TS
      go_wp2
      go_roundw
      case rel => first | exact ⟨k + 1, by omega, by go_num, K5, SN5⟩ | exact ⟨k + 1, by omega, by omega, SN5⟩
      case measure => simp [intOf]; omega
    · obtain rfl : k = S.sl.length := by omega
      rw [List.take_length] at SN
      go_wp2
      have RL := hide (show res = feE (frs S.sl ++ fs.take 0) (fs.drop 0) by rw [R.out]; simp)
      have SN0 := hide (show SnI wr g8 (frs S.sl ++ fs.take 0) by rw [List.take_zero, List.append_nil]; exact SN.out)
      clear SN R V FS
      go_loopw [41] (fun c wr => ∃ q : Nat, q ≤ fs.length ∧ c = .int .i64 q ∧ Hid (Below w.heap.size w wr) ∧ Hid (SnI wr g8 (frs S.sl ++ fs.take q)) ∧ Hid (res = feE (frs S.sl ++ fs.take q) (fs.drop q))) (fun c _ => fs.length - (intOf c).toNat)
      case atStart => exact ⟨0, Nat.zero_le _, rfl, K, SN0, RL⟩
      case round =>
        clear K SN0 RL
        obtain ⟨q, hq, rfl, K, SN, RL⟩ := hrel
        by_cases hlq : q < fs.length
        · have hl2 : (q : Int) < (fs.length : Int) := by omega
          obtain ⟨b, off, eA, hbl, y0⟩ := (HF.out w (brefl w)).cells K.out hlq
          subst eA
          have TS := hide (show fs.take (q + 1) = fs.take q ++ [fs.getD q 0] from take_snocI hlq)
          have DS := hide (show fs.drop q = fs.getD q 0 :: fs.drop (q + 1) by rw [List.drop_eq_getElem_cons hlq, List.getD_eq_getElem?_getD, List.getElem?_eq_getElem hlq]; rfl)
          generalize fs.getD q 0 = f at *
          have RC := hide (RL.out.trans (congrArg _ DS.out))
          have IF := hide (fun W => isfr_any f W)
          by_cases hf : 0 ≤ f ∧ f < 256
          · rw [decide_eq_true hf] at IF
            obtain ⟨x, rfl⟩ : ∃ x : Nat, f = x := ⟨f.toNat, by omega⟩
            have hx : x < 256 := by omega
            have hf1 : (x : Int) < 256 := by omega
            obtain ⟨z1, z2⟩ := SN.out.cell hx
            by_cases hm : (x : Int) ∈ frs S.sl ++ fs.take q
            · rw [decide_eq_true hm] at z1
              have R7 := hide (show res = 7 by rw [RC.out]; unfold feE; rw [if_pos hf, if_pos hm])
              clear hm RC RL TS DS
              go_wp2_with fail
              refine (IF.out _).mono ?_
              rintro e w5 ⟨rfl, rfl⟩
              go_wp2
              go_ret
              exact ⟨ret_int R7.out.symm, K.out⟩
            · rw [decide_eq_false hm] at z1
              have SN5 := hide (SN.out.put hx)
              rw [List.append_assoc, ← TS.out] at SN5
              have K5 := hide (bset K.out (p := ⟨g8, x, none⟩) HGW.out (.bool true))
              have R5 := hide (show res = feE (frs S.sl ++ fs.take (q + 1)) (fs.drop (q + 1)) by
                rw [RC.out, TS.out, ← List.append_assoc]
                show (if _ then _ else _) = _
                rw [if_pos hf, if_neg hm])
              clear hm RC RL TS DS K SN
              go_wp2_with fail
              refine (IF.out _).mono ?_
              rintro e w5 ⟨rfl, rfl⟩
              go_wp2
              go_roundw
              case rel => first | exact ⟨q + 1, by omega, by go_num, K5, SN5, R5⟩ | exact ⟨q + 1, by omega, by omega, SN5, R5⟩
              case measure => simp [intOf]; omega
          · rw [decide_eq_false hf] at IF
            have R2' := hide (show res = 2 by rw [RC.out]; unfold feE; rw [if_neg hf])
            clear hf RC RL TS DS
            go_wp2_with fail
            refine (IF.out _).mono ?_
            rintro e w5 ⟨rfl, rfl⟩
            go_wp2
            go_ret
            exact ⟨ret_int R2'.out.symm, K.out⟩
        · obtain rfl : q = fs.length := by omega
          have R0 := hide (show res = 0 by rw [RL.out, List.drop_length]; rfl)
          clear RL
          go_wp2
          go_ret
          exact ⟨ret_int R0.out.symm, K.out⟩
end Go.Proofs.Ytncjicggolmofaa.Sb
