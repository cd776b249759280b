import Derived.Test.YtncjicggolmofaaL3
import Derived.Test.YtncjicggolmofaaV6
import Derived.Laws.Tables
namespace Go.Proofs.Ytncjicggolmofaa.Sb
open Go Go.RowKit
set_option linter.unusedVariables false
set_option linter.unusedSimpArgs false
theorem box_row24 {w : World} {g : Nat} {cs old : Array Value} (h : Box w g 24 old) : Box (w.setRow g cs) g 24 cs := setRow_heap w g old cs 24 (0, 0) h
theorem kp_row24 {B g : Nat} {w : World} {cs old : Array Value} (h : Box w g 24 old) (hB : B ≤ g) : Kp B 24 w (w.setRow g cs) := by
  refine ⟨⟨rfl, rfl, rfl, by simp, fun k hk => ?_⟩, fun k hk hn => ?_⟩
  · exact setRow_other w g k cs (by omega)
  · by_cases e : k = g
    · subst e; exact absurd h (hn old)
    · exact setRow_other w g k cs e
theorem box_row_far24 {w : World} {g b : Nat} {T : TypeId} {cs ds : Array Value} (h : Box w b T ds) (hne : b ≠ g) : Box (w.setRow g cs) b T ds := (setRow_other w g b cs hne).trans h
theorem Ob.bd {S : Sc} (V : Vd S) {m : Nat} (hm : S.ob = m) {o : Int} (h : Ob m S.sl o) : 0 ≤ o ∧ o ≤ 9000 := by
  obtain ⟨i, hi, j, hj, _, e⟩ := h
  have hb := V.ob
  have hf : 0 ≤ (cAt S.sl i).1 ∧ (cAt S.sl i).1 < 256 := V.fr i hi
  have a : 0 ≤ (cAt S.sl i).1 * (m : Int) := Int.mul_nonneg hf.1 (by omega)
  have b : (cAt S.sl i).1 * (m : Int) ≤ 255 * (m : Int) := Int.mul_le_mul_of_nonneg_right (by omega) (by omega)
  omega
theorem Bi.at {w : World} {A : Option Addr} {l : Is} {k : Nat} (h : Bi w A l) (hk : k < l.length) : ∃ b off, A = some ⟨b, off, none⟩ ∧ w.cell? ⟨b, off + k, none⟩ = some (.int .i64 (l.getD k 0)) := by
  obtain ⟨b, off, e, _, hc⟩ := h.cells (brefl w) hk
  exact ⟨b, off, e, hc⟩
set_option maxRecDepth 100000 in
set_option maxHeartbeats 16000000 in
theorem law_back (A : Option Addr) (cp : Nat) (S : Sc) (n : Int) (Af : Option Addr) (cf : Nat) (fs : Is) (w : World) (hr : RdC w A S.sl) (hn : S.sl.length ≤ 9223372036854775807) (hln : ∀ k, k < S.sl.length → (us S k).length ≤ 9223372036854775807) (hnr : n ≤ 9223372036854775807 ∧ -9223372036854775808 ≤ n) (hq : Bi w Af fs) (hqn : fs.length ≤ 9223372036854775807) : Calls Try.prog 10 #[.agg #[.int .i64 S.ob, .slice A S.sl.length cp], .int .i64 n, .slice Af fs.length cf] w fun e w' => e = .returned (.bool true) ∧ Below w.heap.size w w' := by
  have AWK := hide (fun w => awake_any w)
  have K := hide (bal (brefl w) (.cells #[.int .i64 S.ob, .slice A S.sl.length cp] 24))
  have X := hide (Box.new w 24 #[.int .i64 S.ob, .slice A S.sl.length cp])
  have FW := hide (fun w' (h : Below w.heap.size w w') => few_any A cp S w' (hr.below h) hn)
  obtain ⟨g2, hg2⟩ : ∃ g, g = w.heap.size := ⟨_, rfl⟩
  have HG2 := hide hg2
  rw [← hg2] at X
  clear hg2
  have HR := hide (fun w' (h : Below w.heap.size w w') => hr.below h)
  have HQ := hide (fun w' (h : Below w.heap.size w w') => hq.below h)
  clear hr hq
  go_enter Try.func10, Try.ntmps10
  go_upto_region 1 with fail
  rw [← HG2.out]
  generalize (w.alloc (.cells #[.int .i64 S.ob, .slice A S.sl.length cp] 24)) = w1 at *
  obtain ⟨x0, x1⟩ : w1.cell? ⟨g2, 0, none⟩ = some (.int .i64 S.ob) ∧ w1.cell? ⟨g2, 1, none⟩ = some (.slice A S.sl.length cp) := ⟨X.out.cell 0, X.out.cell 1⟩
  go_wp2_with fail
  refine (FW.out _ K.out).mono ?_
  rintro e w2 ⟨rfl, hb⟩
  replace K := hide (btrans K.out hb)
  replace X := hide (X.out.below hb)
  clear hb x0 x1 FW
  cases hf : fw S
  · go_wp2_with fail
    refine (AWK.out _).mono ?_
    rintro e w9 ⟨rfl, hb⟩
    replace K := hide (btrans K.out hb)
    clear hb
    go_wp2
    go_ret
    exact ⟨rfl, K.out⟩
  have hfw : S.sl.length ≤ 20 ∧ ∀ k, k < S.sl.length → (us S k).length ≤ 40 := of_decide_eq_true hf
  by_cases h40 : 40 < fs.length
  · have hd : decide ((40 : Int) < (fs.length : Int)) = true := decide_eq_true (by omega)
    have hd2 : (40 : Int) < (fs.length : Int) := by omega
    go_wp2_with fail
    refine (AWK.out _).mono ?_
    rintro e w9 ⟨rfl, hb⟩
    replace K := hide (btrans K.out hb)
    clear hb
    go_wp2
    go_ret
    exact ⟨rfl, K.out⟩
  have hd : decide ((40 : Int) < (fs.length : Int)) = false := decide_eq_false (by omega)
  have AL := hide (fun w' (h : Below w.heap.size w w') => alloc_any A cp S n Af cf fs w' (HR.out w' h) (by omega) (fun k hk => by have := hfw.2 k hk; omega) hnr (HQ.out w' h) (by omega))
  unfold AlR at AL
  obtain ⟨x0, x1⟩ : w2.cell? ⟨g2, 0, none⟩ = some (.int .i64 S.ob) ∧ w2.cell? ⟨g2, 1, none⟩ = some (.slice A S.sl.length cp) := ⟨X.out.cell 0, X.out.cell 1⟩
  have HFW := hide hfw
  have H40 := hide h40
  clear hfw h40
  go_wp2_with fail
  refine (AL.out _ K.out).mono ?_
  rintro e w3 ⟨v, A3, c3, rfl, hD, hO, hb⟩
  obtain ⟨A4, c4, ev, _⟩ := hD.c.form
  subst ev
  replace K := hide (btrans K.out hb)
  replace X := hide (X.out.below hb)
  have RD := hide (show RdC w3 A4 (alL S n fs) from hD.c.rd)
  have BI := hide (show Bi w3 A3 (alI S n fs) from OwI.bi hO)
  have HC3 := hide (show (alI S n fs).length ≤ c3 from by obtain ⟨A9, c9, e9, h9⟩ := row_form hO; injection e9 with _ _ e9; omega)
  clear hb x0 x1 AL hD hO
  have HC3' := HC3
  by_cases h0 : alE S n fs = 0
  rotate_left 1
  · have hnz : (alE S n fs != 0) = true := bne_iff_ne.2 h0
    have M := bal (brefl w3) (.cells #[.int .i64 (alB S n fs), .slice A4 (alL S n fs).length c4] 24)
    replace K := hide (btrans K.out M)
    clear h0 M
    generalize alE S n fs = er at *
    go_wp2_with fail
    refine (AWK.out _).mono ?_
    rintro e w9 ⟨rfl, hb⟩
    replace K := hide (btrans K.out hb)
    clear hb
    go_wp2
    go_ret
    exact ⟨rfl, K.out⟩
  have hB : alB S n fs = S.ob := if_pos h0
  obtain ⟨f1, f2, f3, f4, f5⟩ := al_facts h0
  obtain ⟨q1, q2, q3, q4⟩ := al_frs h0
  have V := vd_of q4
  obtain ⟨m, hm⟩ : ∃ m : Nat, S.ob = m := ⟨S.ob.toNat, by have := V.ob; omega⟩
  have B0 := hide (Bk.start h0 hm)
  have hol := obj_len ⟨S.ob, alL S n fs⟩
  have HLI := hide (show (alI S n fs).length ≤ 8192 by omega)
  have HNEW := hide (show ∀ x, x ∈ alI S n fs → ¬ Ob m S.sl x from fun x hx c => by
    have e : obj S = ls S true S.sl.length := if_pos q4
    exact f4 x hx (by rw [e]; exact (ls_ob V hm).2 c))
  have HND := hide f3
  have HM := hide hm
  have HV := hide V
  have HQ2 := hide q2
  have HQ3 := hide q3
  rw [hB]
  rw [h0]
  clear f1 f2 f3 f4 f5 q1 q2 q3 q4 V hol hm hB h0
  obtain ⟨li, hli⟩ : ∃ l, l = alI S n fs := ⟨_, rfl⟩
  obtain ⟨tl, htl⟩ : ∃ l, l = alL S n fs := ⟨_, rfl⟩
  rw [← hli] at B0 HLI HNEW HND BI HC3
  rw [← htl] at B0 RD
  rw [← hli, ← htl]
  clear hli htl HC3'
  go_upto_region 4 with fail
  have HF3 := hide (HQ.out w3 K.out)
  have HR3 := hide (HR.out w3 K.out)
  have X7 := hide (Box.new w3 24 #[.int .i64 S.ob, .slice A4 tl.length c4])
  have M := bal (brefl w3) (.cells #[.int .i64 S.ob, .slice A4 tl.length c4] 24)
  replace RD := hide (RD.out.below M)
  have KB := hide M
  clear M
  obtain ⟨g7, hg7⟩ : ∃ g, g = w3.heap.size := ⟨_, rfl⟩
  have hb3 : ∀ W, Below g7 w3 W → Below w3.heap.size w3 W := fun W h => by rw [← hg7]; exact h
  have HGS : ∀ W, Below g7 w3 W → g7 ≤ W.heap.size := fun W h => by rw [hg7]; exact h.size
  rw [← hg7] at X7 KB
  rw [← hg7]
  clear hg7
  generalize w3.alloc (.cells #[.int .i64 S.ob, .slice A4 tl.length c4] 24) = w4 at *
  obtain ⟨i0, hi0, hz0, hz1, hz2⟩ := info_parts info3
  go_upto_region 8 with fail
  go_loopw [10, 11, 12, 13, 14] (fun vb vi _ _ _ wx => ∃ (k : Nat) (Al : Option Addr) (cl : Nat) (Ab : Option Addr) (cb : Nat) (L : List Ca) (bk : Is), vb = .slice Ab bk.length cb ∧ vi = .int .i64 k ∧ k ≤ li.length ∧ Hid (Below g7 w3 wx) ∧ Hid (Box wx g7 24 #[.int .i64 S.ob, .slice Al L.length cl]) ∧ Hid (RdC wx Al L) ∧ Hid (OwI g7 wx (.slice Ab bk.length cb) bk) ∧ Hid (Bk S m li fs k L bk)) (fun _ vi _ _ _ _ => li.length - (intOf vi).toNat)
  case atStart => exact ⟨0, A4, c4, none, 0, tl, [], rfl, rfl, Nat.zero_le _, KB, X7, RD, hide (ow_nil _ _), B0⟩
  case round =>
    clear KB X7 RD B0
    obtain ⟨k, Al, cl, Ab, cb, L, bk, rfl, rfl, hk, KB, X7, RD, OB, HBK⟩ := hrel
    by_cases hlk : k < li.length
    · have hl2 : (k : Int) < (li.length : Int) := by omega
      have hk8 : (k : Int) ≤ 8192 := by have := HLI.out; omega
      have hk0 : (0 : Int) ≤ (k : Int) := by omega
      obtain ⟨bi, oi, eA, hc⟩ := Bi.at (BI.out.below (hb3 _ KB.out)) hlk
      have hst := HBK.out.step HM.out HV.out HND.out HNEW.out hlk
      have ho : Ob m L (li.getD k 0) := (HBK.out.ob _).2 (.inr (by rw [List.drop_eq_getElem_cons hlk, List.getD_eq_getElem?_getD, List.getElem?_eq_getElem hlk]; exact List.mem_cons_self ..))
      have hob := Ob.bd (S := ⟨S.ob, L⟩) HBK.out.vd HM.out ho
      have hlen := HBK.out.vd.wf.len
      have h32 := fun k hk => HBK.out.vd.wf.l32 (k := k) hk
      have Y0 : ∀ W, Below g7 w3 W → W.cell? ⟨bi, oi + k, none⟩ = some (.int .i64 (li.getD k 0)) := fun W h => by
        obtain ⟨b', o', e', hc'⟩ := Bi.at (BI.out.below (hb3 _ h)) hlk
        rw [eA] at e'
        injection e' with e'
        injection e' with e1 e2
        subst e1 e2
        exact hc'
      subst eA
      generalize li.getD k 0 = o at *
      obtain ⟨st1, st2, st3⟩ := hst
      have FR := fun W (h : RdC W Al L) => free_any Al cl ⟨S.ob, L⟩ o W h (by omega) (fun k hk => by have := h32 k hk; omega) (by omega) (by omega)
      rw [st1, st2] at FR
      generalize fL ⟨S.ob, L⟩ o = T at *
      generalize fF ⟨S.ob, L⟩ o = f at *
      have HSt := hide st3
      dsimp only at FR
      replace FR := hide FR
      clear st1 st2 st3 ho hob hlen h32 hc
      go_upto_region 10 with fail
      have KD : Below wr.heap.size wr wr.drew := below_drewN (brefl _) 1
      replace KB := hide (KB.out.trans (KD.mono (HGS _ KB.out)))
      replace X7 := hide (X7.out.below KD)
      replace RD := hide (RD.out.below KD)
      replace OB := hide (row_below OB.out KD)
      clear KD
      refine wp_region_noPanic ?_
      refine wp_region_held_drew (S := (fun W => (W.cell? ⟨g7, 0, none⟩ = some (.int .i64 S.ob) ∧ W.cell? ⟨g7, 1, none⟩ = some (.slice Al L.length cl)) ∧ W.cell? ⟨bi, oi + k, none⟩ = some (.int .i64 o))) (by kernel_rfl) ?_ (fun hHeld => ?_)
      · exact ⟨⟨X7.out.cell 0, X7.out.cell 1⟩, Y0 _ KB.out⟩
      generalize wr.drew = wd at *
      refine wpAnyH_take (i := 0) (oi := ⟨some 42, _, _, _, _, _⟩) (v := ?_) rfl (by kernel_rfl) (by kernel_rfl) (by kernel_rfl) (fun _ _ _ h => h) (Or.inl ⟨by kernel_rfl, ?_⟩) (by assumption) ?_
      rotate_left 1
      · (intro w hSw; (try dsimp only at hSw); go_simp) <;> (with_reducible rfl)
      (try simp only [Act.put, List.setIfInBounds_toArray, List.set_cons_succ, List.set_cons_zero])
      refine wpAnyH_take (i := 1) (oi := ⟨some 43, _, _, _, _, _⟩) (v := ?_) rfl (by kernel_rfl) (by kernel_rfl) (by kernel_rfl) (fun _ _ _ h => h) (Or.inl ⟨by kernel_rfl, ?_⟩) (by assumption) ?_
      rotate_left 1
      · (intro w hSw; (try dsimp only at hSw); go_simp) <;> (with_reducible rfl)
      (try simp only [Act.put, List.setIfInBounds_toArray, List.set_cons_succ, List.set_cons_zero])
      refine wpAnyH_take (i := 2) (oi := ⟨some 44, _, _, _, _, _⟩) (v := ?_) rfl (by kernel_rfl) (by kernel_rfl) (by kernel_rfl) (fun _ _ _ h => h) (Or.inl ⟨by kernel_rfl, ?_⟩) (by assumption) ?_
      rotate_left 1
      · (intro w hSw; (try dsimp only at hSw); go_simp) <;> (with_reducible rfl)
      (try simp only [Act.put, List.setIfInBounds_toArray, List.set_cons_succ, List.set_cons_zero])
      refine wpAnyH_take (i := 3) (oi := ⟨some 45, _, _, _, _, _⟩) (v := ?_) rfl (by kernel_rfl) (by kernel_rfl) (by kernel_rfl) (fun _ _ _ h => h) (Or.inl ⟨by kernel_rfl, ?_⟩) (by assumption) ?_
      rotate_left 1
      · (intro w hSw; (try dsimp only at hSw); go_simp) <;> (with_reducible rfl)
      (try simp only [Act.put, List.setIfInBounds_toArray, List.set_cons_succ, List.set_cons_zero])
      refine wpAnyH_take (i := 4) (oi := ⟨some 46, _, _, _, _, _⟩) (v := ?_) rfl (by kernel_rfl) (by kernel_rfl) (by kernel_rfl) (fun _ _ _ h => h) (Or.inl ⟨by kernel_rfl, ?_⟩) (by assumption) ?_
      rotate_left 1
      · (intro w hSw; (try dsimp only at hSw); go_simp) <;> (with_reducible rfl)
      (try simp only [Act.put, List.setIfInBounds_toArray, List.set_cons_succ, List.set_cons_zero])
      refine wpAnyH_ready (rs := [5, 10]) (by kernel_rfl) (by simp) ?_
      refine AllReadyH.cons (o := ⟨some 47, _, _, _, _, _⟩) rfl (fun K' hK => ?_) ?_
      · go_simp
        refine (FR.out wd RD.out).mono ?_
        rintro e w5 ⟨v, rfl, hD, hb⟩
        obtain ⟨Av, cv, ev, _⟩ := hD.c.form
        subst ev
        have HD := hide (OwnD.mono hD (HGS _ KB.out))
        replace KB := hide (KB.out.trans (hb.mono (HGS _ KB.out)))
        replace X7 := hide (X7.out.below hb)
        replace RD := hide (RD.out.below hb)
        replace OB := hide (row_below OB.out hb)
        clear hb hD
        refine hK.out _ _ ?_ (fun hHeld => ?_)
        · exact ⟨⟨X7.out.cell 0, X7.out.cell 1⟩, Y0 _ KB.out⟩
        clear hK K'
        (try simp only [Act.put, List.setIfInBounds_toArray, List.set_cons_succ, List.set_cons_zero])
        refine wpAnyH_take (i := 6) (oi := ⟨some 41, _, _, _, _, _⟩) (v := ?_) rfl (by kernel_rfl) (by kernel_rfl) (by kernel_rfl) (fun _ _ _ h => h) (Or.inl ⟨by kernel_rfl, ?_⟩) (by assumption) ?_
        rotate_left 1
        · (intro w hSw; (try dsimp only at hSw); go_simp) <;> (with_reducible rfl)
        (try simp only [Act.put, List.setIfInBounds_toArray, List.set_cons_succ, List.set_cons_zero])
        refine wpAnyH_take (i := 7) (oi := ⟨some 48, _, _, _, _, _⟩) (v := ?_) rfl (by kernel_rfl) (by kernel_rfl) (by kernel_rfl) (fun _ _ _ h => h) (Or.inl ⟨by kernel_rfl, ?_⟩) (by assumption) ?_
        rotate_left 1
        · (intro w hSw; (try dsimp only at hSw); go_simp) <;> (with_reducible rfl)
        (try simp only [Act.put, List.setIfInBounds_toArray, List.set_cons_succ, List.set_cons_zero])
        refine wpAnyH_take (i := 8) (oi := ⟨some 49, _, _, _, _, _⟩) (v := ?_) rfl (by kernel_rfl) (by kernel_rfl) (by kernel_rfl) (fun _ _ _ h => h) (Or.inl ⟨by kernel_rfl, ?_⟩) (by assumption) ?_
        rotate_left 1
        · (intro w hSw; (try dsimp only at hSw); go_simp) <;> (with_reducible rfl)
        (try simp only [Act.put, List.setIfInBounds_toArray, List.set_cons_succ, List.set_cons_zero])
        refine wpAnyH_take (i := 9) (oi := ⟨some 50, _, _, _, _, _⟩) (v := ?_) rfl (by kernel_rfl) (by kernel_rfl) (by kernel_rfl) (fun _ _ _ h => h) (Or.inl ⟨by kernel_rfl, ?_⟩) (by assumption) ?_
        rotate_left 1
        · (intro w hSw; (try dsimp only at hSw); go_simp) <;> (with_reducible rfl)
        (try simp only [Act.put, List.setIfInBounds_toArray, List.set_cons_succ, List.set_cons_zero])
        refine wpAnyH_ready (rs := [10]) (by kernel_rfl) (by simp) ?_
        refine AllReadyH.cons (o := ⟨some 12, _, _, _, _, _⟩) rfl (fun K' hK => ?_) AllReadyH.nil
        go_simp
        have M := bal (brefl w5) (.cells #[.int .i64 0, .slice none 0 0] 24)
        have NX := hide (Box.new w5 24 #[.int .i64 0, .slice none 0 0])
        have GX := hide (show g7 ≤ w5.heap.size from HGS _ KB.out)
        have G7L := hide (show g7 < w5.heap.size from X7.out.lt)
        replace HD := hide (HD.out.below M)
        replace KB := hide (KB.out.trans (M.mono (HGS _ KB.out)))
        replace X7 := hide (X7.out.below M)
        replace RD := hide (RD.out.below M)
        replace OB := hide (row_below OB.out M)
        obtain ⟨gx, hgx⟩ : ∃ q, q = w5.heap.size := ⟨_, rfl⟩
        rw [← hgx] at NX GX G7L
        rw [← hgx]
        clear hgx
        generalize w5.alloc (.cells #[.int .i64 0, .slice none 0 0] 24) = w6 at *
        clear M
        refine hK.out _ _ ?_ (fun hHeld => ?_)
        · exact ⟨⟨X7.out.cell 0, X7.out.cell 1⟩, Y0 _ KB.out⟩
        clear hK K'
        (try simp only [Act.put, List.setIfInBounds_toArray, List.set_cons_succ, List.set_cons_zero])
        refine wpAnyH_ready (rs := [11]) (by kernel_rfl) (by simp) ?_
        refine AllReadyH.cons (o := ⟨none, _, _, _, _, _⟩) rfl (fun K' hK => ?_) AllReadyH.nil
        refine wp_store_row 24 _ _ rfl gx #[.int .i64 S.ob, .slice Av T.length cv] rfl rfl 24 _ NX.out (by kernel_rfl) rfl (by kernel_rfl) ?_
        have KP := kp_row24 (cs := #[.int .i64 S.ob, .slice Av T.length cv]) NX.out GX.out
        replace KB := hide (KB.out.trans KP.below)
        replace X7 := hide (box_row_far24 X7.out (by have := G7L.out; omega) (g := gx) (cs := #[.int .i64 S.ob, .slice Av T.length cv]))
        replace OB := hide (row_kp OB.out KP (by decide))
        replace HD := hide (HD.out.kp KP (by decide) (by decide))
        replace NX := hide (box_row24 (cs := #[.int .i64 S.ob, .slice Av T.length cv]) NX.out)
        obtain ⟨w7, hw7⟩ : ∃ q, q = w6.setRow gx #[.int .i64 S.ob, .slice Av T.length cv] := ⟨_, rfl⟩
        rw [← hw7] at KB X7 OB HD NX
        rw [← hw7]
        clear hw7 KP
        refine hK.out _ _ ?_ (fun hHeld => ?_)
        · exact ⟨⟨X7.out.cell 0, X7.out.cell 1⟩, Y0 _ KB.out⟩
        clear hK K'
        (try simp only [Act.put, List.setIfInBounds_toArray, List.set_cons_succ, List.set_cons_zero])
        refine wpAnyH_take (i := 12) (oi := ⟨some 13, _, _, _, _, _⟩) (v := ?_) rfl (by kernel_rfl) (by kernel_rfl) (by kernel_rfl) (fun _ _ _ h => h) (Or.inl ⟨by kernel_rfl, ?_⟩) (by assumption) ?_
        rotate_left 1
        · (intro w hSw; (try dsimp only at hSw); go_simp) <;> (with_reducible rfl)
        (try simp only [Act.put, List.setIfInBounds_toArray, List.set_cons_succ, List.set_cons_zero])
        refine wpAnyH_take (i := 13) (oi := ⟨some 14, _, _, _, _, _⟩) (v := ?_) rfl (by kernel_rfl) (by kernel_rfl) (by kernel_rfl) (fun _ _ _ h => h) (Or.inl ⟨by kernel_rfl, ?_⟩) (by assumption) ?_
        rotate_left 1
        · (intro w hSw; (try dsimp only at hSw); go_simp) <;> (with_reducible rfl)
        (try simp only [Act.put, List.setIfInBounds_toArray, List.set_cons_succ, List.set_cons_zero])
        refine wpAnyH_done (by kernel_rfl) ?_ _
        refine NoPanic.normal ?_
        clear hHeld FR
        go_upto_region 13 with fail
        rcases HSt.out with ⟨hf, hB⟩ | ⟨hf, hfb, hff, hB⟩
        · subst hf
          have HB2 := hide hB
          clear hB HSt
          obtain ⟨t0, t1⟩ : w7.cell? ⟨gx, 0, none⟩ = some (.int .i64 S.ob) ∧ w7.cell? ⟨gx, 1, none⟩ = some (.slice Av T.length cv) := ⟨NX.out.cell 0, NX.out.cell 1⟩
          have KP := kp_row24 (cs := #[.int .i64 S.ob, .slice Av T.length cv]) X7.out (Nat.le_refl g7)
          have KB2 := hide (KB.out.trans KP.below)
          have OB2 := hide (row_kp OB.out KP (by decide))
          have HD2 := hide ((HD.out.kp KP (by decide) (by decide)).c.rd)
          have X72 := hide (box_row24 (cs := #[.int .i64 S.ob, .slice Av T.length cv]) X7.out)
          clear KP
          go_wp2_with (refine wpList_store_row rfl 24 _ _ rfl g7 #[.int .i64 S.ob, .slice Av T.length cv] rfl rfl 24 _ X7.out (by kernel_rfl) rfl (by kernel_rfl) ?_)
          go_roundw
          case rel => exact ⟨k + 1, Av, cv, Ab, cb, T, bk, rfl, by go_num, by omega, KB2, X72, HD2, OB2, HB2⟩
          case measure => simp [intOf]; omega
        · have hfx : (f != -1) = true := bne_iff_ne.2 hf
          have HB2 := hide hB
          have H1 := hide (show Calls Try.prog 31 #[.slice Ab bk.length cb, .int .i64 f] w7 fun e w' => e = .returned (.bool false) ∧ w7 = w' from (has_any Ab cb bk f w7 (OwI.bi OB.out) (by have := HBK.out.len; have := HLI.out; omega)).mono (fun e w' h => ⟨by rw [h.1, decide_eq_false hfb], h.2⟩))
          have H2 := hide (show Calls Try.prog 31 #[.slice Af fs.length cf, .int .i64 f] w7 fun e w' => e = .returned (.bool true) ∧ w7 = w' from (has_any Af cf fs f w7 (HF3.out.below (hb3 _ KB.out)) (by have := H40.out; omega)).mono (fun e w' h => ⟨by rw [h.1, decide_eq_true hff], h.2⟩))
          obtain ⟨bk2, hbk2⟩ : ∃ q, q = bk ++ [f] := ⟨_, rfl⟩
          rw [← hbk2] at HB2
          have EH := hide hbk2
          clear hbk2
          clear hB HSt hfb hff hf
          go_wp2_with fail
          refine H1.out.mono ?_
          rintro e w8 ⟨rfl, rfl⟩
          go_wp2_with fail
          refine H2.out.mono ?_
          rintro e w8 ⟨rfl, rfl⟩
          clear H1 H2
          go_upto_region 16 with fail
          have M := bal (brefl w7) (.cells #[.int .i64 f] 3)
          have OA := hide (row_below OB.out M)
          have NB := hide (cell_one_new w7 (.int .i64 f) 3)
          have SA0 : g7 ≤ w7.heap.size := HGS _ KB.out
          have SA := hide (show g7 ≤ (w7.alloc (.cells #[.int .i64 f] 3)).heap.size by rw [alloc_size']; omega)
          have KA := hide (KB.out.trans (M.mono SA0))
          have SAx := SA0
          clear M OB KB SA0
          obtain ⟨l1, hl1⟩ : ∃ l1, l1 = bk := ⟨_, rfl⟩
          obtain ⟨m1, hm1⟩ : ∃ m1, m1 = l1.length := ⟨_, rfl⟩
          have hfl : m1 ≤ 10000 := by rw [hm1, hl1]; exact by have := HBK.out.len; have := HLI.out; omega
          rw [← hl1, ← hm1] at OA
          rw [← hl1] at EH
          rw [← hl1, ← hm1]
          have HLM := hide hm1
          clear hl1 hm1
          go_upto_region 17 with (at_builtin; refine wpList_append_own_at _ rfl (.tmp 64) (.tmp 66) 35 rfl g7 3 i0 _ 1 8 Try.underlying35 hi0 hz0 hz1 hz2 rfl (by omega) (.slice Ab m1 cb) m1 (l1.map ic) rfl OA.out ⟨w7.heap.size, 0, none⟩ 1 1 [.int .i64 f] rfl rfl NB.out (by intro u hu; rw [List.mem_singleton.1 hu]; rfl) (by simp only [maxLen]; omega) (by omega) SA.out ?_; intro v4 w4 hown4 hg4 _ hat4; obtain ⟨A4, cp4, ev4, _⟩ := row_form hown4; subst ev4)
          have e3 : (bk2).length = m1 + 1 := by rw [EH.out, List.length_append, ← HLM.out]; rfl
          have O := hide (show OwI g7 w4 (.slice A4 (m1 + 1) cp4) (bk2) by
            unfold OwI
            rw [e3, EH.out, List.map_append]
            exact hown4)
          have B4 := below_grown OA.out hg4 SA.out
          have KP2 := (Kp.of_below (T := 3) (bal (brefl w7) (.cells #[.int .i64 f] 3)) SAx).trans (Kp.grown OA.out hg4 (Nat.le_refl _) SA.out)
          replace X7 := hide (X7.out.kp KP2 (by decide))
          replace NX := hide (NX.out.kp KP2 (by decide))
          replace HD := hide (HD.out.kp KP2 (by decide) (by decide))
          clear KP2 SAx
          have K := hide (KA.out.trans B4)
          rw [← e3] at O ⊢
          clear B4 hown4 hg4 hat4 OA NB SA KA e3 hfl HLM
          have KB := K
          have OB := O
          obtain ⟨t0, t1⟩ : w4.cell? ⟨gx, 0, none⟩ = some (.int .i64 S.ob) ∧ w4.cell? ⟨gx, 1, none⟩ = some (.slice Av T.length cv) := ⟨NX.out.cell 0, NX.out.cell 1⟩
          have KP := kp_row24 (cs := #[.int .i64 S.ob, .slice Av T.length cv]) X7.out (Nat.le_refl g7)
          have KB2 := hide (KB.out.trans KP.below)
          have OB2 := hide (row_kp OB.out KP (by decide))
          have HD2 := hide ((HD.out.kp KP (by decide) (by decide)).c.rd)
          have X72 := hide (box_row24 (cs := #[.int .i64 S.ob, .slice Av T.length cv]) X7.out)
          clear KP
          go_wp2_with (refine wpList_store_row rfl 24 _ _ rfl g7 #[.int .i64 S.ob, .slice Av T.length cv] rfl rfl 24 _ X7.out (by kernel_rfl) rfl (by kernel_rfl) ?_)
          go_roundw
          case rel => exact ⟨k + 1, Av, cv, A4, cp4, T, bk2, rfl, by go_num, by omega, KB2, X72, HD2, OB2, HB2⟩
          case measure => simp [intOf]; omega
      refine AllReadyH.cons (o := ⟨some 12, _, _, _, _, _⟩) rfl (fun K' hK => ?_) AllReadyH.nil
      go_simp
      have M := bal (brefl wd) (.cells #[.int .i64 0, .slice none 0 0] 24)
      have NX := hide (Box.new wd 24 #[.int .i64 0, .slice none 0 0])
      have GX := hide (show g7 ≤ wd.heap.size from HGS _ KB.out)
      have G7L := hide (show g7 < wd.heap.size from X7.out.lt)
      replace KB := hide (KB.out.trans (M.mono (HGS _ KB.out)))
      replace X7 := hide (X7.out.below M)
      replace RD := hide (RD.out.below M)
      replace OB := hide (row_below OB.out M)
      obtain ⟨gx, hgx⟩ : ∃ q, q = wd.heap.size := ⟨_, rfl⟩
      rw [← hgx] at NX GX G7L
      rw [← hgx]
      clear hgx
      generalize wd.alloc (.cells #[.int .i64 0, .slice none 0 0] 24) = w5 at *
      clear M
      refine hK.out _ _ ?_ (fun hHeld => ?_)
      · exact ⟨⟨X7.out.cell 0, X7.out.cell 1⟩, Y0 _ KB.out⟩
      clear hK K'
      (try simp only [Act.put, List.setIfInBounds_toArray, List.set_cons_succ, List.set_cons_zero])
      refine wpAnyH_ready (rs := [5]) (by kernel_rfl) (by simp) ?_
      refine AllReadyH.cons (o := ⟨some 47, _, _, _, _, _⟩) rfl (fun K' hK => ?_) AllReadyH.nil
      go_simp
      refine (FR.out w5 RD.out).mono ?_
      rintro e w6 ⟨v, rfl, hD, hb⟩
      obtain ⟨Av, cv, ev, _⟩ := hD.c.form
      subst ev
      have NX' := hide (NX.out.below hb)
      clear NX
      have NX := NX'
      clear NX'
      have HD := hide (OwnD.mono hD (HGS _ KB.out))
      replace KB := hide (KB.out.trans (hb.mono (HGS _ KB.out)))
      replace X7 := hide (X7.out.below hb)
      replace RD := hide (RD.out.below hb)
      replace OB := hide (row_below OB.out hb)
      clear hb hD
      refine hK.out _ _ ?_ (fun hHeld => ?_)
      · exact ⟨⟨X7.out.cell 0, X7.out.cell 1⟩, Y0 _ KB.out⟩
      clear hK K'
      (try simp only [Act.put, List.setIfInBounds_toArray, List.set_cons_succ, List.set_cons_zero])
      refine wpAnyH_take (i := 6) (oi := ⟨some 41, _, _, _, _, _⟩) (v := ?_) rfl (by kernel_rfl) (by kernel_rfl) (by kernel_rfl) (fun _ _ _ h => h) (Or.inl ⟨by kernel_rfl, ?_⟩) (by assumption) ?_
      rotate_left 1
      · (intro w hSw; (try dsimp only at hSw); go_simp) <;> (with_reducible rfl)
      (try simp only [Act.put, List.setIfInBounds_toArray, List.set_cons_succ, List.set_cons_zero])
      refine wpAnyH_take (i := 7) (oi := ⟨some 48, _, _, _, _, _⟩) (v := ?_) rfl (by kernel_rfl) (by kernel_rfl) (by kernel_rfl) (fun _ _ _ h => h) (Or.inl ⟨by kernel_rfl, ?_⟩) (by assumption) ?_
      rotate_left 1
      · (intro w hSw; (try dsimp only at hSw); go_simp) <;> (with_reducible rfl)
      (try simp only [Act.put, List.setIfInBounds_toArray, List.set_cons_succ, List.set_cons_zero])
      refine wpAnyH_take (i := 8) (oi := ⟨some 49, _, _, _, _, _⟩) (v := ?_) rfl (by kernel_rfl) (by kernel_rfl) (by kernel_rfl) (fun _ _ _ h => h) (Or.inl ⟨by kernel_rfl, ?_⟩) (by assumption) ?_
      rotate_left 1
      · (intro w hSw; (try dsimp only at hSw); go_simp) <;> (with_reducible rfl)
      (try simp only [Act.put, List.setIfInBounds_toArray, List.set_cons_succ, List.set_cons_zero])
      refine wpAnyH_take (i := 9) (oi := ⟨some 50, _, _, _, _, _⟩) (v := ?_) rfl (by kernel_rfl) (by kernel_rfl) (by kernel_rfl) (fun _ _ _ h => h) (Or.inl ⟨by kernel_rfl, ?_⟩) (by assumption) ?_
      rotate_left 1
      · (intro w hSw; (try dsimp only at hSw); go_simp) <;> (with_reducible rfl)
      (try simp only [Act.put, List.setIfInBounds_toArray, List.set_cons_succ, List.set_cons_zero])
      refine wpAnyH_ready (rs := [11]) (by kernel_rfl) (by simp) ?_
      refine AllReadyH.cons (o := ⟨none, _, _, _, _, _⟩) rfl (fun K' hK => ?_) AllReadyH.nil
      refine wp_store_row 24 _ _ rfl gx #[.int .i64 S.ob, .slice Av T.length cv] rfl rfl 24 _ NX.out (by kernel_rfl) rfl (by kernel_rfl) ?_
      have KP := kp_row24 (cs := #[.int .i64 S.ob, .slice Av T.length cv]) NX.out GX.out
      replace KB := hide (KB.out.trans KP.below)
      replace X7 := hide (box_row_far24 X7.out (by have := G7L.out; omega) (g := gx) (cs := #[.int .i64 S.ob, .slice Av T.length cv]))
      replace OB := hide (row_kp OB.out KP (by decide))
      replace HD := hide (HD.out.kp KP (by decide) (by decide))
      replace NX := hide (box_row24 (cs := #[.int .i64 S.ob, .slice Av T.length cv]) NX.out)
      obtain ⟨w7, hw7⟩ : ∃ q, q = w6.setRow gx #[.int .i64 S.ob, .slice Av T.length cv] := ⟨_, rfl⟩
      rw [← hw7] at KB X7 OB HD NX
      rw [← hw7]
      clear hw7 KP
      refine hK.out _ _ ?_ (fun hHeld => ?_)
      · exact ⟨⟨X7.out.cell 0, X7.out.cell 1⟩, Y0 _ KB.out⟩
      clear hK K'
      (try simp only [Act.put, List.setIfInBounds_toArray, List.set_cons_succ, List.set_cons_zero])
      refine wpAnyH_take (i := 12) (oi := ⟨some 13, _, _, _, _, _⟩) (v := ?_) rfl (by kernel_rfl) (by kernel_rfl) (by kernel_rfl) (fun _ _ _ h => h) (Or.inl ⟨by kernel_rfl, ?_⟩) (by assumption) ?_
      rotate_left 1
      · (intro w hSw; (try dsimp only at hSw); go_simp) <;> (with_reducible rfl)
      (try simp only [Act.put, List.setIfInBounds_toArray, List.set_cons_succ, List.set_cons_zero])
      refine wpAnyH_take (i := 13) (oi := ⟨some 14, _, _, _, _, _⟩) (v := ?_) rfl (by kernel_rfl) (by kernel_rfl) (by kernel_rfl) (fun _ _ _ h => h) (Or.inl ⟨by kernel_rfl, ?_⟩) (by assumption) ?_
      rotate_left 1
      · (intro w hSw; (try dsimp only at hSw); go_simp) <;> (with_reducible rfl)
      (try simp only [Act.put, List.setIfInBounds_toArray, List.set_cons_succ, List.set_cons_zero])
      refine wpAnyH_done (by kernel_rfl) ?_ _
      refine NoPanic.normal ?_
      clear hHeld FR
      go_upto_region 13 with fail
      rcases HSt.out with ⟨hf, hB⟩ | ⟨hf, hfb, hff, hB⟩
      · subst hf
        have HB2 := hide hB
        clear hB HSt
        obtain ⟨t0, t1⟩ : w7.cell? ⟨gx, 0, none⟩ = some (.int .i64 S.ob) ∧ w7.cell? ⟨gx, 1, none⟩ = some (.slice Av T.length cv) := ⟨NX.out.cell 0, NX.out.cell 1⟩
        have KP := kp_row24 (cs := #[.int .i64 S.ob, .slice Av T.length cv]) X7.out (Nat.le_refl g7)
        have KB2 := hide (KB.out.trans KP.below)
        have OB2 := hide (row_kp OB.out KP (by decide))
        have HD2 := hide ((HD.out.kp KP (by decide) (by decide)).c.rd)
        have X72 := hide (box_row24 (cs := #[.int .i64 S.ob, .slice Av T.length cv]) X7.out)
        clear KP
        go_wp2_with (refine wpList_store_row rfl 24 _ _ rfl g7 #[.int .i64 S.ob, .slice Av T.length cv] rfl rfl 24 _ X7.out (by kernel_rfl) rfl (by kernel_rfl) ?_)
        go_roundw
        case rel => exact ⟨k + 1, Av, cv, Ab, cb, T, bk, rfl, by go_num, by omega, KB2, X72, HD2, OB2, HB2⟩
        case measure => simp [intOf]; omega
      · have hfx : (f != -1) = true := bne_iff_ne.2 hf
        have HB2 := hide hB
        have H1 := hide (show Calls Try.prog 31 #[.slice Ab bk.length cb, .int .i64 f] w7 fun e w' => e = .returned (.bool false) ∧ w7 = w' from (has_any Ab cb bk f w7 (OwI.bi OB.out) (by have := HBK.out.len; have := HLI.out; omega)).mono (fun e w' h => ⟨by rw [h.1, decide_eq_false hfb], h.2⟩))
        have H2 := hide (show Calls Try.prog 31 #[.slice Af fs.length cf, .int .i64 f] w7 fun e w' => e = .returned (.bool true) ∧ w7 = w' from (has_any Af cf fs f w7 (HF3.out.below (hb3 _ KB.out)) (by have := H40.out; omega)).mono (fun e w' h => ⟨by rw [h.1, decide_eq_true hff], h.2⟩))
        obtain ⟨bk2, hbk2⟩ : ∃ q, q = bk ++ [f] := ⟨_, rfl⟩
        rw [← hbk2] at HB2
        have EH := hide hbk2
        clear hbk2
        clear hB HSt hfb hff hf
        go_wp2_with fail
        refine H1.out.mono ?_
        rintro e w8 ⟨rfl, rfl⟩
        go_wp2_with fail
        refine H2.out.mono ?_
        rintro e w8 ⟨rfl, rfl⟩
        clear H1 H2
        go_upto_region 16 with fail
        have M := bal (brefl w7) (.cells #[.int .i64 f] 3)
        have OA := hide (row_below OB.out M)
        have NB := hide (cell_one_new w7 (.int .i64 f) 3)
        have SA0 : g7 ≤ w7.heap.size := HGS _ KB.out
        have SA := hide (show g7 ≤ (w7.alloc (.cells #[.int .i64 f] 3)).heap.size by rw [alloc_size']; omega)
        have KA := hide (KB.out.trans (M.mono SA0))
        have SAx := SA0
        clear M OB KB SA0
        obtain ⟨l1, hl1⟩ : ∃ l1, l1 = bk := ⟨_, rfl⟩
        obtain ⟨m1, hm1⟩ : ∃ m1, m1 = l1.length := ⟨_, rfl⟩
        have hfl : m1 ≤ 10000 := by rw [hm1, hl1]; exact by have := HBK.out.len; have := HLI.out; omega
        rw [← hl1, ← hm1] at OA
        rw [← hl1] at EH
        rw [← hl1, ← hm1]
        have HLM := hide hm1
        clear hl1 hm1
        go_upto_region 17 with (at_builtin; refine wpList_append_own_at _ rfl (.tmp 64) (.tmp 66) 35 rfl g7 3 i0 _ 1 8 Try.underlying35 hi0 hz0 hz1 hz2 rfl (by omega) (.slice Ab m1 cb) m1 (l1.map ic) rfl OA.out ⟨w7.heap.size, 0, none⟩ 1 1 [.int .i64 f] rfl rfl NB.out (by intro u hu; rw [List.mem_singleton.1 hu]; rfl) (by simp only [maxLen]; omega) (by omega) SA.out ?_; intro v4 w4 hown4 hg4 _ hat4; obtain ⟨A4, cp4, ev4, _⟩ := row_form hown4; subst ev4)
        have e3 : (bk2).length = m1 + 1 := by rw [EH.out, List.length_append, ← HLM.out]; rfl
        have O := hide (show OwI g7 w4 (.slice A4 (m1 + 1) cp4) (bk2) by
          unfold OwI
          rw [e3, EH.out, List.map_append]
          exact hown4)
        have B4 := below_grown OA.out hg4 SA.out
        have KP2 := (Kp.of_below (T := 3) (bal (brefl w7) (.cells #[.int .i64 f] 3)) SAx).trans (Kp.grown OA.out hg4 (Nat.le_refl _) SA.out)
        replace X7 := hide (X7.out.kp KP2 (by decide))
        replace NX := hide (NX.out.kp KP2 (by decide))
        replace HD := hide (HD.out.kp KP2 (by decide) (by decide))
        clear KP2 SAx
        have K := hide (KA.out.trans B4)
        rw [← e3] at O ⊢
        clear B4 hown4 hg4 hat4 OA NB SA KA e3 hfl HLM
        have KB := K
        have OB := O
        obtain ⟨t0, t1⟩ : w4.cell? ⟨gx, 0, none⟩ = some (.int .i64 S.ob) ∧ w4.cell? ⟨gx, 1, none⟩ = some (.slice Av T.length cv) := ⟨NX.out.cell 0, NX.out.cell 1⟩
        have KP := kp_row24 (cs := #[.int .i64 S.ob, .slice Av T.length cv]) X7.out (Nat.le_refl g7)
        have KB2 := hide (KB.out.trans KP.below)
        have OB2 := hide (row_kp OB.out KP (by decide))
        have HD2 := hide ((HD.out.kp KP (by decide) (by decide)).c.rd)
        have X72 := hide (box_row24 (cs := #[.int .i64 S.ob, .slice Av T.length cv]) X7.out)
        clear KP
        go_wp2_with (refine wpList_store_row rfl 24 _ _ rfl g7 #[.int .i64 S.ob, .slice Av T.length cv] rfl rfl 24 _ X7.out (by kernel_rfl) rfl (by kernel_rfl) ?_)
        go_roundw
        case rel => exact ⟨k + 1, Av, cv, A4, cp4, T, bk2, rfl, by go_num, by omega, KB2, X72, HD2, OB2, HB2⟩
        case measure => simp [intOf]; omega
    · obtain rfl : k = li.length := by omega
      obtain ⟨e1, e2⟩ := HBK.out.fin HM.out HV.out HQ2.out HQ3.out
      have SM := hide (fun W (h1 : RdC W A S.sl) (h2 : RdC W Al L) => (same_any A Al cp cl S ⟨S.ob, L⟩ W h1 h2 (by omega) (by have := HBK.out.vd.wf.len; omega) (fun k hk => by have := HFW.out.2 k hk; omega) (fun k hk => by have := HBK.out.vd.wf.l32 (k := k) hk; omega)).mono (fun e w' h => (show e = .returned (.bool true) ∧ Below W.heap.size W w' from ⟨by rw [h.1, decide_eq_true ⟨rfl, e1.symm⟩], h.2⟩)))
      rw [e2]
      have XX := X.out.below (hb3 _ KB.out)
      obtain ⟨x0, x1⟩ : wr.cell? ⟨g2, 0, none⟩ = some (.int .i64 S.ob) ∧ wr.cell? ⟨g2, 1, none⟩ = some (.slice A S.sl.length cp) := ⟨XX.cell 0, XX.cell 1⟩
      obtain ⟨z0, z1⟩ : wr.cell? ⟨g7, 0, none⟩ = some (.int .i64 S.ob) ∧ wr.cell? ⟨g7, 1, none⟩ = some (.slice Al L.length cl) := ⟨X7.out.cell 0, X7.out.cell 1⟩
      have R1 := hide (HR3.out.below (hb3 _ KB.out))
      have R2 := RD
      replace K := hide (btrans K.out (hb3 _ KB.out))
      clear e1 e2 XX
      go_wp2_with fail
      refine (SM.out _ R1.out R2.out).mono ?_
      rintro e w8 ⟨rfl, hb⟩
      replace K := hide (btrans K.out hb)
      clear hb x0 x1 z0 z1
      go_wp2_with fail
      refine (AWK.out _).mono ?_
      rintro e w9 ⟨rfl, hb⟩
      replace K := hide (btrans K.out hb)
      clear hb
      go_wp2
      go_ret
      exact ⟨rfl, K.out⟩
end Go.Proofs.Ytncjicggolmofaa.Sb
