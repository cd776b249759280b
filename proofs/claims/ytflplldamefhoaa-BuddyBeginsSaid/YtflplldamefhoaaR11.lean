import Derived.Test.YtflplldamefhoaaR7
namespace Go.Proofs.Ytflplldamefhoaa.Bd
open Go Go.RowKit
set_option linter.unusedVariables false
set_option maxRecDepth 100000 in
set_option maxHeartbeats 8000000 in
theorem rnew_any (p : Pm) (hpr : Pr p) (w : World) : Calls Try.prog 19 #[.int .i64 p.nd, .int .i64 p.kd, .int .i64 p.st, .int .i64 p.ct, .int .i64 p.mn] w (RE (nwE p) p (fun x => p.st ≤ x ∧ x < p.st + p.ct) w) := by
  unfold RE
  obtain ⟨er, her⟩ : ∃ er, er = nwE p := ⟨_, rfl⟩
  rw [← her]
  have HER := hide her
  obtain ⟨W0, hW0⟩ : ∃ W0, W0 = (w.alloc (.cells (znC p0 nv) 25)) := ⟨_, rfl⟩
  have K0 := hide (show Below w.heap.size w W0 by rw [hW0]; exact bal (brefl w) _)
  have Y := hide (show Box W0 w.heap.size 25 (znC p0 nv) by rw [hW0]; exact Box.new w 25 _)
  have PA := hide (fun w1 => rparams_any p nv hpr w1)
  have HPR := hide hpr
  clear her hpr
  go_enter Try.func19, Try.ntmps19
  go_upto_region 1 with fail
  rw [znC0, ← hW0]
  obtain ⟨g, hg⟩ : ∃ g, g = w.heap.size := ⟨_, rfl⟩
  rw [← hg] at Y ⊢
  have HG := hide hg
  have HS0 := hide (show W0.heap.size = g + 1 by rw [hW0, alloc_size', hg])
  clear hW0 hg
  go_upto_region 2 with (first | (refine wpList_store_row rfl 25 _ _ rfl W0.heap.size (znC p nv) rfl rfl 25 (znC p0 nv) (Box.new W0 25 _) (by kernel_rfl) rfl (one_zone (w := w) (ow_zero 0 w).rd) ?_))
  have e2 : (W0.alloc (.cells #[.int .i64 0, .int .i64 0, .int .i64 0, .int .i64 0, .int .i64 0, .slice none 0 0, .slice none 0 0, .slice none 0 0, .slice none 0 0, .slice none 0 0] 25)).setRow W0.heap.size (znC p nv) = W0.alloc (.cells (znC p nv) 25) := setRow_new W0 _ _ 25
  rw [e2]
  have M := bal (brefl W0) (.cells (znC p nv) 25)
  have Z := hide (Box.new W0 25 (znC p nv))
  replace Y := hide (Y.out.below M)
  replace K0 := hide (btrans K0.out M)
  rw [HS0.out] at Z ⊢
  generalize W0.alloc (.cells (znC p nv) 25) = W1 at *
  clear e2 M HS0
  by_cases hp : par p
  · rw [decide_eq_true hp] at PA
    have E0 := hide (show er = 0 by rw [HER.out]; unfold nwE; rw [if_pos hp])
    have HP := hide hp
    have hp2 := hp
    unfold par at hp2
    obtain ⟨n, hn⟩ : ∃ n : Nat, p.ct = (n : Int) := ⟨p.ct.toNat, by omega⟩
    obtain ⟨a, ha⟩ : ∃ a : Nat, p.st = (a : Int) := ⟨p.st.toNat, by omega⟩
    have HN := hide hn
    have HA := hide ha
    have HB := hide (show a + n ≤ 256 by omega)
    obtain ⟨zz, hzz⟩ : ∃ zz : Array Value, zz = madeCells #[.int .i64 0] 256 := ⟨_, rfl⟩
    have HZZ := hide hzz
    have hmk : ∀ w, (Instr.makeSlice 22 (.int .i64 256) (.int .i64 256)).run Try.prog w = .ok (.slice (some ⟨w.heap.size, 0, none⟩) 256 256) (w.alloc (.cells zz 3)) := fun w => by rw [hzz]; exact make256 w
    clear hp hp2 hn ha hzz
    go_upto_region 4 with (first | (refine wpList_load_row rfl 25 _ rfl (g + 1) rfl 25 (znC p nv) (0, 0) _ Z.out Try.underlying25 rfl (by kernel_rfl) ?_) | (go_at_call 45; refine (PA.out _).mono ?_; rintro e w1 ⟨rfl, hb⟩; replace K0 := hide (btrans K0.out hb); replace Z := hide (Z.out.below hb); replace Y := hide (Y.out.below hb); clear hb))
    have S := hide (show RI (w1.alloc (.cells zz 3)) w1.heap.size (setF a a (fun _ => 0)) by rw [HZZ.out]; exact RI.made w1 _ (fun x _ => by unfold setF; rw [if_neg (by omega)]))
    have M := bal (brefl w1) (.cells zz 3)
    have GX := hide (show g + 1 < w1.heap.size from Z.out.lt)
    replace K0 := hide (btrans K0.out M)
    replace Y := hide (Y.out.below M)
    replace Z := hide (Z.out.below M)
    clear M
    go_upto_region 5 with fail
    obtain ⟨gs, hgs⟩ : ∃ gs, gs = w1.heap.size := ⟨_, rfl⟩
    rw [← hgs] at S GX ⊢
    generalize w1.alloc (.cells zz 3) = w2 at *
    clear hmk hgs
    go_wp2
    go_loopw [14] (fun s wr => ∃ y : Nat, a ≤ y ∧ y ≤ a + n ∧ s = .int .i64 y ∧ Hid (RI wr gs (setF a y (fun _ => 0))) ∧ Hid (Box wr (g + 1) 25 (znC p nv)) ∧ Hid (Box wr g 25 (znC p0 nv)) ∧ Hid (Below w.heap.size w wr)) (fun s _ => 300 - (intOf s).toNat)
    case atStart => exact ⟨a, Nat.le_refl _, by omega, by rw [HA.out], S, Z, Y, K0⟩
    case round =>
      clear S Z Y K0
      obtain ⟨y, hy1, hy2, rfl, S, Z, Y, K0⟩ := hrel
      have ha := HA.out
      have hn := HN.out
      have hbb := HB.out
      by_cases hly : y < a + n
      · have hly' : (y : Int) < p.st + p.ct := by omega
        have hdl : decide ((y : Int) < p.st + p.ct) = true := decide_eq_true hly'
        have hy256 : y < 256 := by omega
        have hy256' : (y : Int) < 256 := by omega
        have hsum : -9223372036854775808 ≤ p.st + p.ct ∧ p.st + p.ct ≤ 9223372036854775807 := by omega
        have cell := S.out.cell hy256
        have frz := S.out.frozen y
        have Q2 := hide (show RI (wr.setCell ⟨gs, y, none⟩ (.int .i64 1)) gs (setF a (y + 1) (fun _ => 0)) from S.out.put y 1 (fun x hx => by
          unfold setF
          by_cases e : x = y
          · rw [if_pos e, if_pos (by omega)]
          · rw [if_neg e]
            by_cases h2 : a ≤ x ∧ x < y
            · rw [if_pos h2, if_pos (by omega)]
            · rw [if_neg h2, if_neg (by omega)]))
        have X2 := hide (Z.out.far (show g + 1 ≠ gs by have := GX.out; omega) (b := gs) (i := y) (.int .i64 1))
        have Y2 := hide (Y.out.far (show g ≠ gs by have := GX.out; omega) (b := gs) (i := y) (.int .i64 1))
        have K2 := hide (bset K0.out (p := ⟨gs, y, none⟩) (show w.heap.size ≤ gs by have := GX.out; rw [← HG.out]; omega) (.int .i64 1))
        clear S Z Y K0 ha hn hbb
        go_wp2
        go_roundw
        case rel => exact ⟨y + 1, by omega, by omega, by go_num, Q2, X2, Y2, K2⟩
        case measure => simp [intOf]; omega
      · have hly' : ¬ (y : Int) < p.st + p.ct := by omega
        have hdl : decide ((y : Int) < p.st + p.ct) = false := decide_eq_false hly'
        have hsum : -9223372036854775808 ≤ p.st + p.ct ∧ p.st + p.ct ≤ 9223372036854775807 := by omega
        have HYE := hide (show y = a + n by omega)
        have WI := hide (with_any p nv gs _ _ HP.out S.out (fun x hx => by unfold setF; split; omega; exact Nat.zero_le _))
        unfold ZC at WI
        clear ha hn hbb hly hy1 hy2
        go_wp2_with (first | (refine wpList_load_row rfl 25 _ rfl (g + 1) rfl 25 (znC p nv) (0, 0) _ Z.out Try.underlying25 rfl (by kernel_rfl) ?_) | (go_at_call 50; refine WI.out.mono ?_; rintro e w5 ⟨v1, L1, rfl, o1, C1, hb⟩) | (refine wpList_store_row rfl 25 _ _ rfl g (znC p v1) rfl rfl 25 (znC p0 nv) (Y.out.below hb) (by kernel_rfl) rfl (one_zone o1.rd) ?_))
        have KP := kp_row (cs := znC p v1) (Y.out.below hb) (Nat.le_of_eq HG.out.symm)
        refine ret_z2 Try.results19 rfl rfl rfl (box_row (Y.out.below hb)) ⟨p, v1, L1, by rw [E0.out], (o1.mono K0.out.size).kp KP (by decide), (K0.out.trans (hb.mono K0.out.size)).trans KP.below, ⟨fun _ => ⟨rfl, ?_⟩, fun h => absurd E0.out h⟩⟩
        refine C1.congr fun x => ?_
        rw [sc_set (by have := HYE.out; have := HB.out; omega)]
        rw [HA.out, HN.out, HYE.out]
        constructor
        · rintro (⟨m, _, _, h⟩ | h)
          · exact absurd h (Nat.lt_irrefl 0)
          · omega
        · intro h
          exact .inr (by omega)
  · rw [decide_eq_false hp] at PA
    have E0 := hide (show er = 2 by rw [HER.out]; unfold nwE; rw [if_neg hp])
    clear hp
    go_wp2_with (first | (refine wpList_load_row rfl 25 _ rfl (g + 1) rfl 25 (znC p nv) (0, 0) _ Z.out Try.underlying25 rfl (by kernel_rfl) ?_) | (go_at_call 45; refine (PA.out _).mono ?_; rintro e w1 ⟨rfl, hb⟩; replace K0 := hide (btrans K0.out hb); replace Y := hide (Y.out.below hb)) | (refine wpList_store_row rfl 25 _ _ rfl g (znC p0 nv) rfl rfl 25 (znC p0 nv) Y.out (by kernel_rfl) rfl (one_zone (w := w) (ow_zero 0 w).rd) ?_))
    have KP := kp_row (cs := znC p0 nv) Y.out (Nat.le_of_eq HG.out.symm)
    refine ret_z2 Try.results19 rfl rfl rfl (box_row Y.out) ⟨p0, nv, nf, by rw [E0.out], ow_zero _ _, K0.out.trans KP.below, ⟨fun h => absurd (E0.out.symm.trans h) (by decide), fun _ => ⟨rfl, rfl⟩⟩⟩
end Go.Proofs.Ytflplldamefhoaa.Bd
