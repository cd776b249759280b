import Derived.Test.YtflplldamefhoaaMath6
import Derived.Deep.MidRow
namespace Go.Proofs.Ytflplldamefhoaa.Bd
open Go Go.RowKit
set_option linter.unusedVariables false
def w5 (w : World) (g : Nat) : World := w.setCells g 5 [.slice none 0 0, .slice none 0 0, .slice none 0 0, .slice none 0 0, .slice none 0 0]
theorem w5_eq (w : World) (g : Nat) : w5 w g = ((((w.setCell ⟨g, 5, none⟩ (.slice none 0 0)).setCell ⟨g, 6, none⟩ (.slice none 0 0)).setCell ⟨g, 7, none⟩ (.slice none 0 0)).setCell ⟨g, 8, none⟩ (.slice none 0 0)).setCell ⟨g, 9, none⟩ (.slice none 0 0) := rfl
theorem w5_box {w : World} {g : Nat} {p : Pm} {v : Nat → Value} (h : Box w g 25 (znC p v)) : Box (w5 w g) g 25 (znC p nv) := by
  rw [w5_eq]
  exact ((((h.put 5 _).put 6 _).put 7 _).put 8 _).put 9 _
theorem w5_far {w : World} {g b : Nat} {t : TypeId} {cs : Array Value} (h : Box w b t cs) (hne : b ≠ g) : Box (w5 w g) b t cs := by
  rw [w5_eq]
  exact ((((h.far hne _).far hne _).far hne _).far hne _).far hne _
theorem w5_below {a w : World} {g : Nat} (h : Below a.heap.size a w) (hg : a.heap.size ≤ g) : Below a.heap.size a (w5 w g) := by
  rw [w5_eq]
  exact bset (bset (bset (bset (bset h hg _) hg _) hg _) hg _) hg _
theorem w5_there {w : World} {g : Nat} {p : Pm} {v : Nat → Value} (h : Box w g 25 (znC p v)) : w.there g 5 5 := fun j hj => by
  refine ⟨?_, h.frozen _⟩
  rw [h.cell]
  match j, hj with
  | 0, _ => rfl
  | 1, _ => rfl
  | 2, _ => rfl
  | 3, _ => rfl
  | 4, _ => rfl
set_option maxRecDepth 100000 in
set_option maxHeartbeats 8000000 in
theorem build_any (p : Pm) (v : Nat → Value) (L : Fl) (A : Option Addr) (c : Nat) (fs : Is) (w : World) (hpr : Pr p) (hr : RdZ w v L) (hb : Bi w A fs) (hn : fs.length ≤ 300) (hc : fs.length ≤ c) (hw : ∀ f ∈ fs, i64r f) : Calls Try.prog 21 #[.agg (znC p v), .slice A fs.length c] w (ZE (bdE p fs) p (fun x => Fst fs fs.length x) w) := by
  unfold ZE
  obtain ⟨er, her⟩ : ∃ er, er = bdE p fs := ⟨_, rfl⟩
  rw [← her]
  have HER := hide her
  obtain ⟨W0, hW0⟩ : ∃ W0, W0 = (w.alloc (.cells (znC p v) 25)).alloc (.cells (znC p0 nv) 25) := ⟨_, rfl⟩
  have K0 := hide (show Below w.heap.size w W0 by rw [hW0]; exact bal (bal (brefl w) _) _)
  have X := hide (show Box W0 w.heap.size 25 (znC p v) by rw [hW0]; exact (Box.new w 25 _).more _)
  have Y := hide (show Box W0 (w.heap.size + 1) 25 (znC p0 nv) by rw [hW0]; exact Box.new2 w _ 25 _)
  have PA := hide (fun w1 => params_any p v hpr w1)
  have HRD := hide hr
  have HBI := hide hb
  have HLN := hide hn
  have HW := hide hw
  obtain ⟨g, hg⟩ : ∃ g, g = w.heap.size := ⟨_, rfl⟩
  rw [← hg] at X Y
  have HG := hide hg
  clear her hpr hr hb hn hw hc
  by_cases hp : par p
  · rw [decide_eq_true hp] at PA
    have HP := hide hp
    clear hp
    go_enter Try.func21, Try.ntmps21
    go_upto_region 1 with fail
    rw [znC0, ← hW0, ← hg]
    clear hW0 hg
    go_upto_region 3 with (first | (refine wpList_load_row rfl 25 _ rfl g rfl 25 (znC p v) (0, 0) _ X.out Try.underlying25 rfl (by kernel_rfl) ?_) | (go_at_call 41; refine (PA.out _).mono ?_; rintro e w1 ⟨rfl, hb⟩; replace X := hide (X.out.below hb); replace Y := hide (Y.out.below hb); replace K0 := hide (K0.out.trans (hb.mono K0.out.size)); clear hb))
    go_upto_region 4 with (first | (refine wpList_load_row rfl 25 _ rfl g rfl 25 (znC p v) (0, 0) _ X.out Try.underlying25 rfl (by kernel_rfl) ?_) | (refine wpList_store_row rfl 25 _ _ rfl w1.heap.size (znC p v) rfl rfl 25 (znC p0 nv) (Box.new w1 25 _) (by kernel_rfl) rfl (one_zone (HRD.out.below K0.out)) ?_))
    have e2 : (w1.alloc (.cells #[.int .i64 0, .int .i64 0, .int .i64 0, .int .i64 0, .int .i64 0, .slice none 0 0, .slice none 0 0, .slice none 0 0, .slice none 0 0, .slice none 0 0] 25)).setRow w1.heap.size (znC p v) = w1.alloc (.cells (znC p v) 25) := setRow_new w1 _ _ 25
    rw [e2]
    have M := bal (brefl w1) (.cells (znC p v) 25)
    have Z := hide (Box.new w1 25 (znC p v))
    have GZ := hide (show g + 1 < w1.heap.size from Y.out.lt)
    replace X := hide (X.out.below M)
    replace Y := hide (Y.out.below M)
    replace K0 := hide (btrans K0.out M)
    obtain ⟨gz, hgz⟩ : ∃ gz, gz = w1.heap.size := ⟨_, rfl⟩
    rw [← hgz] at Z GZ ⊢
    generalize w1.alloc (.cells (znC p v) 25) = w2 at *
    clear e2 M hgz
    go_upto_region 5 with (refine wpList_store_mid rfl 23 _ _ rfl gz 5 #[.slice none 0 0, .slice none 0 0, .slice none 0 0, .slice none 0 0, .slice none 0 0] rfl rfl (w5_there Z.out) (by kernel_rfl) (by kernel_rfl) ?_)
    replace Z := hide (w5_box Z.out)
    replace X := hide (w5_far X.out (show g ≠ gz by have := GZ.out; omega))
    replace Y := hide (w5_far Y.out (show g + 1 ≠ gz by have := GZ.out; omega))
    replace K0 := hide (w5_below K0.out (show w.heap.size ≤ gz by have := GZ.out; rw [← HG.out]; omega))
    have O := hide (ow_zero gz (w5 w2 gz))
    have EW := hide (show w2.setCells gz 5 [.slice none 0 0, .slice none 0 0, .slice none 0 0, .slice none 0 0, .slice none 0 0] = w5 w2 gz from rfl)
    rw [EW.out]
    clear EW
    generalize w5 w2 gz = w3 at *
    clear PA
    go_wp2
    go_loopw [18] (fun a wr => ∃ (i : Nat) (v' : Nat → Value) (L' : Fl), i ≤ fs.length ∧ a = .int .i64 i ∧ Hid (Box wr gz 25 (znC p v')) ∧ Hid (OwZ gz wr v' L') ∧ Hid (Vd p L') ∧ Hid (∀ x, InS L' x ↔ Fst fs i x) ∧ Hid (scn p fs i = 0) ∧ Hid (Asc fs i) ∧ Hid (Box wr g 25 (znC p v)) ∧ Hid (Box wr (g + 1) 25 (znC p0 nv)) ∧ Hid (Below w.heap.size w wr)) (fun a _ => fs.length - (intOf a).toNat)
    case atStart => exact ⟨0, nv, nf, Nat.zero_le _, rfl, Z, O, hide (vd_nf p), hide (fun x => ⟨fun h => absurd h (in_nf x), fun h => absurd h (fst_zero fs x)⟩), hide rfl, hide (asc_zero fs), X, Y, K0⟩
    case round =>
      clear Z O X Y K0
      obtain ⟨i, v', L', hi, rfl, Z, O, V, S, SN, AS, X, Y, K0⟩ := hrel
      have hlen := HLN.out
      by_cases hlt : i < fs.length
      · have hi2 : (i : Int) < fs.length := by omega
        have hdl : decide ((i : Int) < (fs.length : Int)) = true := decide_eq_true hi2
        obtain ⟨b, off, eA, hbl, c0⟩ := (HBI.out.below K0.out) (List.length_pos_iff.1 (by omega))
        subst eA
        obtain ⟨fi, hfi⟩ : ∃ fi, fi = fs.getD i 0 := ⟨_, rfl⟩
        have HFI := hide hfi
        have cell := c0 i hlt
        rw [← hfi] at cell
        have hfi64 : i64r fi := by rw [hfi]; exact HW.out _ (getD_mem hlt)
        have BL := hide (fun w1 => block_any p v fi 0 (by omega) hfi64 HP.out w1)
        have bcell := hide (show ∀ (m : Nat) (w4 : World), m < fs.length → Below w.heap.size w w4 → w4.cell? ⟨b, off + m, none⟩ = some (.int .i64 (fs.getD m 0)) from fun m w4 hm h4 => by
          have := (HBI.out.below h4) (List.length_pos_iff.1 (show 0 < fs.length by omega))
          obtain ⟨b', off', e', _, c'⟩ := this
          injection e' with e'; injection e' with e1 e2
          subst e1 e2
          exact c' m hm)
        clear hfi hfi64
        by_cases hblk : blk p 0 fi
        · rw [decide_eq_true hblk] at BL
          rcases Nat.eq_zero_or_pos i with h0 | h0
          · subst h0
            rw [Nat.add_zero] at cell
            have JN := hide (fun w4 (Z4 : Box w4 gz 25 (znC p v')) (O4 : OwZ gz w4 v' L') => join_any gz gz p v' L' fi 0 (by omega) w4 HP.out Z4 O4 (Nat.le_refl _) V.out hblk (fun x hx => by rw [dn0] at hx; rw [S.out, hx, HFI.out]; exact asc_new AS.out (fun h => absurd h (Nat.lt_irrefl 0))))
            have SC2 := hide (scn_ok SN.out (show blk p 0 (fs.getD (0) 0) by rw [← HFI.out]; exact hblk) (fun h => absurd h (Nat.lt_irrefl 0)))
            have AS2 := hide (asc_succ AS.out (fun h => absurd h (Nat.lt_irrefl 0)))
            clear SN AS V hblk c0 bcell
            go_wp2_with (first | (refine wpList_load_row rfl 25 _ rfl g rfl 25 (znC p v) (0, 0) _ X.out Try.underlying25 rfl (by kernel_rfl) ?_) | (go_at_call 51; refine (BL.out _).mono ?_; rintro e w4 ⟨rfl, hb⟩; replace X := hide (X.out.below hb); replace Y := hide (Y.out.below hb); replace Z := hide (Z.out.below hb); replace O := hide (O.out.below hb); replace K0 := hide (K0.out.trans (hb.mono K0.out.size)); skip; clear hb))
            refine (JN.out _ Z.out O.out).mono ?_
            rintro e w5 ⟨rfl, ⟨L2, v2, Z2, O2, V2, S2⟩, hb5⟩
            have S3 := hide (show ∀ x, InS L2 x ↔ Fst fs (0 + 1) x from fun x => by rw [S2, S.out, dn0, fst_succ (m := 0), HFI.out])
            have Y3 := hide (box_lt Y.out (show g + 1 < gz from GZ.out) hb5)
            have X3 := hide (box_lt X.out (show g < gz by have := GZ.out; omega) hb5)
            have K3 := hide (K0.out.trans (hb5.mono (show w.heap.size ≤ gz by have := GZ.out; rw [← HG.out]; omega)))
            have Z3 := hide Z2
            have O3 := hide O2
            have V3 := hide V2
            clear Z2 O2 V2 S2 hb5 S Y X K0 Z O JN
            go_wp2
            go_roundw
            case rel => exact ⟨0 + 1, v2, L2, by omega, by go_num, Z3, O3, V3, S3, SC2, AS2, X3, Y3, K3⟩
            case measure => simp [intOf]; omega
          · obtain ⟨j, rfl⟩ : ∃ j, i = j + 1 := ⟨i - 1, by omega⟩
            obtain ⟨fj, hfj⟩ : ∃ fj, fj = fs.getD j 0 := ⟨_, rfl⟩
            have HFJ := hide hfj
            have hj2 : (j : Int) < fs.length := by omega
            clear hfj
            by_cases hle : fi ≤ fj
            · have dle : decide (fi ≤ fj) = true := decide_eq_true hle
              have E2 := hide (show er = 10 by
                have e := scn_ord SN.out (show blk p 0 (fs.getD (j + 1) 0) by rw [← HFI.out]; exact hblk) (by omega) (show fs.getD (j + 1) 0 ≤ fs.getD j 0 by rw [← HFI.out, ← HFJ.out]; exact hle)
                rw [HER.out, scn_last (m := j + 1 + 1) (by rw [e]; decide) HP.out (by omega), e])
              clear hblk c0 SN AS V S
              go_wp2_with (first | (refine wpList_load_row rfl 25 _ rfl g rfl 25 (znC p v) (0, 0) _ X.out Try.underlying25 rfl (by kernel_rfl) ?_) | (go_at_call 51; refine (BL.out _).mono ?_; rintro e w4 ⟨rfl, hb⟩; replace X := hide (X.out.below hb); replace Y := hide (Y.out.below hb); replace Z := hide (Z.out.below hb); replace O := hide (O.out.below hb); replace K0 := hide (K0.out.trans (hb.mono K0.out.size)); have cj := bcell.out j _ (by omega) K0.out; rw [← HFJ.out] at cj; clear hb) | (refine wpList_store_row rfl 25 _ _ rfl (g + 1) (znC p0 nv) rfl rfl 25 (znC p0 nv) Y.out (by kernel_rfl) rfl (one_zone (w := w) (ow_zero 0 w).rd) ?_))
              have KP := kp_row (cs := znC p0 nv) Y.out (show w.heap.size ≤ g + 1 by rw [← HG.out]; omega)
              refine ret_z2 Try.results21 rfl rfl rfl (box_row Y.out) ⟨p0, nv, nf, by rw [E2.out], ow_zero _ _, K0.out.trans KP.below, ⟨fun h => absurd (E2.out.symm.trans h) (by decide), fun _ => ⟨rfl, rfl⟩⟩⟩
            · have dle : decide (fi ≤ fj) = false := decide_eq_false hle
              have JN := hide (fun w4 (Z4 : Box w4 gz 25 (znC p v')) (O4 : OwZ gz w4 v' L') => join_any gz gz p v' L' fi 0 (by omega) w4 HP.out Z4 O4 (Nat.le_refl _) V.out hblk (fun x hx => by rw [dn0] at hx; rw [S.out, hx, HFI.out]; exact asc_new AS.out (fun _ => show fs.getD j 0 < fs.getD (j + 1) 0 by rw [← HFI.out, ← HFJ.out]; omega)))
              have SC2 := hide (scn_ok SN.out (show blk p 0 (fs.getD (j + 1) 0) by rw [← HFI.out]; exact hblk) (fun _ => show fs.getD j 0 < fs.getD (j + 1) 0 by rw [← HFI.out, ← HFJ.out]; omega))
              have AS2 := hide (asc_succ AS.out (fun _ => show fs.getD j 0 < fs.getD (j + 1) 0 by rw [← HFI.out, ← HFJ.out]; omega))
              clear SN AS V hblk c0 h0
              go_wp2_with (first | (refine wpList_load_row rfl 25 _ rfl g rfl 25 (znC p v) (0, 0) _ X.out Try.underlying25 rfl (by kernel_rfl) ?_) | (go_at_call 51; refine (BL.out _).mono ?_; rintro e w4 ⟨rfl, hb⟩; replace X := hide (X.out.below hb); replace Y := hide (Y.out.below hb); replace Z := hide (Z.out.below hb); replace O := hide (O.out.below hb); replace K0 := hide (K0.out.trans (hb.mono K0.out.size)); have cj := bcell.out j _ (by omega) K0.out; rw [← HFJ.out] at cj; clear hb))
              refine (JN.out _ Z.out O.out).mono ?_
              rintro e w5 ⟨rfl, ⟨L2, v2, Z2, O2, V2, S2⟩, hb5⟩
              have S3 := hide (show ∀ x, InS L2 x ↔ Fst fs (j + 1 + 1) x from fun x => by rw [S2, S.out, dn0, fst_succ (m := j + 1), HFI.out])
              have Y3 := hide (box_lt Y.out (show g + 1 < gz from GZ.out) hb5)
              have X3 := hide (box_lt X.out (show g < gz by have := GZ.out; omega) hb5)
              have K3 := hide (K0.out.trans (hb5.mono (show w.heap.size ≤ gz by have := GZ.out; rw [← HG.out]; omega)))
              have Z3 := hide Z2
              have O3 := hide O2
              have V3 := hide V2
              clear Z2 O2 V2 S2 hb5 S Y X K0 Z O JN
              go_wp2
              go_roundw
              case rel => exact ⟨j + 1 + 1, v2, L2, by omega, by go_num, Z3, O3, V3, S3, SC2, AS2, X3, Y3, K3⟩
              case measure => simp [intOf]; omega
        · rw [decide_eq_false hblk] at BL
          have E2 := hide (show er = 2 by
            have e := scn_out SN.out (show ¬ blk p 0 (fs.getD i 0) by rw [← HFI.out]; exact hblk)
            rw [HER.out, scn_last (m := i + 1) (by rw [e]; decide) HP.out (by omega), e])
          clear hblk bcell c0 SN AS V S
          go_wp2_with (first | (refine wpList_load_row rfl 25 _ rfl g rfl 25 (znC p v) (0, 0) _ X.out Try.underlying25 rfl (by kernel_rfl) ?_) | (go_at_call 51; refine (BL.out _).mono ?_; rintro e w4 ⟨rfl, hb⟩; replace X := hide (X.out.below hb); replace Y := hide (Y.out.below hb); replace Z := hide (Z.out.below hb); replace O := hide (O.out.below hb); replace K0 := hide (K0.out.trans (hb.mono K0.out.size)); skip; clear hb) | (refine wpList_store_row rfl 25 _ _ rfl (g + 1) (znC p0 nv) rfl rfl 25 (znC p0 nv) Y.out (by kernel_rfl) rfl (one_zone (w := w) (ow_zero 0 w).rd) ?_))
          have KP := kp_row (cs := znC p0 nv) Y.out (show w.heap.size ≤ g + 1 by rw [← HG.out]; omega)
          refine ret_z2 Try.results21 rfl rfl rfl (box_row Y.out) ⟨p0, nv, nf, by rw [E2.out], ow_zero _ _, K0.out.trans KP.below, ⟨fun h => absurd (E2.out.symm.trans h) (by decide), fun _ => ⟨rfl, rfl⟩⟩⟩
      · obtain rfl : i = fs.length := by omega
        have one := one_zone (p := p) O.out.rd
        have hdl : decide (((fs.length : Nat) : Int) < (fs.length : Int)) = false := decide_eq_false (by omega)
        have E0 := hide (show er = 0 by rw [HER.out]; unfold bdE; rw [if_pos HP.out]; exact SN.out)
        clear hlen hlt hi
        go_wp2_with (first | (refine wpList_load_row rfl 25 _ rfl gz rfl 25 (znC p v') (0, 0) _ Z.out Try.underlying25 rfl (by kernel_rfl) ?_) | (refine wpList_store_row rfl 25 _ _ rfl (g + 1) (znC p v') rfl rfl 25 (znC p0 nv) Y.out (by kernel_rfl) rfl one ?_))
        have KP := kp_row (cs := znC p v') Y.out (show w.heap.size ≤ g + 1 by rw [← HG.out]; omega)
        refine ret_z2 Try.results21 rfl rfl rfl (box_row Y.out) ⟨p, v', L', by rw [E0.out], (O.out.mono (by have := GZ.out; rw [← HG.out]; omega)).kp KP (by decide), K0.out.trans KP.below, ⟨fun _ => ⟨rfl, V.out, fun x => S.out x⟩, fun h => absurd E0.out h⟩⟩
  · rw [decide_eq_false hp] at PA
    have E0 := hide (show er = 2 by rw [HER.out]; unfold bdE; rw [if_neg hp])
    clear hp
    go_enter Try.func21, Try.ntmps21
    go_upto_region 1 with fail
    rw [znC0, ← hW0, ← hg]
    clear hW0 hg
    go_wp2_with (first | (refine wpList_load_row rfl 25 _ rfl g rfl 25 (znC p v) (0, 0) _ X.out Try.underlying25 rfl (by kernel_rfl) ?_) | (go_at_call 41; refine (PA.out _).mono ?_; rintro e w1 ⟨rfl, hb⟩; replace X := hide (X.out.below hb); replace Y := hide (Y.out.below hb); replace K0 := hide (K0.out.trans (hb.mono K0.out.size)); clear hb) | (refine wpList_store_row rfl 25 _ _ rfl (g + 1) (znC p0 nv) rfl rfl 25 (znC p0 nv) Y.out (by kernel_rfl) rfl (one_zone (w := w) (ow_zero 0 w).rd) ?_))
    have KP := kp_row (cs := znC p0 nv) Y.out (show w.heap.size ≤ g + 1 by rw [← HG.out]; omega)
    refine ret_z2 Try.results21 rfl rfl rfl (box_row Y.out) ⟨p0, nv, nf, by rw [E0.out], ow_zero _ _, K0.out.trans KP.below, ⟨fun h => absurd (E0.out.symm.trans h) (by decide), fun _ => ⟨rfl, rfl⟩⟩⟩
end Go.Proofs.Ytflplldamefhoaa.Bd
