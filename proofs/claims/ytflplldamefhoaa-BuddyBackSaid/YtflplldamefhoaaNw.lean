import Derived.Test.YtflplldamefhoaaCk4
namespace Go.Proofs.Ytflplldamefhoaa.Bd
open Go Go.RowKit
set_option linter.unusedVariables false
/-- what a zone and an error say together -/
structure ZG (er : Int) (p : Pm) (S : Int → Prop) (q : Pm) (L : Fl) : Prop where
  ok : er = 0 → q = p ∧ Vd p L ∧ ∀ x, InS L x ↔ S x
  no : er ≠ 0 → q = p0 ∧ L = nf
def ZE (er : Int) (p : Pm) (S : Int → Prop) (w : World) (e : Ending) (w' : World) : Prop := ∃ q v' L', e = .returned (.tuple #[.agg (znC q v'), .int .i64 er]) ∧ OwZ w.heap.size w' v' L' ∧ Below w.heap.size w w' ∧ ZG er p S q L'
theorem dn0 (x : Int) : dn 0 x = x := by unfold dn; simp only [bw]; omega
theorem vd_nf (p : Pm) : Vd p nf := ⟨⟨fun k hk => List.Pairwise.nil, fun k hk f hf => absurd hf (by unfold nf; simp)⟩, fun x k j hk hj a b => absurd a (by unfold cov nf; simp), fun k hk f hf => absurd hf (by unfold nf; simp)⟩
theorem in_nf (x : Int) : ¬ InS nf x := by rintro ⟨k, _, h⟩; unfold cov nf at h; simp at h
theorem blk0 {p : Pm} {f : Int} : blk p 0 f ↔ p.st ≤ f ∧ f < p.st + p.ct := by unfold blk; simp only [bw]; omega
theorem ow_zero (B : Nat) (w : World) : OwZ B w nv nf := OwZ.nil B w
def nwE (p : Pm) : Int := if par p then 0 else 2
set_option maxRecDepth 100000 in
set_option maxHeartbeats 8000000 in
theorem new_any (p : Pm) (hpr : Pr p) (w : World) : Calls Try.prog 18 #[.int .i64 p.nd, .int .i64 p.kd, .int .i64 p.st, .int .i64 p.ct, .int .i64 p.mn] w (ZE (nwE p) p (fun x => p.st ≤ x ∧ x < p.st + p.ct) w) := by
  unfold ZE
  obtain ⟨er, her⟩ : ∃ er, er = nwE p := ⟨_, rfl⟩
  rw [← her]
  have HER := hide her
  obtain ⟨W0, hW0⟩ : ∃ W0, W0 = (w.alloc (.cells (znC p0 nv) 25)) := ⟨_, rfl⟩
  have K0 := hide (show Below w.heap.size w W0 by rw [hW0]; exact bal (brefl w) _)
  have Y := hide (show Box W0 w.heap.size 25 (znC p0 nv) by rw [hW0]; exact Box.new w 25 _)
  have PA := hide (fun w1 => params_any p nv hpr w1)
  have HPR := hide hpr
  clear her hpr
  go_enter Try.func18, Try.ntmps18
  go_upto_region 1 with fail
  rw [znC0, ← hW0]
  obtain ⟨g, hg⟩ : ∃ g, g = w.heap.size := ⟨_, rfl⟩
  rw [← hg] at Y ⊢
  have HG := hide hg
  have HS0 := hide (show W0.heap.size = g + 1 by rw [hW0, alloc_size', hg])
  clear hW0 hg
  go_upto_region 2 with (first | (refine wpList_store_row rfl 25 _ _ rfl W0.heap.size (znC p nv) rfl rfl 25 (znC p0 nv) (Box.new W0 25 _) (by kernel_rfl) rfl (one_zone (w := w) (ow_zero 0 w).rd) ?_))
  have e2 : (W0.alloc (.cells #[.int .i64 0, .int .i64 0, .int .i64 0, .int .i64 0, .int .i64 0, .slice none 0 0, .slice none 0 0, .slice none 0 0, .slice none 0 0, .slice none 0 0] 25)).setRow W0.heap.size (znC p nv) = W0.alloc (.cells (znC p nv) 25) := setRow_new W0 _ _ 25
  rw [e2]
  have M := bal (brefl W0) (.cells (znC p nv) 25)
  have Z := hide (Box.new W0 25 (znC p nv))
  replace Y := hide (Y.out.below M)
  replace K0 := hide (btrans K0.out M)
  rw [HS0.out] at Z ⊢
  generalize W0.alloc (.cells (znC p nv) 25) = W1 at *
  clear e2 M HS0
  by_cases hp : par p
  · rw [decide_eq_true hp] at PA
    have E0 := hide (show er = 0 by rw [HER.out]; unfold nwE; rw [if_pos hp])
    have HP := hide hp
    have hp2 := hp
    unfold par at hp2
    obtain ⟨n, hn⟩ : ∃ n : Nat, p.ct = (n : Int) := ⟨p.ct.toNat, by omega⟩
    have HN := hide hn
    have HB := hide hp2
    clear hp hp2
    go_upto_region 4 with (first | (refine wpList_load_row rfl 25 _ rfl (g + 1) rfl 25 (znC p nv) (0, 0) _ Z.out Try.underlying25 rfl (by kernel_rfl) ?_) | (go_at_call 41; refine (PA.out _).mono ?_; rintro e w1 ⟨rfl, hb⟩))
    replace K0 := hide (btrans K0.out hb)
    replace Z := hide (Z.out.below hb)
    replace Y := hide (Y.out.below hb)
    clear hb
    clear hn
    go_wp2
    go_loopw [25] (fun a wr => ∃ (i : Nat) (v' : Nat → Value) (L' : Fl), i ≤ n ∧ a = .int .i64 i ∧ Hid (Box wr (g + 1) 25 (znC p v')) ∧ Hid (OwZ (g + 1) wr v' L') ∧ Hid (Vd p L') ∧ Hid (∀ x, InS L' x ↔ p.st ≤ x ∧ x < p.st + i) ∧ Hid (Box wr g 25 (znC p0 nv)) ∧ Hid (Below w.heap.size w wr)) (fun a _ => n - (intOf a).toNat)
    case atStart => exact ⟨0, nv, nf, Nat.zero_le _, rfl, Z, hide (ow_zero _ _), hide (vd_nf p), hide (fun x => ⟨fun h => absurd h (in_nf x), fun h => by omega⟩), Y, K0⟩
    case round =>
      clear Z Y K0
      obtain ⟨i, v', L', hi, rfl, Z, O, V, S, Y, K⟩ := hrel
      have hbb := HB.out
      rw [HN.out] at hbb
      have hn256 : n ≤ 256 := by omega
      by_cases hlt : i < n
      · have JN := hide (join_any (g + 1) (g + 1) p v' L' (p.st + i) 0 (by omega) wr HP.out Z.out O.out (Nat.le_refl _) V.out (blk0.2 (by rw [HN.out]; omega)) (fun x hx => by rw [dn0] at hx; rw [S.out]; omega))
        have hst : -9223372036854775808 ≤ p.st + (i : Int) ∧ p.st + (i : Int) ≤ 9223372036854775807 := by omega
        clear hbb Z O V
        go_wp2_with fail
        refine JN.out.mono ?_
        rintro e w2 ⟨rfl, ⟨L2, v2, Z2, O2, V2, S2⟩, hb⟩
        have S3 := hide (show ∀ x, InS L2 x ↔ p.st ≤ x ∧ x < p.st + ((i + 1 : Nat) : Int) from fun x => by rw [S2, S.out, dn0]; omega)
        have Y3 := hide (box_lt Y.out (Nat.lt_succ_self g) hb)
        have K3 := hide (K.out.trans (hb.mono (by rw [← HG.out]; omega)))
        have Z3 := hide Z2
        have O3 := hide O2
        have V3 := hide V2
        clear Z2 O2 V2 S2 hb S Y K JN
        go_wp2
        go_roundw
        case rel => exact ⟨i + 1, v2, L2, by omega, by go_num, Z3, O3, V3, S3, Y3, K3⟩
        case measure => simp [intOf]; omega
      · obtain rfl : i = n := by omega
        have one := one_zone (p := p) O.out.rd
        clear hbb
        go_wp2_with (first | (refine wpList_load_row rfl 25 _ rfl (g + 1) rfl 25 (znC p v') (0, 0) _ Z.out Try.underlying25 rfl (by kernel_rfl) ?_) | (refine wpList_store_row rfl 25 _ _ rfl g (znC p v') rfl rfl 25 (znC p0 nv) Y.out (by kernel_rfl) rfl one ?_))
        have KP := kp_row (cs := znC p v') Y.out (Nat.le_of_eq HG.out.symm)
        refine ret_z2 Try.results18 rfl rfl rfl (box_row Y.out) ⟨p, v', L', by rw [E0.out], (O.out.mono (by rw [← HG.out]; omega)).kp KP (by decide), K.out.trans KP.below, ⟨fun _ => ⟨rfl, V.out, fun x => by rw [S.out, HN.out]⟩, fun h => absurd E0.out h⟩⟩
  · rw [decide_eq_false hp] at PA
    have E0 := hide (show er = 2 by rw [HER.out]; unfold nwE; rw [if_neg hp])
    clear hp
    go_wp2_with (first | (refine wpList_load_row rfl 25 _ rfl (g + 1) rfl 25 (znC p nv) (0, 0) _ Z.out Try.underlying25 rfl (by kernel_rfl) ?_) | (go_at_call 41; refine (PA.out _).mono ?_; rintro e w1 ⟨rfl, hb⟩; replace K0 := hide (btrans K0.out hb); replace Y := hide (Y.out.below hb)) | (refine wpList_store_row rfl 25 _ _ rfl g (znC p0 nv) rfl rfl 25 (znC p0 nv) Y.out (by kernel_rfl) rfl (one_zone (w := w) (ow_zero 0 w).rd) ?_))
    have KP := kp_row (cs := znC p0 nv) Y.out (Nat.le_of_eq HG.out.symm)
    refine ret_z2 Try.results18 rfl rfl rfl (box_row Y.out) ⟨p0, nv, nf, by rw [E0.out], ow_zero _ _, K0.out.trans KP.below, ⟨fun h => absurd (E0.out.symm.trans h) (by decide), fun _ => ⟨rfl, rfl⟩⟩⟩
end Go.Proofs.Ytflplldamefhoaa.Bd
