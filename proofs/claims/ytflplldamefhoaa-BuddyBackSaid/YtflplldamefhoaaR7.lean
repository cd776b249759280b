import Derived.Test.YtflplldamefhoaaR6
namespace Go.Proofs.Ytflplldamefhoaa.Bd
open Go Go.RowKit
set_option linter.unusedVariables false
structure ZQ (er : Int) (p : Pm) (S : Int → Prop) (q : Pm) (L : Fl) : Prop where
  ok : er = 0 → q = p ∧ Canon p S L
  no : er ≠ 0 → q = p0 ∧ L = nf
def RE (er : Int) (p : Pm) (S : Int → Prop) (w : World) (e : Ending) (w' : World) : Prop := ∃ q v' L', e = .returned (.tuple #[.agg (znC q v'), .int .i64 er]) ∧ OwZ w.heap.size w' v' L' ∧ Below w.heap.size w w' ∧ ZQ er p S q L'
theorem agree {er : Int} {p q q' : Pm} {S S' : Int → Prop} {L L' : Fl} (hp : er = 0 → par p) (h : ZG er p S q L) (h2 : ZQ er p S' q' L') (e : er = 0 → ∀ x, S x ↔ S' x) : q = q' ∧ (∀ k, k < 5 → L k = L' k) ∧ ∀ k, k < 5 → (L k).length ≤ 1000000 := by
  by_cases h0 : er = 0
  · obtain ⟨rfl, V, hs⟩ := h.ok h0
    obtain ⟨rfl, C⟩ := h2.ok h0
    refine ⟨rfl, canon_eq (canon_of_vd V (S := S') fun x => ((hs x).trans (e h0 x)).symm) C, fun k hk => by have := lst_len (hp h0) V.toLst hk; omega⟩
  · obtain ⟨rfl, rfl⟩ := h.no h0
    obtain ⟨rfl, rfl⟩ := h2.no h0
    exact ⟨rfl, fun _ _ => rfl, fun k hk => by unfold nf; simp⟩
theorem sc_in {p : Pm} {L : Fl} (hp : par p) (hl : Lst p L) (x : Int) : SC (fun n => cn L 5 n) x ↔ InS L x := by
  constructor
  · rintro ⟨n, rfl, h1, h2⟩; exact cn_in.1 h2
  · rintro h
    obtain ⟨k, hk, hc⟩ := h
    have := cov_bd hp hl hk hc
    obtain ⟨n, rfl⟩ := Int.eq_ofNat_of_zero_le this.1
    exact ⟨n, rfl, by omega, cn_in.2 ⟨k, hk, hc⟩⟩
theorem Canon.congr {p : Pm} {S S' : Int → Prop} {L : Fl} (h : Canon p S L) (e : ∀ x, S x ↔ S' x) : Canon p S' L := by
  have : S = S' := funext fun x => propext (e x)
  rw [← this]; exact h
def setF (f y : Nat) (c : Nat → Nat) (x : Nat) : Nat := if f ≤ x ∧ x < y then 1 else c x
theorem sc_put0 {c : Nat → Nat} {a : Nat} (x : Int) : SC (fun x => if x = a then 0 else c x) x ↔ SC c x ∧ x ≠ (a : Int) := by
  constructor
  · rintro ⟨n, rfl, h1, h2⟩
    have h2 : 0 < (if n = a then 0 else c n) := h2
    by_cases e : n = a
    · rw [if_pos e] at h2; omega
    · rw [if_neg e] at h2; exact ⟨⟨n, rfl, h1, h2⟩, by omega⟩
  · rintro ⟨⟨n, rfl, h1, h2⟩, h3⟩
    exact ⟨n, rfl, h1, show 0 < (if n = a then 0 else c n) by rw [if_neg (by omega)]; exact h2⟩
theorem sc_cut {c : Nat → Nat} {f y : Nat} (x : Int) : SC (cutF f y c) x ↔ SC c x ∧ ¬ ((f : Int) ≤ x ∧ x < y) := by
  constructor
  · rintro ⟨n, rfl, h1, h2⟩
    unfold cutF at h2
    by_cases e : f ≤ n ∧ n < y
    · rw [if_pos e] at h2; omega
    · rw [if_neg e] at h2; exact ⟨⟨n, rfl, h1, h2⟩, by omega⟩
  · rintro ⟨⟨n, rfl, h1, h2⟩, h3⟩
    exact ⟨n, rfl, h1, by unfold cutF; rw [if_neg (by omega)]; exact h2⟩
theorem sc_set {c : Nat → Nat} {f y : Nat} (hy : y ≤ 256) (x : Int) : SC (setF f y c) x ↔ SC c x ∨ ((f : Int) ≤ x ∧ x < y) := by
  constructor
  · rintro ⟨n, rfl, h1, h2⟩
    unfold setF at h2
    by_cases e : f ≤ n ∧ n < y
    · exact .inr (by omega)
    · rw [if_neg e] at h2; exact .inl ⟨n, rfl, h1, h2⟩
  · intro h
    by_cases e : (f : Int) ≤ x ∧ x < y
    · obtain ⟨n, rfl⟩ := Int.eq_ofNat_of_zero_le (show 0 ≤ x by omega)
      exact ⟨n, rfl, by omega, by unfold setF; rw [if_pos (by omega)]; omega⟩
    · rcases h with ⟨n, rfl, h1, h2⟩ | h
      · exact ⟨n, rfl, h1, by unfold setF; rw [if_neg (by omega)]; exact h2⟩
      · exact absurd h e
theorem cn_100 (L : Fl) : ∀ x, x < 256 → cn L 5 x ≤ 100 := fun x _ => by have := cn_le L x 5; omega
set_option maxRecDepth 100000 in
set_option maxHeartbeats 8000000 in
theorem rtake_any (p : Pm) (v : Nat → Value) (L : Fl) (f : Int) (hf : i64r f) (w : World) (hz : ZIn w p v L) : Calls Try.prog 28 #[.agg (znC p v), .int .i64 f] w (RE (tkE p L f) p (fun x => InS L x ∧ x ≠ f) w) := by
  unfold RE
  obtain ⟨er, her⟩ : ∃ er, er = tkE p L f := ⟨_, rfl⟩
  rw [← her]
  have HER := hide her
  obtain ⟨W0, hW0⟩ : ∃ W0, W0 = (w.alloc (.cells (znC p v) 25)).alloc (.cells (znC p0 nv) 25) := ⟨_, rfl⟩
  have K0 := hide (show Below w.heap.size w W0 by rw [hW0]; exact bal (bal (brefl w) _) _)
  have X := hide (show Box W0 w.heap.size 25 (znC p v) by rw [hW0]; exact (Box.new w 25 _).more _)
  have Y := hide (show Box W0 (w.heap.size + 1) 25 (znC p0 nv) by rw [hW0]; exact Box.new2 w _ 25 _)
  have CH := hide (rcheck_any p v L W0 (hz.below K0.out))
  have HZ := hide hz
  obtain ⟨g, hg⟩ : ∃ g, g = w.heap.size := ⟨_, rfl⟩
  rw [← hg] at X Y
  have HG := hide hg
  have HF := hide hf
  clear hz her hf
  by_cases hc : chk p L = 0
  · obtain ⟨hp, V⟩ := chk_zero.1 hc
    have HP := hide hp
    have HV := hide V
    have HC := hide hc
    have BL := hide (fun w1 => rblock_in p v f 0 (by omega) HF.out hp w1)
    have RS := hide (fun w1 (hb : Below w.heap.size w w1) => rset_any p v L w1 HP.out HV.out.toLst (HZ.out.rd.below hb))
    unfold ZS at RS
    rw [hc] at CH
    clear hc hp V
    by_cases hbk : blk p 0 f
    · rw [decide_eq_true hbk] at BL
      have hbd := blk_bd HP.out hbk
      simp only [bw] at hbd
      obtain ⟨a, rfl⟩ : ∃ a : Nat, f = a := ⟨f.toNat, by omega⟩
      have ha : a < 256 := by omega
      have ha' : (a : Int) < 256 := by omega
      by_cases hi : InS L a
      · have EE := hide (show er = 0 by
          rw [HER.out]
          unfold tkE
          rw [if_neg (fun x => x HC.out), if_neg (fun x => x hbk), if_neg (by have := oof_in.2 hi; omega)])
        have hpos := cn_in.2 hi
        have hne : ((cn L 5 a : Int) == 0) = false := by simp; omega
        clear hbk hbd
        go_enter Try.func28, Try.ntmps28
        go_upto_region 1 with fail
        rw [znC0, ← hW0, ← hg]
        clear hW0 hg
        go_upto_region 7 with (first | (refine wpList_load_row rfl 25 _ rfl g rfl 25 (znC p v) (0, 0) _ X.out Try.underlying25 rfl (by kernel_rfl) ?_) | (go_at_call 17; refine CH.out.mono ?_; rintro e w1 ⟨rfl, hb⟩; replace X := hide (X.out.below hb); replace Y := hide (Y.out.below hb); replace K0 := hide (K0.out.trans (hb.mono K0.out.size)); clear hb) | (go_at_call 48; refine (BL.out _).mono ?_; rintro e w2 ⟨rfl, hb⟩; replace X := hide (X.out.below hb); replace Y := hide (Y.out.below hb); replace K0 := hide (K0.out.trans (hb.mono K0.out.size)); clear hb) | (go_at_call 47; refine (RS.out _ K0.out).mono ?_; rintro e w3 ⟨gs, rfl, ri, hgs, hb⟩; have GX := hide (show g + 1 < gs from Nat.lt_of_lt_of_le Y.out.lt hgs); have RR := hide ri; clear ri hgs; replace X := hide (X.out.below hb); replace Y := hide (Y.out.below hb); replace K0 := hide (K0.out.trans (hb.mono K0.out.size)); clear hb))
        have cell : w3.cell? ⟨gs, a, none⟩ = some (.int .i64 ((cn L 5 a : Nat) : Int)) := RR.out.cell ha
        have frz := RR.out.frozen a
        have R2 := hide (RR.out.put a 0 (c' := fun x => if x = a then 0 else cn L 5 x) (fun x _ => rfl))
        have R3 := hide (show RI (w3.setCell ⟨gs, a, none⟩ (.int .i64 0)) gs (fun x => if x = a then 0 else cn L 5 x) from R2.out)
        have X2 := hide (X.out.far (show g ≠ gs by have := GX.out; omega) (b := gs) (i := a) (.int .i64 0))
        have Y2 := hide (Y.out.far (show g + 1 ≠ gs by have := GX.out; omega) (b := gs) (i := a) (.int .i64 0))
        have K2 := hide (bset K0.out (p := ⟨gs, a, none⟩) (show w.heap.size ≤ gs by have := GX.out; rw [← HG.out]; omega) (.int .i64 0))
        have WI := hide (with_any p v gs _ _ HP.out R3.out (fun x hx => by split; omega; exact cn_100 L x hx))
        unfold ZC at WI
        generalize cn L 5 a = q at *
        clear R2 RR X Y K0
        go_upto_region 10 with fail
        generalize w3.setCell ⟨gs, a, none⟩ (.int .i64 0) = w4 at *
        go_wp2_with (first | (refine wpList_load_row rfl 25 _ rfl g rfl 25 (znC p v) (0, 0) _ X2.out Try.underlying25 rfl (by kernel_rfl) ?_) | (go_at_call 50; refine WI.out.mono ?_; rintro e w5 ⟨v1, L1, rfl, o1, C1, hb⟩) | (refine wpList_store_row rfl 25 _ _ rfl (g + 1) (znC p v1) rfl rfl 25 (znC p0 nv) (Y2.out.below hb) (by kernel_rfl) rfl (one_zone o1.rd) ?_))
        have KP := kp_row (cs := znC p v1) (Y2.out.below hb) (show w.heap.size ≤ g + 1 by rw [← HG.out]; omega)
        refine ret_z2 Try.results28 rfl rfl rfl (box_row (Y2.out.below hb)) ⟨p, v1, L1, by rw [EE.out], (o1.mono K2.out.size).kp KP (by decide), (K2.out.trans (hb.mono K2.out.size)).trans KP.below, ⟨fun _ => ⟨rfl, ?_⟩, fun h => absurd EE.out h⟩⟩
        exact C1.congr fun x => by rw [sc_put0, sc_in HP.out HV.out.toLst]
      · have EE := hide (show er = 6 by
          rw [HER.out]
          unfold tkE
          rw [if_neg (fun x => x HC.out), if_neg (fun x => x hbk), if_pos (by rcases oof_cases L a with ⟨k, hk, e, hc⟩ | ⟨e, _⟩; exact absurd ⟨k, hk, hc⟩ hi; omega)])
        have hz0 : cn L 5 a = 0 := by
          rcases Nat.eq_zero_or_pos (cn L 5 a) with e | e
          · exact e
          · exact absurd (cn_in.1 e) hi
        clear hbk hbd
        go_enter Try.func28, Try.ntmps28
        go_upto_region 1 with fail
        rw [znC0, ← hW0, ← hg]
        clear hW0 hg
        go_upto_region 7 with (first | (refine wpList_load_row rfl 25 _ rfl g rfl 25 (znC p v) (0, 0) _ X.out Try.underlying25 rfl (by kernel_rfl) ?_) | (go_at_call 17; refine CH.out.mono ?_; rintro e w1 ⟨rfl, hb⟩; replace X := hide (X.out.below hb); replace Y := hide (Y.out.below hb); replace K0 := hide (K0.out.trans (hb.mono K0.out.size)); clear hb) | (go_at_call 48; refine (BL.out _).mono ?_; rintro e w2 ⟨rfl, hb⟩; replace X := hide (X.out.below hb); replace Y := hide (Y.out.below hb); replace K0 := hide (K0.out.trans (hb.mono K0.out.size)); clear hb) | (go_at_call 47; refine (RS.out _ K0.out).mono ?_; rintro e w3 ⟨gs, rfl, ri, hgs, hb⟩; have GX := hide (show g + 1 < gs from Nat.lt_of_lt_of_le Y.out.lt hgs); have RR := hide ri; clear ri hgs; replace X := hide (X.out.below hb); replace Y := hide (Y.out.below hb); replace K0 := hide (K0.out.trans (hb.mono K0.out.size)); clear hb))
        have cell : w3.cell? ⟨gs, a, none⟩ = some (.int .i64 ((cn L 5 a : Nat) : Int)) := RR.out.cell ha
        rw [hz0] at cell
        clear hz0
        go_wp2_with (first | (refine wpList_store_row rfl 25 _ _ rfl (g + 1) (znC p0 nv) rfl rfl 25 (znC p0 nv) Y.out (by kernel_rfl) rfl (one_zone (w := w) (ow_zero 0 w).rd) ?_))
        have KP := kp_row (cs := znC p0 nv) Y.out (show w.heap.size ≤ g + 1 by rw [← HG.out]; omega)
        refine ret_z2 Try.results28 rfl rfl rfl (box_row Y.out) ⟨p0, nv, nf, by rw [EE.out], ow_zero _ _, K0.out.trans KP.below, ⟨fun h => absurd (EE.out.symm.trans h) (by decide), fun _ => ⟨rfl, rfl⟩⟩⟩
    · rw [decide_eq_false hbk] at BL
      have EE := hide (show er = 2 by
        rw [HER.out]
        unfold tkE
        rw [if_neg (fun x => x HC.out), if_pos hbk])
      clear hbk
      go_enter Try.func28, Try.ntmps28
      go_upto_region 1 with fail
      rw [znC0, ← hW0, ← hg]
      clear hW0 hg
      go_wp2_with (first | (refine wpList_load_row rfl 25 _ rfl g rfl 25 (znC p v) (0, 0) _ X.out Try.underlying25 rfl (by kernel_rfl) ?_) | (go_at_call 17; refine CH.out.mono ?_; rintro e w1 ⟨rfl, hb⟩; replace X := hide (X.out.below hb); replace Y := hide (Y.out.below hb); replace K0 := hide (K0.out.trans (hb.mono K0.out.size)); clear hb) | (go_at_call 48; refine (BL.out _).mono ?_; rintro e w2 ⟨rfl, hb⟩; replace X := hide (X.out.below hb); replace Y := hide (Y.out.below hb); replace K0 := hide (K0.out.trans (hb.mono K0.out.size)); clear hb) | (refine wpList_store_row rfl 25 _ _ rfl (g + 1) (znC p0 nv) rfl rfl 25 (znC p0 nv) Y.out (by kernel_rfl) rfl (one_zone (w := w) (ow_zero 0 w).rd) ?_))
      have KP := kp_row (cs := znC p0 nv) Y.out (show w.heap.size ≤ g + 1 by rw [← HG.out]; omega)
      refine ret_z2 Try.results28 rfl rfl rfl (box_row Y.out) ⟨p0, nv, nf, by rw [EE.out], ow_zero _ _, K0.out.trans KP.below, ⟨fun h => absurd (EE.out.symm.trans h) (by decide), fun _ => ⟨rfl, rfl⟩⟩⟩
  · have EE := hide (show er = chk p L by
      rw [HER.out]
      unfold tkE
      rw [if_pos hc])
    have hne : (chk p L != 0) = true := by simpa using hc
    have HC := hide hc
    generalize chk p L = ce at *
    clear hc
    go_enter Try.func28, Try.ntmps28
    go_upto_region 1 with fail
    rw [znC0, ← hW0, ← hg]
    clear hW0 hg
    go_wp2_with (first | (refine wpList_load_row rfl 25 _ rfl g rfl 25 (znC p v) (0, 0) _ X.out Try.underlying25 rfl (by kernel_rfl) ?_) | (go_at_call 17; refine CH.out.mono ?_; rintro e w1 ⟨rfl, hb⟩; replace X := hide (X.out.below hb); replace Y := hide (Y.out.below hb); replace K0 := hide (K0.out.trans (hb.mono K0.out.size)); clear hb) | (refine wpList_store_row rfl 25 _ _ rfl (g + 1) (znC p0 nv) rfl rfl 25 (znC p0 nv) Y.out (by kernel_rfl) rfl (one_zone (w := w) (ow_zero 0 w).rd) ?_))
    have KP := kp_row (cs := znC p0 nv) Y.out (show w.heap.size ≤ g + 1 by rw [← HG.out]; omega)
    refine ret_z2 Try.results28 rfl rfl rfl (box_row Y.out) ⟨p0, nv, nf, by rw [EE.out], ow_zero _ _, K0.out.trans KP.below, ⟨fun h => absurd (EE.out.symm.trans h) HC.out, fun _ => ⟨rfl, rfl⟩⟩⟩
end Go.Proofs.Ytflplldamefhoaa.Bd
