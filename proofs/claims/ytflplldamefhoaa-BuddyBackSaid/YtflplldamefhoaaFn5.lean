import Derived.Test.YtflplldamefhoaaMath2
namespace Go.Proofs.Ytflplldamefhoaa.Bd
open Go Go.RowKit
set_option linter.unusedVariables false
theorem wr2 {k : Nat} (hk : k < 5) : wrap64 ((2 : Int) ^ k) = bw k := by
  unfold wrap64
  rcases cases5 hk with rfl | rfl | rfl | rfl | rfl <;> decide
/-- what a change of a valid zone in its box leaves: a valid zone of the set that S describes -/
structure ZnV (B g : Nat) (p : Pm) (S : Int → Prop) (w w' : World) : Prop where
  ex : ∃ L v, Box w' g 25 (znC p v) ∧ OwZ B w' v L ∧ Vd p L ∧ ∀ x, InS L x ↔ S x
  below : Below B w w'
set_option maxHeartbeats 4000000 in
theorem join_any (B g : Nat) (p : Pm) (v : Nat → Value) (L : Fl) (f : Int) (k : Nat) (hk : k < 5) (w : World) (hp : par p) (X : Box w g 25 (znC p v)) (O : OwZ B w v L) (hB : B ≤ g) (V : Vd p L) (hb : blk p k f) (hd : ∀ x, dn k x = f → ¬ InS L x) :
    Calls Try.prog 49 #[.pointer (some ⟨g, 0, none⟩), .int .i64 f, .int .i64 k] w fun e w' => e = .returned (.tuple #[]) ∧ ZnV B g p (fun x => InS L x ∨ dn k x = f) w w' := by
  replace X := hide X
  replace O := hide O
  have HB := hide hB
  have HV := hide V
  have HP := hide hp
  have H1 := hide hb
  have H2 := hide hd
  have HK := hide hk
  clear hB V hp hb hd hk
  go_enter Try.func49, Try.ntmps49
  go_wp2
  go_loopw [1, 2] (fun a b wr => ∃ (k' : Nat) (f' : Int) (L' : Fl) (v' : Nat → Value), k' < 5 ∧ a = .int .i64 f' ∧ b = .int .i64 k' ∧ Hid (Box wr g 25 (znC p v')) ∧ Hid (OwZ B wr v' L') ∧ Hid (Vd p L') ∧ Hid (blk p k' f') ∧ Hid (∀ x, dn k' x = f' → ¬ InS L' x) ∧ Hid (∀ x, (InS L' x ∨ dn k' x = f') ↔ (InS L x ∨ dn k x = f)) ∧ Hid (Below B w wr)) (fun _ b _ => 5 - (intOf b).toNat)
  case atStart => exact ⟨k, f, L, v, HK.out, rfl, rfl, X, O, HV, H1, H2, hide (fun x => Iff.rfl), hide (Below.refl _ _)⟩
  case round =>
    clear X O HV H1 H2 HK
    obtain ⟨k', f', L', v', hk', rfl, rfl, X, O, HV, H1, H2, H3, K⟩ := hrel
    have ln := lst_len HP.out HV.out.toLst hk'
    by_cases h4 : k' < 4
    · have hbd := blk_bd HP.out H1.out
      have hx := xor_bud h4 f' (by omega) (by have := bw_pos k'; omega) H1.out.1
      have hw := wr2 hk'
      have bp := bw_pos k'
      have RM := hide (remove_any B g p v' L' (bud k' f') k' hk' wr X.out O.out HB.out (HV.out.srt k' hk') (by omega))
      have h4i : decide ((k' : Int) < 4) = true := decide_eq_true (by omega)
      by_cases hm : bud k' f' ∈ L' k'
      · have FS := hide (fun w1 => first_any f' (k' + 1) (by omega) (by unfold i64r; omega) w1)
        have JS := hide (join_step HV.out h4 H1.out H2.out hm)
        rw [decide_eq_true hm] at RM
        generalize upd L' k' ((L' k').filter (· ≠ bud k' f')) = L2 at *
        clear hm ln hbd bp
        obtain ⟨RE, RO⟩ : True ∧ True := ⟨trivial, trivial⟩
        clear RE RO X O
        go_wp2_with fail
        refine RM.out.mono ?_
        rintro e w1 ⟨rfl, ⟨⟨v2, X2, O2⟩, hb2⟩⟩
        have X := hide X2
        have O := hide O2
        replace K := hide (K.out.trans hb2)
        clear X2 O2 hb2 RM hx hw
        go_wp2_with (go_at_call 60; refine (FS.out _).mono ?_; rintro e w' ⟨rfl, rfl⟩)
        have JM := hide (fun x => (JS.out.2.2.2 x).trans (H3.out x))
        go_roundw
        case rel => exact ⟨k' + 1, dn (k' + 1) f', L2, v2, by omega, rfl, by go_num, X, O, hide JS.out.1, hide JS.out.2.1, hide JS.out.2.2.1, JM, K⟩
        case measure => simp [intOf]; omega
      · rw [decide_eq_false hm] at RM
        have JE := hide (join_end HV.out hk' H1.out H2.out (fun _ => hm))
        have e0 : (L' k').filter (· ≠ bud k' f') = L' k' := fil_no hm
        rw [e0, upd_same] at RM
        clear hbd e0 hm X O bp
        go_wp2_with fail
        refine RM.out.mono ?_
        rintro e w1 ⟨rfl, ⟨⟨v2, X2, O2⟩, hb2⟩⟩
        have X := hide X2
        have O := hide O2
        have IN := hide (insert_any B g p v2 L' f' k' hk' w1 X2 O2 HB.out (HV.out.srt k' hk') (by omega))
        replace K := hide (K.out.trans hb2)
        have JM := hide (fun x => (JE.out.2 x).trans (H3.out x))
        generalize upd L' k' (ins (L' k') f') = L3 at *
        clear X2 O2 hb2 RM hx hw ln
        go_wp2_with (go_at_call 61; refine IN.out.mono ?_; rintro e w3 ⟨rfl, ⟨⟨v3, X3, O3⟩, hb3⟩⟩)
        go_end0
        exact ⟨rfl, ⟨L3, v3, X3, O3, JE.out.1, JM.out⟩, K.out.trans hb3⟩
    · have h4i : decide ((k' : Int) < 4) = false := decide_eq_false (by omega)
      have JE := hide (join_end HV.out hk' H1.out H2.out (fun h => absurd h h4))
      have IN := hide (insert_any B g p v' L' f' k' hk' wr X.out O.out HB.out (HV.out.srt k' hk') (by omega))
      have JM := hide (fun x => (JE.out.2 x).trans (H3.out x))
      generalize upd L' k' (ins (L' k') f') = L3 at *
      clear ln
      go_wp2_with (go_at_call 61; refine IN.out.mono ?_; rintro e w3 ⟨rfl, ⟨⟨v3, X3, O3⟩, hb3⟩⟩)
      go_end0
      exact ⟨rfl, ⟨L3, v3, X3, O3, JE.out.1, JM.out⟩, K.out.trans hb3⟩
end Go.Proofs.Ytflplldamefhoaa.Bd
