import Derived.Test.YtiopfeleaifpbabMath3
namespace Go.Proofs.Ytiopfeleaifpbab.Bd
open Go Go.RowKit
set_option linter.unusedVariables false
theorem Bi.cell2 {w w' : World} {A : Option Addr} {l : Is} (h : Bi w A l) (hb : Below w.heap.size w w') {i : Nat} (hk : i < l.length) : ∃ b off, A = some ⟨b, off, none⟩ ∧ b < w.heap.size ∧ w'.cell? ⟨b, off + i, none⟩ = some (.int .i64 (l.getD i 0)) ∧ w'.cell? ⟨b, off + (i - 1), none⟩ = some (.int .i64 (l.getD (i - 1) 0)) := by
  obtain ⟨b, off, e, hl, hc⟩ := h (by rintro rfl; simp at hk)
  exact ⟨b, off, e, hl, (hb.cell (p := ⟨b, _, none⟩) hl).trans (hc _ hk), (hb.cell (p := ⟨b, _, none⟩) hl).trans (hc _ (by omega))⟩
theorem lE_cons (p : Pm) (k : Nat) (q a : Int) (r : Is) : lE p k q (a :: r) = if blk p k a then (if a ≤ q then 10 else lE p k a r) else 3 := rfl
theorem lE_nil (p : Pm) (k : Nat) (q : Int) : lE p k q [] = 0 := rfl
set_option maxHeartbeats 4000000 in
set_option maxRecDepth 100000 in
theorem cl_any (p : Pm) (v : Nat → Value) (A : Option Addr) (c : Nat) (l : Is) (k : Nat) (hk : k < 5) (w : World) (hp : par p) (r : Bi w A l) (hw : ∀ f ∈ l, i64r f) (hn : l.length ≤ 9223372036854775807) :
    Calls Try.prog 38 #[.agg (znC p v), .slice A l.length c, .int .i64 k] w fun e w' => e = .returned (.int .i64 (lE p k (-1) l)) ∧ Below w.heap.size w w' := by
  have X := hide (Box.new w 44 (znC p v))
  have K0 := hide (bal (brefl w) (.cells (znC p v) 44))
  have R := hide (r.below K0.out)
  have HW := hide hw
  have HP := hide hp
  have HK := hide hk
  obtain ⟨er, her⟩ : ∃ er, er = lE p k (-1) l := ⟨_, rfl⟩
  rw [← her]
  have HE := hide her
  clear r hw hp hk her
  go_enter Try.func38, Try.ntmps38
  go_upto_region 1 with fail
  obtain ⟨g, hg⟩ : ∃ g, g = w.heap.size := ⟨_, rfl⟩
  obtain ⟨W0, hW0⟩ : ∃ W0, W0 = (w.alloc (.cells (znC p v) 44)) := ⟨_, rfl⟩
  rw [← hg] at X
  rw [← hg, ← hW0]
  rw [← hW0] at X K0 R
  clear hg hW0
  go_wp2
  go_loopw [11] (fun a wr => ∃ i : Nat, i ≤ l.length ∧ a = .int .i64 i ∧ Hid (Below W0.heap.size W0 wr) ∧ Hid (er = lE p k (pvA l i) (l.drop i))) (fun a _ => l.length - (intOf a).toNat)
  case atStart => exact ⟨0, by omega, rfl, hide (brefl _), HE⟩
  case round =>
    obtain ⟨i, hi, rfl, K, E⟩ := hrel
    by_cases hlt : i < l.length
    · have hz := HW.out _ (getD_mem hlt)
      have BL := hide (fun w1 => block_any p v (l.getD i 0) k HK.out hz HP.out w1)
      have E1 := E.out
      rw [drop_at0 hlt] at E1
      rw [lE_cons] at E1
      have X1 := hide (X.out.below K.out)
      by_cases hb : blk p k (l.getD i 0)
      · rw [decide_eq_true hb] at BL
        rw [if_pos hb] at E1
        by_cases h0 : i = 0
        · subst h0
          have e0 : pvA l 0 = -1 := rfl
          have hbd := blk_bd HP.out hb
          rw [e0, if_neg (by omega)] at E1
          have EN := hide (show er = lE p k (pvA l 1) (l.drop 1) from E1)
          obtain ⟨b, off, eA, hbl, c0⟩ := R.out.cells K.out hlt
          subst eA
          rw [Nat.add_zero] at c0
          clear hb hz E1 e0 E
          generalize l.getD 0 0 = z at *
          clear hbd
          go_wp2_with (first | (refine wpList_load_row rfl 44 _ rfl g rfl 44 (znC p v) (0, 0) _ X1.out Try.underlying44 rfl (by kernel_rfl) ?_) | (go_at_call 45; refine (BL.out _).mono ?_; rintro e w1 ⟨rfl, hb⟩))
          go_roundw
          case rel => exact ⟨1, by omega, by go_num, hide (btrans K.out hb), EN⟩
          case measure => simp [intOf]; omega
        · have e0 : pvA l i = l.getD (i - 1) 0 := by unfold pvA; rw [if_neg h0]
          have e2 : pvA l (i + 1) = l.getD i 0 := by unfold pvA; rw [if_neg (by omega)]; rfl
          have hpos : 0 < i := by omega
          rw [e0] at E1
          obtain ⟨b, off, eA, hbl, c0, c1⟩ := R.out.cell2 K.out hlt
          subst eA
          by_cases hle : l.getD i 0 ≤ l.getD (i - 1) 0
          · rw [if_pos hle] at E1
            have EN := hide E1
            clear E E1 hb hz e0 e2
            generalize l.getD i 0 = z at *
            generalize l.getD (i - 1) 0 = z0 at *
            go_upto_region 6 with (first | (refine wpList_load_row rfl 44 _ rfl g rfl 44 (znC p v) (0, 0) _ X1.out Try.underlying44 rfl (by kernel_rfl) ?_) | (go_at_call 45; refine (BL.out _).mono ?_; rintro e w1 ⟨rfl, hb⟩))
            replace c1 := (hb.cell (p := ⟨b, off + (i - 1), none⟩) (Nat.lt_of_lt_of_le hbl K.out.size)).trans c1
            go_wp2
            go_ret
            exact ⟨ret_int EN.out.symm, btrans K0.out (btrans K.out hb)⟩
          · rw [if_neg hle] at E1
            have EN := hide (show er = lE p k (pvA l (i + 1)) (l.drop (i + 1)) by rw [e2]; exact E1)
            clear E E1 hb hz e0 e2
            generalize l.getD i 0 = z at *
            generalize l.getD (i - 1) 0 = z0 at *
            go_upto_region 6 with (first | (refine wpList_load_row rfl 44 _ rfl g rfl 44 (znC p v) (0, 0) _ X1.out Try.underlying44 rfl (by kernel_rfl) ?_) | (go_at_call 45; refine (BL.out _).mono ?_; rintro e w1 ⟨rfl, hb⟩))
            replace c1 := (hb.cell (p := ⟨b, off + (i - 1), none⟩) (Nat.lt_of_lt_of_le hbl K.out.size)).trans c1
            go_wp2
            go_roundw
            case rel => exact ⟨i + 1, by omega, by go_num, hide (btrans K.out hb), EN⟩
            case measure => simp [intOf]; omega
      · rw [decide_eq_false hb] at BL
        rw [if_neg hb] at E1
        have EN := hide E1
        obtain ⟨b, off, eA, hbl, c0⟩ := R.out.cells K.out hlt
        subst eA
        clear E E1 hb hz
        generalize l.getD i 0 = z at *
        go_wp2_with (first | (refine wpList_load_row rfl 44 _ rfl g rfl 44 (znC p v) (0, 0) _ X1.out Try.underlying44 rfl (by kernel_rfl) ?_) | (go_at_call 45; refine (BL.out _).mono ?_; rintro e w1 ⟨rfl, hb⟩))
        go_ret
        exact ⟨ret_int EN.out.symm, btrans K0.out (btrans K.out hb)⟩
    · obtain rfl : i = l.length := by omega
      have E1 := E.out
      rw [List.drop_length, lE_nil] at E1
      have EN := hide E1
      clear E E1
      go_wp2
      go_ret
      exact ⟨ret_int EN.out.symm, btrans K0.out K.out⟩
end Go.Proofs.Ytiopfeleaifpbab.Bd
