import Derived.Test.YtiopfeleaifpbabR4
import Derived.Test.YtiopfeleaifpbabW6
namespace Go.Proofs.Ytiopfeleaifpbab.Bd
open Go Go.RowKit
set_option linter.unusedVariables false
set_option linter.unusedSimpArgs false
def bk (L : Fl) : Is := [((L 0).length : Int), ((L 1).length : Int), ((L 2).length : Int), ((L 3).length : Int), ((L 4).length : Int)]
theorem bk_at (L : Fl) {k : Nat} (hk : k < 5) : (bk L).getD k 0 = ((L k).length : Int) := by rcases cases5 hk with rfl | rfl | rfl | rfl | rfl <;> rfl
theorem bk_take (L : Fl) {k : Nat} (hk : k < 5) : (bk L).take (k + 1) = (bk L).take k ++ [((L k).length : Int)] := by rcases cases5 hk with rfl | rfl | rfl | rfl | rfl <;> rfl
theorem bk_tlen (L : Fl) {k : Nat} (hk : k ≤ 5) : ((bk L).take k).length = k := by rw [List.length_take]; show min k 5 = k; omega
def bks (p : Pm) (L : Fl) : Is := if chk p L = 0 then bk L else []
/-- what Blocks answers -/
def BkR (p : Pm) (L : Fl) (w : World) (e : Ending) (w' : World) : Prop := ∃ u, e = .returned (.tuple #[u, .int .i64 (chk p L)]) ∧ IsI w' u (bks p L) ∧ Below w.heap.size w w'
theorem ret_si {fn : Func} {a : Act} {W : World} {k m : Nat} {t : Int} {A : Option Addr} {n c : Nat} {Q : Ending → World → Prop} (hr : fn.results = #[.tmp k, .tmp m]) (h2 : a.tmps.getD k undef = .slice A n c) (h3 : a.tmps.getD m undef = .int .i64 t) (hd : a.defers = [])
    (hq : Q (.returned (.tuple #[.slice A n c, .int .i64 t])) W) : bodyPost Try.prog fn Q .ret a W := by
  simp only [Array.getD_eq_getD_getElem?] at h2 h3
  exact bodyPost_ret (v := .tuple #[.slice A n c, .int .i64 t]) (by simp [results, hr, h2, h3, go_sem]; try rfl) hd hq
def RW (L : Fl) (w : World) (g k : Nat) : Prop := w.rowIs g 3 5 (fun j => .int .i64 (if j < k then ((L j).length : Int) else 0))
theorem RW.on {L : Fl} {w : World} {g k : Nat} (h : RW L w g k) : RW L (w.setCell ⟨g, k, none⟩ (.int .i64 ((L k).length : Int))) g (k + 1) := (World.rowIs.set h k (.int .i64 ((L k).length : Int))).congr fun i hi => by
  by_cases e : i = k
  · subst e; rw [if_pos rfl, if_pos (by omega)]
  · rw [if_neg e]
    by_cases e2 : i < k
    · rw [if_pos e2, if_pos (by omega)]
    · rw [if_neg e2, if_neg (by omega)]
theorem RW.is {L : Fl} {w : World} {g : Nat} (h : RW L w g 5) : IsI w (.slice (some ⟨g, 0, none⟩) 5 5) (bk L) := ⟨_, _, rfl, Nat.le_refl _, fun _ => ⟨g, 0, rfl, h.lt, fun k hk => by
  have h5 : k < 5 := hk
  rw [Nat.zero_add, World.rowIs.cell h h5, if_pos h5, bk_at L h5]⟩⟩
theorem make5 (w : World) : (Instr.makeSlice 33 (.int .i64 5) (.int .i64 5)).run Try.prog w = .ok (.slice (some ⟨w.heap.size, 0, none⟩) 5 5) (w.alloc (.cells (madeCells #[.int .i64 0] 5) 3)) :=
  run_make_row' (P := Try.prog) 33 3 (.int .i64 0) 8 Try.underlying33 info3 rfl .i64 .i64 5 (by omega) (by omega) w
theorem RW.made (L : Fl) (w : World) : RW L (w.alloc (.cells (madeCells #[.int .i64 0] 5) 3)) w.heap.size 0 :=
  (World.rowIs_made w (.int .i64 0) 5 3).congr fun i hi => by rw [if_neg (by omega)]
theorem isI_nil (w : World) : IsI w (.slice none 0 0) [] := ⟨none, 0, rfl, Nat.le_refl _, fun h => absurd rfl h⟩
set_option maxRecDepth 100000 in
set_option maxHeartbeats 8000000 in
theorem blocks_any (p : Pm) (v : Nat → Value) (L : Fl) (w : World) (hz : ZIn w p v L) : Calls Try.prog 22 #[.agg (znC p v)] w (BkR p L w) := by
  unfold BkR
  have X := hide (Box.new w 44 (znC p v))
  have K0 := hide (bal (brefl w) (.cells (znC p v) 44))
  have HZ := hide hz
  obtain ⟨g, hg⟩ : ∃ g, g = w.heap.size := ⟨_, rfl⟩
  obtain ⟨W0, hW0⟩ : ∃ W0, W0 = (w.alloc (.cells (znC p v) 44)) := ⟨_, rfl⟩
  rw [← hg, ← hW0] at X
  rw [← hW0] at K0
  have CH := hide (check_any p v L W0 (hz.below K0.out))
  clear hz
  by_cases hc : chk p L = 0
  · have EB := hide (show bks p L = bk L from if_pos hc)
    rw [hc] at CH ⊢
    clear hc
    go_enter Try.func22, Try.ntmps22
    go_upto_region 1 with fail
    rw [← hg, ← hW0]
    clear hg hW0
    go_upto_region 4 with (first | (refine wpList_load_row rfl 44 _ rfl g rfl 44 (znC p v) (0, 0) _ X.out Try.underlying44 rfl (by kernel_rfl) ?_) | (go_at_call 33; refine CH.out.mono ?_; rintro e w1 ⟨rfl, hb⟩; replace X := hide (X.out.below hb); replace K0 := hide (K0.out.trans (hb.mono K0.out.size)); clear hb))
    obtain ⟨zz, hzz⟩ : ∃ zz, zz = madeCells #[.int .i64 0] 5 := ⟨_, rfl⟩
    have hmk : ∀ w, (Instr.makeSlice 33 (.int .i64 5) (.int .i64 5)).run Try.prog w = .ok (.slice (some ⟨w.heap.size, 0, none⟩) 5 5) (w.alloc (.cells zz 3)) := fun w => by rw [hzz]; exact make5 w
    have R := hide (show RW L (w1.alloc (.cells zz 3)) w1.heap.size 0 by rw [hzz]; exact RW.made L w1)
    have M := bal (brefl w1) (.cells zz 3)
    have HGM := hide (show w.heap.size ≤ w1.heap.size from K0.out.size)
    replace X := hide (X.out.below M)
    replace K0 := hide (K0.out.trans (M.mono K0.out.size))
    clear M hzz
    go_upto_region 5 with fail
    obtain ⟨gm, hgm⟩ : ∃ g, g = w1.heap.size := ⟨_, rfl⟩
    rw [← hgm] at R HGM ⊢
    generalize w1.alloc (.cells zz 3) = w2 at *
    clear hgm hmk
    obtain ⟨y0, y1, y2, y3, y4, y5, y6, y7, y8, y9⟩ := box_all X.out
    go_wp2
    clear y0 y1 y2 y3 y4 y5 y6 y7 y8 y9 X
    go_loopw [16] (fun a wr => ∃ k : Nat, k ≤ 5 ∧ a = .int .i64 k ∧ Hid (RW L wr gm k) ∧ Hid (Below w.heap.size w wr)) (fun a _ => 5 - (intOf a).toNat)
    case atStart => exact ⟨0, by omega, rfl, R, K0⟩
    case round =>
      clear R K0
      obtain ⟨k, hk, rfl, R, K⟩ := hrel
      by_cases h5 : k < 5
      · have hk5 : (k : Int) < 5 := by omega
        have hk0 : (0 : Int) ≤ (k : Int) := by omega
        have IX := index_any v h5
        obtain ⟨A, c, ev, hcap, r⟩ := HZ.out.rd k h5
        rw [ev] at IX
        have cell := World.rowIs.cell R.out h5
        rw [if_neg (Nat.lt_irrefl k)] at cell
        have frz := World.rowIs.frozen R.out k
        have R2 := hide R.out.on
        have K2 := hide (K.out.setCell (p := ⟨gm, k, none⟩) HGM.out (.int .i64 ((L k).length : Int)))
        clear ev r hcap R K
        go_wp2
        go_roundw
        case rel => exact ⟨k + 1, by omega, by go_num, R2, K2⟩
        case measure => simp [intOf]; omega
      · obtain rfl : k = 5 := by omega
        have II := hide R.out.is
        go_wp2
        exact ret_si Try.results22 rfl rfl rfl ⟨_, rfl, by rw [EB.out]; exact II.out, K.out⟩
  · have EB := hide (show bks p L = [] from if_neg hc)
    have hne : (chk p L != 0) = true := by simpa using hc
    generalize bks p L = bl at *
    generalize chk p L = ce at *
    clear hc
    go_enter Try.func22, Try.ntmps22
    go_upto_region 1 with fail
    rw [← hg, ← hW0]
    clear hg hW0
    go_wp2_with (first | (refine wpList_load_row rfl 44 _ rfl g rfl 44 (znC p v) (0, 0) _ X.out Try.underlying44 rfl (by kernel_rfl) ?_) | (go_at_call 33; refine CH.out.mono ?_; rintro e w1 ⟨rfl, hb⟩))
    exact ret_si Try.results22 rfl rfl rfl ⟨_, rfl, by rw [EB.out]; exact isI_nil _, K0.out.trans (hb.mono K0.out.size)⟩
set_option maxRecDepth 100000 in
set_option maxHeartbeats 8000000 in
theorem rblocks_any (p : Pm) (v : Nat → Value) (L : Fl) (w : World) (hz : ZIn w p v L) : Calls Try.prog 23 #[.agg (znC p v)] w (BkR p L w) := by
  unfold BkR
  have X := hide (Box.new w 44 (znC p v))
  have K0 := hide (bal (brefl w) (.cells (znC p v) 44))
  have HZ := hide hz
  obtain ⟨g, hg⟩ : ∃ g, g = w.heap.size := ⟨_, rfl⟩
  obtain ⟨W0, hW0⟩ : ∃ W0, W0 = (w.alloc (.cells (znC p v) 44)) := ⟨_, rfl⟩
  rw [← hg, ← hW0] at X
  rw [← hW0] at K0
  have CH := hide (rcheck_any p v L W0 (hz.below K0.out))
  clear hz
  by_cases hc : chk p L = 0
  · have EB := hide (show bks p L = bk L from if_pos hc)
    rw [hc] at CH ⊢
    clear hc
    obtain ⟨i0, hi0, hz0, hz1, hz2⟩ := info_parts info3
    go_enter Try.func23, Try.ntmps23
    go_upto_region 1 with fail
    rw [← hg, ← hW0]
    clear hg hW0
    go_upto_region 6 with (first | (refine wpList_load_row rfl 44 _ rfl g rfl 44 (znC p v) (0, 0) _ X.out Try.underlying44 rfl (by kernel_rfl) ?_) | (go_at_call 34; refine CH.out.mono ?_; rintro e w1 ⟨rfl, hb⟩; replace X := hide (X.out.below hb); replace K0 := hide (K0.out.trans (hb.mono K0.out.size)); clear hb))
    have O := hide (show OwI w.heap.size w1 (.slice none 0 0) ((bk L).take 0) from World.ownsRow_nil _ _ _ _)
    go_loopw [5, 6] (fun a b wr => ∃ k : Nat, k ≤ 5 ∧ b = .int .i64 k ∧ Hid (OwI w.heap.size wr a ((bk L).take k)) ∧ Hid (Box wr g 44 (znC p v)) ∧ Hid (Below w.heap.size w wr)) (fun _ b _ => 5 - (intOf b).toNat)
    case atStart => exact ⟨0, by omega, rfl, O, X, K0⟩
    case round =>
      clear O X K0
      obtain ⟨k, hk, rfl, O, X, K⟩ := hrel
      obtain ⟨A, cap, ev, hcp⟩ := row_form O.out
      subst ev
      rw [bk_tlen L hk] at O ⊢
      by_cases h5 : k < 5
      · have hk5 : (k : Int) ≤ 4 := by omega
        have hk55 : (k : Int) < 5 := by omega
        have hk0 : (0 : Int) ≤ (k : Int) := by omega
        have s0 := box_list X.out h5
        obtain ⟨A2, c2, ev, hcap, r⟩ := HZ.out.rd k h5
        rw [ev] at s0
        have hgl := X.out.lt
        have TK := hide (bk_take L h5)
        generalize (L k).length = n at *
        have M := bal (brefl wr) (.cells #[.int .i64 (n : Int)] 3)
        have OA := hide (row_below O.out M)
        have XA := hide (X.out.below M)
        have NB := hide (cell_one_new wr (.int .i64 (n : Int)) 3)
        have KA := hide (K.out.trans (M.mono K.out.size))
        have HL := hide (bk_tlen L hk)
        generalize (bk L).take k = l at *
        replace OA := hide (show (wr.alloc (.cells #[.int .i64 (n : Int)] 3)).ownsRow w.heap.size 3 1 (.slice A k cap) k (l.map ic) by have := OA.out; rw [HL.out] at this; exact this)
        clear ev r hcap M O K X hcp HL
        go_wp2_with (at_builtin; refine wpList_append_own _ rfl (.tmp 16) (.tmp 22) 33 rfl w.heap.size 3 i0 _ 1 8 Try.underlying33 hi0 hz0 hz1 hz2 rfl (by omega) (.slice A k cap) k (l.map ic) rfl OA.out ⟨wr.heap.size, 0, none⟩ 1 1 [.int .i64 (n : Int)] rfl rfl NB.out (by intro u hu; rw [List.mem_singleton.1 hu]; rfl) (by simp only [maxLen]; omega) (by omega) KA.out.size ?_; intro v4 w4 hown4 hg4 _; obtain ⟨A4, cp4, rfl, _⟩ := row_form hown4; have KG := hide (Kp.grown (B := w.heap.size) OA.out hg4 (Nat.le_refl _) KA.out.size); have O4 := hide hown4; clear hown4 hg4)
        have ou := hide (show OwI w.heap.size w4 (.slice A4 (k + 1) cp4) ((bk L).take (k + 1)) by
          show w4.ownsRow w.heap.size 3 1 (.slice A4 (k + 1) cp4) ((bk L).take (k + 1)).length (((bk L).take (k + 1)).map ic)
          rw [bk_tlen L (show k + 1 ≤ 5 by omega), TK.out, List.map_append]
          exact O4.out)
        go_roundw
        case rel => exact ⟨k + 1, by omega, by go_num, ou, hide (XA.out.kp KG.out (by decide)), hide (KA.out.trans KG.out.below)⟩
        case measure => simp [intOf]; omega
      · obtain rfl : k = 5 := by omega
        have II := hide (show IsI wr (.slice A 5 cap) (bk L) from OwI.is (B := w.heap.size) O.out)
        go_wp2
        exact ret_si Try.results23 rfl rfl rfl ⟨_, rfl, by rw [EB.out]; exact II.out, K.out⟩
  · have EB := hide (show bks p L = [] from if_neg hc)
    have hne : (chk p L != 0) = true := by simpa using hc
    generalize bks p L = bl at *
    generalize chk p L = ce at *
    clear hc
    go_enter Try.func23, Try.ntmps23
    go_upto_region 1 with fail
    rw [← hg, ← hW0]
    clear hg hW0
    go_wp2_with (first | (refine wpList_load_row rfl 44 _ rfl g rfl 44 (znC p v) (0, 0) _ X.out Try.underlying44 rfl (by kernel_rfl) ?_) | (go_at_call 34; refine CH.out.mono ?_; rintro e w1 ⟨rfl, hb⟩))
    exact ret_si Try.results23 rfl rfl rfl ⟨_, rfl, by rw [EB.out]; exact isI_nil _, K0.out.trans (hb.mono K0.out.size)⟩
end Go.Proofs.Ytiopfeleaifpbab.Bd
