import Derived.Test.YtoogdggiemacjaaF17
import Derived.Test.YtoogdggiemacjaaF13
namespace Go.Proofs.Ytoogdggiemacjaa.Cw
open Go Go.RowKit
set_option linter.unusedVariables false
set_option linter.unusedSimpArgs false
theorem step_make {P : Program} {ops : Array Oper} {o : Oper} {a : Act} {w : World} {K : Act → World → Prop} {Q : Exit → Act → World → Prop} {E : Prop} (hgd : o.guard = none) (T : TypeId) (x y : Operand) (ho : o.op = .makeSlice T x y) (v1 v2 : Value) (hx : a.eval x = v1) (hy : a.eval y = v2) (v : Value) (w' : World)
    (hr : (Instr.makeSlice T v1 v2).run P w = .ok v w') (h : K (a.put o.dst v) w') : if Region.wanted o (yielded ops a.tmps) = true then Oper.wp P o a w K Q else E := by
  have hw : Region.wanted o (yielded ops a.tmps) = true := by simp [Region.wanted, hgd]
  rw [if_pos hw]
  unfold Oper.wp
  simp [execOp, ho, hx, hy, hr, Result.andThen]
  exact h
theorem newP (w : World) : RdP (w.alloc (.cells #[.int .i64 (-1), .bool false] 64)) (some ⟨w.heap.size, 0, none⟩) [((-1 : Int), false)] := fun _ => by
  refine ⟨w.heap.size, 0, rfl, by rw [alloc_size']; omega, fun k hk => ?_⟩
  have : k = 0 := by simp at hk; exact hk
  subst this
  have X := Box.new w 64 #[.int .i64 (-1), .bool false]
  exact ⟨X.cell 0, X.cell 1⟩
theorem set4_other (w : World) (g : Nat) (a b c d : Value) {k : Nat} (hk : k ≠ g) : ((((w.setCell ⟨g, 0, none⟩ a).setCell ⟨g, 1, none⟩ b).setCell ⟨g, 2, none⟩ c).setCell ⟨g, 3, none⟩ d).heap[k]? = w.heap[k]? :=
  (heap_setCell_other _ ⟨g, 3, none⟩ k d hk).trans ((heap_setCell_other _ ⟨g, 2, none⟩ k c hk).trans ((heap_setCell_other _ ⟨g, 1, none⟩ k b hk).trans (heap_setCell_other w ⟨g, 0, none⟩ k a hk)))
theorem below4 {a w : World} (h : Below a.heap.size a w) {g : Nat} (hg : a.heap.size ≤ g) (x y z u : Value) : Below a.heap.size a ((((w.setCell ⟨g, 0, none⟩ x).setCell ⟨g, 1, none⟩ y).setCell ⟨g, 2, none⟩ z).setCell ⟨g, 3, none⟩ u) :=
  bset (bset (bset (bset h (p := ⟨g, 0, none⟩) hg x) (p := ⟨g, 1, none⟩) hg y) (p := ⟨g, 2, none⟩) hg z) (p := ⟨g, 3, none⟩) hg u
theorem own_blk {w w' : World} {base N size : Nat} {t : TypeId} {v : Value} {xs : List Value} (h : w.ownsRow base t size v N xs) (e : ∀ k, base ≤ k → k < w.heap.size → w'.heap[k]? = w.heap[k]?) : w'.ownsRow base t size v N xs := by
  obtain ⟨hl, h | ⟨g, cap, cur, e2, hg, hh, r⟩⟩ := h
  · exact ⟨hl, .inl h⟩
  · exact ⟨hl, .inr ⟨g, cap, cur, e2, hg, (e g hg (blk_lt hh)).trans hh, r⟩⟩
theorem made_at {f j : Nat} (h : j < f * 2) : (madeCells #[.int .i64 0, .int .i64 0] (f * 2))[j]? = some (.int .i64 0) := by
  have hs := size_madeCells #[.int .i64 0, .int .i64 0] (f * 2)
  rw [Array.getElem?_eq_getElem (by omega)]
  unfold madeCells
  simp
  rcases (show j % 2 = 0 ∨ j % 2 = 1 by omega) with e | e <;> simp [e]
/-- a new machine -/
def nwM (f n : Nat) : Cow := ⟨n, [(true, List.replicate n (-1, false))], List.replicate f (0, 0), 0⟩
def nwG (f s : Int) : Cow × Int := if (1 ≤ f ∧ f ≤ 256) ∧ 1 ≤ s ∧ s ≤ 512 then (nwM f.toNat s.toNat, 0) else (zeroM, 2)
theorem new_in {W : World} {B gs gm f n pc : Nat} {pA : Option Addr} (hS : Box W gs 62 #[.bool true, .slice pA n pc]) (hM : Box W gm 53 (madeCells #[.int .i64 0, .int .i64 0] (f * 2))) (hP : W.ownsRow B 64 2 (.slice pA n pc) n (pcs (List.replicate n ((-1 : Int), false)))) : CwIn W (nwM f n) (some ⟨gs, 0, none⟩) 1 (some ⟨gm, 0, none⟩) f := by
  refine ⟨Nat.le_refl _, by show (List.replicate f _).length ≤ f; simp, fun _ => ⟨gs, 0, rfl, hS.lt, fun k hk => ?_⟩, fun _ => ⟨gm, 0, rfl, hM.lt, fun k hk => ?_⟩⟩
  · have : k = 0 := by have : k < 1 := hk
                       omega
    subst this
    refine ⟨.slice pA n pc, hS.cell 0, hS.cell 1, ?_⟩
    show IsP W (.slice pA n pc) (List.replicate n ((-1 : Int), false))
    exact isP_row (B := B) (by rw [List.length_replicate]; exact hP)
  · have hk2 : k < f := by have : k < (List.replicate f ((0 : Int), (0 : Int))).length := hk
                           simpa using this
    have e : fAt (nwM f n).fr k = (0, 0) := by
      show fAt (List.replicate f ((0 : Int), (0 : Int))) k = _
      unfold fAt
      rw [List.getD_eq_getElem?_getD, List.getElem?_replicate, if_pos hk2]; rfl
    rw [e, Nat.zero_add]
    exact ⟨(hM.cell _).trans (made_at (by omega)), (hM.cell _).trans (made_at (by omega))⟩
set_option maxRecDepth 100000 in
set_option maxHeartbeats 16000000 in
theorem new_ok (f n : Nat) (h1 : 1 ≤ f) (h2 : f ≤ 256) (h3 : 1 ≤ n) (h4 : n ≤ 512) (w : World) : Calls Try.prog 11 #[.int .i64 (f : Int), .int .i64 (n : Int)] w (Res w (nwM f n) 0) := by
  unfold Res
  have C1 := hide (fun w => count_any (f : Int) 256 w)
  have C2 := hide (fun w => count_any (n : Int) 512 w)
  rw [decide_eq_true (show 1 ≤ (f : Int) ∧ (f : Int) ≤ 256 by omega)] at C1
  rw [decide_eq_true (show 1 ≤ (n : Int) ∧ (n : Int) ≤ 512 by omega)] at C2
  have CN := hide (fun w => nothing_any w)
  have CR := hide (fun (A : Option Addr) (w : World) (h : RdP w A [((-1 : Int), false)]) => repeat_any ((-1 : Int), false) A 1 n w h h3 h4)
  obtain ⟨zz, hzz⟩ : ∃ zz, zz = madeCells #[.int .i64 0, .int .i64 0] (f * 2) := ⟨_, rfl⟩
  have MF := hide (fun (w : World) => show (Instr.makeSlice 26 (.int .i64 (f : Int)) (.int .i64 (f : Int))).run Try.prog w = .ok (.slice (some ⟨w.heap.size, 0, none⟩) f f) (w.alloc (.cells zz 53)) by rw [hzz]; exact makeF w f (by omega))
  have HZ := hide hzz
  clear hzz
  have K := hide (bal (brefl w) (.cells #[.int .i64 0, .slice none 0 0, .slice none 0 0, .int .i64 0] 28))
  have X4 := hide (Box.new w 28 #[.int .i64 0, .slice none 0 0, .slice none 0 0, .int .i64 0])
  go_enter Try.func11, Try.ntmps11
  go_upto_region 1 with fail
  obtain ⟨g4, hg⟩ : ∃ g, g = w.heap.size := ⟨_, rfl⟩
  have HB4 := hide (show w.heap.size ≤ g4 by omega)
  rw [← hg] at X4 ⊢
  clear hg
  generalize w.alloc (.cells #[.int .i64 0, .slice none 0 0, .slice none 0 0, .int .i64 0] 28) = w4 at *
  go_wp2_with fail
  refine (C1.out _).mono ?_
  rintro e w' ⟨rfl, rfl⟩
  go_wp2_with fail
  refine (C2.out _).mono ?_
  rintro e w' ⟨rfl, rfl⟩
  go_upto_region 3 with fail
  obtain ⟨B, hB⟩ : ∃ B, B = w4.heap.size := ⟨_, rfl⟩
  have HB := hide (show B ≤ w4.heap.size by omega)
  have G4 := hide (show g4 < B by have := X4.out.lt; omega)
  clear hB C1 C2
  refine wp_region_noPanic ?_
  refine wp_region_held_drew (S := (fun _ => True)) (by kernel_rfl) ?_ (fun hHeld => ?_)
  · trivial
  have KK := hide (below_drewN (brefl w4) 1)
  change Hid (Below w4.heap.size w4 w4.drew) at KK
  generalize w4.drew = v0 at *
  refine wpAnyH_take (i := 0) (oi := ⟨some 15, _, _, _, _, _⟩) (v := ?_) rfl (by kernel_rfl) (by kernel_rfl) (by kernel_rfl) (fun _ _ _ h => h) (Or.inl ⟨by kernel_rfl, ?_⟩) (by assumption) ?_
  rotate_left 1
  · (intro w hSw; (try dsimp only at hSw); go_simp) <;> (with_reducible rfl)
  (try simp only [Act.put, List.setIfInBounds_toArray, List.set_cons_succ, List.set_cons_zero])
  refine wpAnyH_take (i := 3) (oi := ⟨some 18, _, _, _, _, _⟩) (v := ?_) rfl (by kernel_rfl) (by kernel_rfl) (by kernel_rfl) (fun _ _ _ h => h) (Or.inl ⟨by kernel_rfl, ?_⟩) (by assumption) ?_
  rotate_left 1
  · (intro w hSw; (try dsimp only at hSw); go_simp) <;> (with_reducible rfl)
  (try simp only [Act.put, List.setIfInBounds_toArray, List.set_cons_succ, List.set_cons_zero])
  refine wpAnyH_take (i := 7) (oi := ⟨some 22, _, _, _, _, _⟩) (v := ?_) rfl (by kernel_rfl) (by kernel_rfl) (by kernel_rfl) (fun _ _ _ h => h) (Or.inl ⟨by kernel_rfl, ?_⟩) (by assumption) ?_
  rotate_left 1
  · (intro w hSw; (try dsimp only at hSw); go_simp) <;> (with_reducible rfl)
  (try simp only [Act.put, List.setIfInBounds_toArray, List.set_cons_succ, List.set_cons_zero])
  refine wpAnyH_ready (rs := [1, 8]) (by kernel_rfl) (by simp) ?_
  refine AllReadyH.cons (o := ⟨some 16, _, _, _, _, _⟩) rfl (fun K' hK => ?_) ?_
  · go_simp
    refine (CN.out _).mono ?_
    rintro e v1 ⟨rfl, hb⟩
    replace KK := hide (btrans KK.out hb)
    clear hb
    refine hK.out _ _ ?_ (fun hHeld => ?_)
    · trivial
    clear hK K'
    (try simp only [Act.put, List.setIfInBounds_toArray, List.set_cons_succ, List.set_cons_zero])
    refine wpAnyH_ready (rs := [2, 8]) (by kernel_rfl) (by simp) ?_
    refine AllReadyH.cons (o := ⟨some 17, _, _, _, _, _⟩) rfl (fun K' hK => ?_) ?_
    · go_simp
      have SZ := hide KK.out.size
      have hb := bal (brefl v1) (.cells #[.int .i64 (-1), .bool false] 64)
      have XP := hide (newP v1)
      replace KK := hide (btrans KK.out hb)
      clear hb
      generalize v1.heap.size = gp at *
      generalize v1.alloc (.cells #[.int .i64 (-1), .bool false] 64) = v2 at *
      refine hK.out _ _ ?_ (fun hHeld => ?_)
      · trivial
      clear hK K'
      (try simp only [Act.put, List.setIfInBounds_toArray, List.set_cons_succ, List.set_cons_zero])
      refine wpAnyH_ready (rs := [4, 8]) (by kernel_rfl) (by simp) ?_
      refine AllReadyH.cons (o := ⟨some 19, _, _, _, _, _⟩) rfl (fun K' hK => ?_) ?_
      · go_simp
        refine (CR.out _ _ XP.out).mono ?_
        rintro e v3 ⟨pv, rfl, op, hb⟩
        obtain ⟨pA, pc, rfl, hpc0⟩ := row_form op
        have hpc := hide hpc0
        clear hpc0
        replace XP := hide (RdP.below XP.out hb)
        have OP := hide (row_mono (base' := B) op (Nat.le_trans HB.out KK.out.size))
        replace KK := hide (btrans KK.out hb)
        clear hb op
        refine hK.out _ _ ?_ (fun hHeld => ?_)
        · trivial
        clear hK K'
        (try simp only [Act.put, List.setIfInBounds_toArray, List.set_cons_succ, List.set_cons_zero])
        refine wpAnyH_take (i := 5) (oi := ⟨some 20, _, _, _, _, _⟩) (v := ?_) rfl (by kernel_rfl) (by kernel_rfl) (by kernel_rfl) (fun _ _ _ h => h) (Or.inl ⟨by kernel_rfl, ?_⟩) (by assumption) ?_
        rotate_left 1
        · (intro w hSw; (try dsimp only at hSw); go_simp) <;> (with_reducible rfl)
        (try simp only [Act.put, List.setIfInBounds_toArray, List.set_cons_succ, List.set_cons_zero])
        refine wpAnyH_ready (rs := [6, 8]) (by kernel_rfl) (by simp) ?_
        refine AllReadyH.cons (o := ⟨some 21, _, _, _, _, _⟩) rfl (fun K' hK => ?_) ?_
        · go_simp
          have SZ := hide KK.out.size
          have hb := bal (brefl v3) (.cells #[.bool true, .slice pA n pc] 62)
          replace XP := hide (RdP.below XP.out hb)
          replace OP := hide (row_below OP.out hb)
          have XS := hide (Box.new v3 62 #[.bool true, .slice pA n pc])
          replace KK := hide (btrans KK.out hb)
          clear hb
          obtain ⟨gs, hgs⟩ : ∃ g, g = v3.heap.size := ⟨_, rfl⟩
          have XS2 := hide (show B ≤ gs by rw [hgs]; exact Nat.le_trans HB.out SZ.out)
          rw [← hgs] at XS ⊢
          clear hgs
          generalize v3.alloc (.cells #[.bool true, .slice pA n pc] 62) = v4 at *
          refine hK.out _ _ ?_ (fun hHeld => ?_)
          · trivial
          clear hK K'
          (try simp only [Act.put, List.setIfInBounds_toArray, List.set_cons_succ, List.set_cons_zero])
          refine wpAnyH_ready (rs := [8]) (by kernel_rfl) (by simp) ?_
          refine AllReadyH.cons (o := ⟨some 23, _, _, _, _, _⟩) rfl (fun K' hK => ?_) AllReadyH.nil
          refine step_make rfl 26 (.tmp 22) (.tmp 22) rfl _ _ rfl rfl _ _ (MF.out _) ?_
          have SZ := hide KK.out.size
          have hb := bal (brefl v4) (.cells zz 53)
          replace XP := hide (RdP.below XP.out hb)
          replace OP := hide (row_below OP.out hb)
          replace XS := hide (Box.below XS.out hb)
          have XM := hide (Box.new v4 53 zz)
          replace KK := hide (btrans KK.out hb)
          clear hb
          obtain ⟨gm, hgm⟩ : ∃ g, g = v4.heap.size := ⟨_, rfl⟩
          have XM2 := hide (show B ≤ gm by rw [hgm]; exact Nat.le_trans HB.out SZ.out)
          rw [← hgm] at XM ⊢
          clear hgm
          generalize v4.alloc (.cells zz 53) = v5 at *
          refine hK.out _ _ ?_ (fun hHeld => ?_)
          · trivial
          clear hK K'
          (try simp only [Act.put, List.setIfInBounds_toArray, List.set_cons_succ, List.set_cons_zero])
          refine wpAnyH_take (i := 9) (oi := ⟨some 24, _, _, _, _, _⟩) (v := ?_) rfl (by kernel_rfl) (by kernel_rfl) (by kernel_rfl) (fun _ _ _ h => h) (Or.inl ⟨by kernel_rfl, ?_⟩) (by assumption) ?_
          rotate_left 1
          · (intro w hSw; (try dsimp only at hSw); go_simp) <;> (with_reducible rfl)
          (try simp only [Act.put, List.setIfInBounds_toArray, List.set_cons_succ, List.set_cons_zero])
          refine wpAnyH_ready (rs := [10]) (by kernel_rfl) (by simp) ?_
          refine AllReadyH.cons (o := ⟨none, _, _, _, _, _⟩) rfl (fun K' hK => ?_) AllReadyH.nil
          have X5 := hide (Box.below X4.out KK.out)
          obtain ⟨xc0, xc1, xc2, xc3⟩ := box4 X5.out
          have xf0 := X5.out.frozen 0
          have xf1 := X5.out.frozen 1
          have xf2 := X5.out.frozen 2
          have xf3 := X5.out.frozen 3
          go_simp
          refine hK.out _ _ ?_ (fun hHeld => ?_)
          · trivial
          clear hK K'
          (try simp only [Act.put, List.setIfInBounds_toArray, List.set_cons_succ, List.set_cons_zero])
          refine wpAnyH_take (i := 11) (oi := ⟨some 5, _, _, _, _, _⟩) (v := ?_) rfl (by kernel_rfl) (by kernel_rfl) (by kernel_rfl) (fun _ _ _ h => h) (Or.inl ⟨by kernel_rfl, ?_⟩) (by assumption) ?_
          rotate_left 1
          · (intro w hSw; (try dsimp only at hSw); go_simp) <;> (with_reducible rfl)
          (try simp only [Act.put, List.setIfInBounds_toArray, List.set_cons_succ, List.set_cons_zero])
          refine wpAnyH_done (by kernel_rfl) ?_ _
          refine NoPanic.normal ?_
          have KN := hide KK.out.size
          have FS := hide (show gs ≠ g4 by have := G4.out; have := XS2.out; omega)
          have FM := hide (show gm ≠ g4 by have := G4.out; have := XM2.out; omega)
          have OP2 := hide (own_blk OP.out (fun k hk _ => set4_other v5 g4 (.int .i64 (n : Int)) (.slice (some ⟨gs, 0, none⟩) 1 1) (.slice (some ⟨gm, 0, none⟩) f f) (.int .i64 0) (show k ≠ g4 by have := G4.out; omega)))
          have XS3 := hide (show Box ((((v5.setCell ⟨g4, 0, none⟩ (.int .i64 (n : Int))).setCell ⟨g4, 1, none⟩ (.slice (some ⟨gs, 0, none⟩) 1 1)).setCell ⟨g4, 2, none⟩ (.slice (some ⟨gm, 0, none⟩) f f)).setCell ⟨g4, 3, none⟩ (.int .i64 0)) gs 62 #[.bool true, .slice pA n pc] from (set4_other v5 g4 _ _ _ _ FS.out).trans XS.out)
          have XM3 := hide (show Box ((((v5.setCell ⟨g4, 0, none⟩ (.int .i64 (n : Int))).setCell ⟨g4, 1, none⟩ (.slice (some ⟨gs, 0, none⟩) 1 1)).setCell ⟨g4, 2, none⟩ (.slice (some ⟨gm, 0, none⟩) f f)).setCell ⟨g4, 3, none⟩ (.int .i64 0)) gm 53 (madeCells #[.int .i64 0, .int .i64 0] (f * 2)) from (set4_other v5 g4 _ _ _ _ FM.out).trans (by rw [← HZ.out]; exact XM.out))
          go_wp2
          refine ret_c2 Try.results11 rfl rfl rfl (box4s X5.out) ⟨some ⟨gs, 0, none⟩, 1, some ⟨gm, 0, none⟩, f, ?_, new_in XS3.out XM3.out OP2.out, below4 (btrans K.out KK.out) HB4.out _ _ _ _⟩
          unfold cwA nwM
          simp
        refine AllReadyH.cons (o := ⟨some 23, _, _, _, _, _⟩) rfl (fun K' hK => ?_) AllReadyH.nil
        refine step_make rfl 26 (.tmp 22) (.tmp 22) rfl _ _ rfl rfl _ _ (MF.out _) ?_
        have SZ := hide KK.out.size
        have hb := bal (brefl v3) (.cells zz 53)
        replace XP := hide (RdP.below XP.out hb)
        replace OP := hide (row_below OP.out hb)
        have XM := hide (Box.new v3 53 zz)
        replace KK := hide (btrans KK.out hb)
        clear hb
        obtain ⟨gm, hgm⟩ : ∃ g, g = v3.heap.size := ⟨_, rfl⟩
        have XM2 := hide (show B ≤ gm by rw [hgm]; exact Nat.le_trans HB.out SZ.out)
        rw [← hgm] at XM ⊢
        clear hgm
        generalize v3.alloc (.cells zz 53) = v4 at *
        refine hK.out _ _ ?_ (fun hHeld => ?_)
        · trivial
        clear hK K'
        (try simp only [Act.put, List.setIfInBounds_toArray, List.set_cons_succ, List.set_cons_zero])
        refine wpAnyH_ready (rs := [6]) (by kernel_rfl) (by simp) ?_
        refine AllReadyH.cons (o := ⟨some 21, _, _, _, _, _⟩) rfl (fun K' hK => ?_) AllReadyH.nil
        go_simp
        have SZ := hide KK.out.size
        have hb := bal (brefl v4) (.cells #[.bool true, .slice pA n pc] 62)
        replace XP := hide (RdP.below XP.out hb)
        replace OP := hide (row_below OP.out hb)
        replace XM := hide (Box.below XM.out hb)
        have XS := hide (Box.new v4 62 #[.bool true, .slice pA n pc])
        replace KK := hide (btrans KK.out hb)
        clear hb
        obtain ⟨gs, hgs⟩ : ∃ g, g = v4.heap.size := ⟨_, rfl⟩
        have XS2 := hide (show B ≤ gs by rw [hgs]; exact Nat.le_trans HB.out SZ.out)
        rw [← hgs] at XS ⊢
        clear hgs
        generalize v4.alloc (.cells #[.bool true, .slice pA n pc] 62) = v5 at *
        refine hK.out _ _ ?_ (fun hHeld => ?_)
        · trivial
        clear hK K'
        (try simp only [Act.put, List.setIfInBounds_toArray, List.set_cons_succ, List.set_cons_zero])
        refine wpAnyH_take (i := 9) (oi := ⟨some 24, _, _, _, _, _⟩) (v := ?_) rfl (by kernel_rfl) (by kernel_rfl) (by kernel_rfl) (fun _ _ _ h => h) (Or.inl ⟨by kernel_rfl, ?_⟩) (by assumption) ?_
        rotate_left 1
        · (intro w hSw; (try dsimp only at hSw); go_simp) <;> (with_reducible rfl)
        (try simp only [Act.put, List.setIfInBounds_toArray, List.set_cons_succ, List.set_cons_zero])
        refine wpAnyH_ready (rs := [10]) (by kernel_rfl) (by simp) ?_
        refine AllReadyH.cons (o := ⟨none, _, _, _, _, _⟩) rfl (fun K' hK => ?_) AllReadyH.nil
        have X5 := hide (Box.below X4.out KK.out)
        obtain ⟨xc0, xc1, xc2, xc3⟩ := box4 X5.out
        have xf0 := X5.out.frozen 0
        have xf1 := X5.out.frozen 1
        have xf2 := X5.out.frozen 2
        have xf3 := X5.out.frozen 3
        go_simp
        refine hK.out _ _ ?_ (fun hHeld => ?_)
        · trivial
        clear hK K'
        (try simp only [Act.put, List.setIfInBounds_toArray, List.set_cons_succ, List.set_cons_zero])
        refine wpAnyH_take (i := 11) (oi := ⟨some 5, _, _, _, _, _⟩) (v := ?_) rfl (by kernel_rfl) (by kernel_rfl) (by kernel_rfl) (fun _ _ _ h => h) (Or.inl ⟨by kernel_rfl, ?_⟩) (by assumption) ?_
        rotate_left 1
        · (intro w hSw; (try dsimp only at hSw); go_simp) <;> (with_reducible rfl)
        (try simp only [Act.put, List.setIfInBounds_toArray, List.set_cons_succ, List.set_cons_zero])
        refine wpAnyH_done (by kernel_rfl) ?_ _
        refine NoPanic.normal ?_
        have KN := hide KK.out.size
        have FS := hide (show gs ≠ g4 by have := G4.out; have := XS2.out; omega)
        have FM := hide (show gm ≠ g4 by have := G4.out; have := XM2.out; omega)
        have OP2 := hide (own_blk OP.out (fun k hk _ => set4_other v5 g4 (.int .i64 (n : Int)) (.slice (some ⟨gs, 0, none⟩) 1 1) (.slice (some ⟨gm, 0, none⟩) f f) (.int .i64 0) (show k ≠ g4 by have := G4.out; omega)))
        have XS3 := hide (show Box ((((v5.setCell ⟨g4, 0, none⟩ (.int .i64 (n : Int))).setCell ⟨g4, 1, none⟩ (.slice (some ⟨gs, 0, none⟩) 1 1)).setCell ⟨g4, 2, none⟩ (.slice (some ⟨gm, 0, none⟩) f f)).setCell ⟨g4, 3, none⟩ (.int .i64 0)) gs 62 #[.bool true, .slice pA n pc] from (set4_other v5 g4 _ _ _ _ FS.out).trans XS.out)
        have XM3 := hide (show Box ((((v5.setCell ⟨g4, 0, none⟩ (.int .i64 (n : Int))).setCell ⟨g4, 1, none⟩ (.slice (some ⟨gs, 0, none⟩) 1 1)).setCell ⟨g4, 2, none⟩ (.slice (some ⟨gm, 0, none⟩) f f)).setCell ⟨g4, 3, none⟩ (.int .i64 0)) gm 53 (madeCells #[.int .i64 0, .int .i64 0] (f * 2)) from (set4_other v5 g4 _ _ _ _ FM.out).trans (by rw [← HZ.out]; exact XM.out))
        go_wp2
        refine ret_c2 Try.results11 rfl rfl rfl (box4s X5.out) ⟨some ⟨gs, 0, none⟩, 1, some ⟨gm, 0, none⟩, f, ?_, new_in XS3.out XM3.out OP2.out, below4 (btrans K.out KK.out) HB4.out _ _ _ _⟩
        unfold cwA nwM
        simp
      refine AllReadyH.cons (o := ⟨some 23, _, _, _, _, _⟩) rfl (fun K' hK => ?_) AllReadyH.nil
      refine step_make rfl 26 (.tmp 22) (.tmp 22) rfl _ _ rfl rfl _ _ (MF.out _) ?_
      have SZ := hide KK.out.size
      have hb := bal (brefl v2) (.cells zz 53)
      replace XP := hide (RdP.below XP.out hb)
      have XM := hide (Box.new v2 53 zz)
      replace KK := hide (btrans KK.out hb)
      clear hb
      obtain ⟨gm, hgm⟩ : ∃ g, g = v2.heap.size := ⟨_, rfl⟩
      have XM2 := hide (show B ≤ gm by rw [hgm]; exact Nat.le_trans HB.out SZ.out)
      rw [← hgm] at XM ⊢
      clear hgm
      generalize v2.alloc (.cells zz 53) = v3 at *
      refine hK.out _ _ ?_ (fun hHeld => ?_)
      · trivial
      clear hK K'
      (try simp only [Act.put, List.setIfInBounds_toArray, List.set_cons_succ, List.set_cons_zero])
      refine wpAnyH_ready (rs := [4]) (by kernel_rfl) (by simp) ?_
      refine AllReadyH.cons (o := ⟨some 19, _, _, _, _, _⟩) rfl (fun K' hK => ?_) AllReadyH.nil
      go_simp
      refine (CR.out _ _ XP.out).mono ?_
      rintro e v4 ⟨pv, rfl, op, hb⟩
      obtain ⟨pA, pc, rfl, hpc0⟩ := row_form op
      have hpc := hide hpc0
      clear hpc0
      replace XP := hide (RdP.below XP.out hb)
      replace XM := hide (Box.below XM.out hb)
      have OP := hide (row_mono (base' := B) op (Nat.le_trans HB.out KK.out.size))
      replace KK := hide (btrans KK.out hb)
      clear hb op
      refine hK.out _ _ ?_ (fun hHeld => ?_)
      · trivial
      clear hK K'
      (try simp only [Act.put, List.setIfInBounds_toArray, List.set_cons_succ, List.set_cons_zero])
      refine wpAnyH_take (i := 5) (oi := ⟨some 20, _, _, _, _, _⟩) (v := ?_) rfl (by kernel_rfl) (by kernel_rfl) (by kernel_rfl) (fun _ _ _ h => h) (Or.inl ⟨by kernel_rfl, ?_⟩) (by assumption) ?_
      rotate_left 1
      · (intro w hSw; (try dsimp only at hSw); go_simp) <;> (with_reducible rfl)
      (try simp only [Act.put, List.setIfInBounds_toArray, List.set_cons_succ, List.set_cons_zero])
      refine wpAnyH_ready (rs := [6]) (by kernel_rfl) (by simp) ?_
      refine AllReadyH.cons (o := ⟨some 21, _, _, _, _, _⟩) rfl (fun K' hK => ?_) AllReadyH.nil
      go_simp
      have SZ := hide KK.out.size
      have hb := bal (brefl v4) (.cells #[.bool true, .slice pA n pc] 62)
      replace XP := hide (RdP.below XP.out hb)
      replace OP := hide (row_below OP.out hb)
      replace XM := hide (Box.below XM.out hb)
      have XS := hide (Box.new v4 62 #[.bool true, .slice pA n pc])
      replace KK := hide (btrans KK.out hb)
      clear hb
      obtain ⟨gs, hgs⟩ : ∃ g, g = v4.heap.size := ⟨_, rfl⟩
      have XS2 := hide (show B ≤ gs by rw [hgs]; exact Nat.le_trans HB.out SZ.out)
      rw [← hgs] at XS ⊢
      clear hgs
      generalize v4.alloc (.cells #[.bool true, .slice pA n pc] 62) = v5 at *
      refine hK.out _ _ ?_ (fun hHeld => ?_)
      · trivial
      clear hK K'
      (try simp only [Act.put, List.setIfInBounds_toArray, List.set_cons_succ, List.set_cons_zero])
      refine wpAnyH_take (i := 9) (oi := ⟨some 24, _, _, _, _, _⟩) (v := ?_) rfl (by kernel_rfl) (by kernel_rfl) (by kernel_rfl) (fun _ _ _ h => h) (Or.inl ⟨by kernel_rfl, ?_⟩) (by assumption) ?_
      rotate_left 1
      · (intro w hSw; (try dsimp only at hSw); go_simp) <;> (with_reducible rfl)
      (try simp only [Act.put, List.setIfInBounds_toArray, List.set_cons_succ, List.set_cons_zero])
      refine wpAnyH_ready (rs := [10]) (by kernel_rfl) (by simp) ?_
      refine AllReadyH.cons (o := ⟨none, _, _, _, _, _⟩) rfl (fun K' hK => ?_) AllReadyH.nil
      have X5 := hide (Box.below X4.out KK.out)
      obtain ⟨xc0, xc1, xc2, xc3⟩ := box4 X5.out
      have xf0 := X5.out.frozen 0
      have xf1 := X5.out.frozen 1
      have xf2 := X5.out.frozen 2
      have xf3 := X5.out.frozen 3
      go_simp
      refine hK.out _ _ ?_ (fun hHeld => ?_)
      · trivial
      clear hK K'
      (try simp only [Act.put, List.setIfInBounds_toArray, List.set_cons_succ, List.set_cons_zero])
      refine wpAnyH_take (i := 11) (oi := ⟨some 5, _, _, _, _, _⟩) (v := ?_) rfl (by kernel_rfl) (by kernel_rfl) (by kernel_rfl) (fun _ _ _ h => h) (Or.inl ⟨by kernel_rfl, ?_⟩) (by assumption) ?_
      rotate_left 1
      · (intro w hSw; (try dsimp only at hSw); go_simp) <;> (with_reducible rfl)
      (try simp only [Act.put, List.setIfInBounds_toArray, List.set_cons_succ, List.set_cons_zero])
      refine wpAnyH_done (by kernel_rfl) ?_ _
      refine NoPanic.normal ?_
      have KN := hide KK.out.size
      have FS := hide (show gs ≠ g4 by have := G4.out; have := XS2.out; omega)
      have FM := hide (show gm ≠ g4 by have := G4.out; have := XM2.out; omega)
      have OP2 := hide (own_blk OP.out (fun k hk _ => set4_other v5 g4 (.int .i64 (n : Int)) (.slice (some ⟨gs, 0, none⟩) 1 1) (.slice (some ⟨gm, 0, none⟩) f f) (.int .i64 0) (show k ≠ g4 by have := G4.out; omega)))
      have XS3 := hide (show Box ((((v5.setCell ⟨g4, 0, none⟩ (.int .i64 (n : Int))).setCell ⟨g4, 1, none⟩ (.slice (some ⟨gs, 0, none⟩) 1 1)).setCell ⟨g4, 2, none⟩ (.slice (some ⟨gm, 0, none⟩) f f)).setCell ⟨g4, 3, none⟩ (.int .i64 0)) gs 62 #[.bool true, .slice pA n pc] from (set4_other v5 g4 _ _ _ _ FS.out).trans XS.out)
      have XM3 := hide (show Box ((((v5.setCell ⟨g4, 0, none⟩ (.int .i64 (n : Int))).setCell ⟨g4, 1, none⟩ (.slice (some ⟨gs, 0, none⟩) 1 1)).setCell ⟨g4, 2, none⟩ (.slice (some ⟨gm, 0, none⟩) f f)).setCell ⟨g4, 3, none⟩ (.int .i64 0)) gm 53 (madeCells #[.int .i64 0, .int .i64 0] (f * 2)) from (set4_other v5 g4 _ _ _ _ FM.out).trans (by rw [← HZ.out]; exact XM.out))
      go_wp2
      refine ret_c2 Try.results11 rfl rfl rfl (box4s X5.out) ⟨some ⟨gs, 0, none⟩, 1, some ⟨gm, 0, none⟩, f, ?_, new_in XS3.out XM3.out OP2.out, below4 (btrans K.out KK.out) HB4.out _ _ _ _⟩
      unfold cwA nwM
      simp
    refine AllReadyH.cons (o := ⟨some 23, _, _, _, _, _⟩) rfl (fun K' hK => ?_) AllReadyH.nil
    refine step_make rfl 26 (.tmp 22) (.tmp 22) rfl _ _ rfl rfl _ _ (MF.out _) ?_
    have SZ := hide KK.out.size
    have hb := bal (brefl v1) (.cells zz 53)
    have XM := hide (Box.new v1 53 zz)
    replace KK := hide (btrans KK.out hb)
    clear hb
    obtain ⟨gm, hgm⟩ : ∃ g, g = v1.heap.size := ⟨_, rfl⟩
    have XM2 := hide (show B ≤ gm by rw [hgm]; exact Nat.le_trans HB.out SZ.out)
    rw [← hgm] at XM ⊢
    clear hgm
    generalize v1.alloc (.cells zz 53) = v2 at *
    refine hK.out _ _ ?_ (fun hHeld => ?_)
    · trivial
    clear hK K'
    (try simp only [Act.put, List.setIfInBounds_toArray, List.set_cons_succ, List.set_cons_zero])
    refine wpAnyH_ready (rs := [2]) (by kernel_rfl) (by simp) ?_
    refine AllReadyH.cons (o := ⟨some 17, _, _, _, _, _⟩) rfl (fun K' hK => ?_) AllReadyH.nil
    go_simp
    have SZ := hide KK.out.size
    have hb := bal (brefl v2) (.cells #[.int .i64 (-1), .bool false] 64)
    replace XM := hide (Box.below XM.out hb)
    have XP := hide (newP v2)
    replace KK := hide (btrans KK.out hb)
    clear hb
    generalize v2.heap.size = gp at *
    generalize v2.alloc (.cells #[.int .i64 (-1), .bool false] 64) = v3 at *
    refine hK.out _ _ ?_ (fun hHeld => ?_)
    · trivial
    clear hK K'
    (try simp only [Act.put, List.setIfInBounds_toArray, List.set_cons_succ, List.set_cons_zero])
    refine wpAnyH_ready (rs := [4]) (by kernel_rfl) (by simp) ?_
    refine AllReadyH.cons (o := ⟨some 19, _, _, _, _, _⟩) rfl (fun K' hK => ?_) AllReadyH.nil
    go_simp
    refine (CR.out _ _ XP.out).mono ?_
    rintro e v4 ⟨pv, rfl, op, hb⟩
    obtain ⟨pA, pc, rfl, hpc0⟩ := row_form op
    have hpc := hide hpc0
    clear hpc0
    replace XP := hide (RdP.below XP.out hb)
    replace XM := hide (Box.below XM.out hb)
    have OP := hide (row_mono (base' := B) op (Nat.le_trans HB.out KK.out.size))
    replace KK := hide (btrans KK.out hb)
    clear hb op
    refine hK.out _ _ ?_ (fun hHeld => ?_)
    · trivial
    clear hK K'
    (try simp only [Act.put, List.setIfInBounds_toArray, List.set_cons_succ, List.set_cons_zero])
    refine wpAnyH_take (i := 5) (oi := ⟨some 20, _, _, _, _, _⟩) (v := ?_) rfl (by kernel_rfl) (by kernel_rfl) (by kernel_rfl) (fun _ _ _ h => h) (Or.inl ⟨by kernel_rfl, ?_⟩) (by assumption) ?_
    rotate_left 1
    · (intro w hSw; (try dsimp only at hSw); go_simp) <;> (with_reducible rfl)
    (try simp only [Act.put, List.setIfInBounds_toArray, List.set_cons_succ, List.set_cons_zero])
    refine wpAnyH_ready (rs := [6]) (by kernel_rfl) (by simp) ?_
    refine AllReadyH.cons (o := ⟨some 21, _, _, _, _, _⟩) rfl (fun K' hK => ?_) AllReadyH.nil
    go_simp
    have SZ := hide KK.out.size
    have hb := bal (brefl v4) (.cells #[.bool true, .slice pA n pc] 62)
    replace XP := hide (RdP.below XP.out hb)
    replace OP := hide (row_below OP.out hb)
    replace XM := hide (Box.below XM.out hb)
    have XS := hide (Box.new v4 62 #[.bool true, .slice pA n pc])
    replace KK := hide (btrans KK.out hb)
    clear hb
    obtain ⟨gs, hgs⟩ : ∃ g, g = v4.heap.size := ⟨_, rfl⟩
    have XS2 := hide (show B ≤ gs by rw [hgs]; exact Nat.le_trans HB.out SZ.out)
    rw [← hgs] at XS ⊢
    clear hgs
    generalize v4.alloc (.cells #[.bool true, .slice pA n pc] 62) = v5 at *
    refine hK.out _ _ ?_ (fun hHeld => ?_)
    · trivial
    clear hK K'
    (try simp only [Act.put, List.setIfInBounds_toArray, List.set_cons_succ, List.set_cons_zero])
    refine wpAnyH_take (i := 9) (oi := ⟨some 24, _, _, _, _, _⟩) (v := ?_) rfl (by kernel_rfl) (by kernel_rfl) (by kernel_rfl) (fun _ _ _ h => h) (Or.inl ⟨by kernel_rfl, ?_⟩) (by assumption) ?_
    rotate_left 1
    · (intro w hSw; (try dsimp only at hSw); go_simp) <;> (with_reducible rfl)
    (try simp only [Act.put, List.setIfInBounds_toArray, List.set_cons_succ, List.set_cons_zero])
    refine wpAnyH_ready (rs := [10]) (by kernel_rfl) (by simp) ?_
    refine AllReadyH.cons (o := ⟨none, _, _, _, _, _⟩) rfl (fun K' hK => ?_) AllReadyH.nil
    have X5 := hide (Box.below X4.out KK.out)
    obtain ⟨xc0, xc1, xc2, xc3⟩ := box4 X5.out
    have xf0 := X5.out.frozen 0
    have xf1 := X5.out.frozen 1
    have xf2 := X5.out.frozen 2
    have xf3 := X5.out.frozen 3
    go_simp
    refine hK.out _ _ ?_ (fun hHeld => ?_)
    · trivial
    clear hK K'
    (try simp only [Act.put, List.setIfInBounds_toArray, List.set_cons_succ, List.set_cons_zero])
    refine wpAnyH_take (i := 11) (oi := ⟨some 5, _, _, _, _, _⟩) (v := ?_) rfl (by kernel_rfl) (by kernel_rfl) (by kernel_rfl) (fun _ _ _ h => h) (Or.inl ⟨by kernel_rfl, ?_⟩) (by assumption) ?_
    rotate_left 1
    · (intro w hSw; (try dsimp only at hSw); go_simp) <;> (with_reducible rfl)
    (try simp only [Act.put, List.setIfInBounds_toArray, List.set_cons_succ, List.set_cons_zero])
    refine wpAnyH_done (by kernel_rfl) ?_ _
    refine NoPanic.normal ?_
    have KN := hide KK.out.size
    have FS := hide (show gs ≠ g4 by have := G4.out; have := XS2.out; omega)
    have FM := hide (show gm ≠ g4 by have := G4.out; have := XM2.out; omega)
    have OP2 := hide (own_blk OP.out (fun k hk _ => set4_other v5 g4 (.int .i64 (n : Int)) (.slice (some ⟨gs, 0, none⟩) 1 1) (.slice (some ⟨gm, 0, none⟩) f f) (.int .i64 0) (show k ≠ g4 by have := G4.out; omega)))
    have XS3 := hide (show Box ((((v5.setCell ⟨g4, 0, none⟩ (.int .i64 (n : Int))).setCell ⟨g4, 1, none⟩ (.slice (some ⟨gs, 0, none⟩) 1 1)).setCell ⟨g4, 2, none⟩ (.slice (some ⟨gm, 0, none⟩) f f)).setCell ⟨g4, 3, none⟩ (.int .i64 0)) gs 62 #[.bool true, .slice pA n pc] from (set4_other v5 g4 _ _ _ _ FS.out).trans XS.out)
    have XM3 := hide (show Box ((((v5.setCell ⟨g4, 0, none⟩ (.int .i64 (n : Int))).setCell ⟨g4, 1, none⟩ (.slice (some ⟨gs, 0, none⟩) 1 1)).setCell ⟨g4, 2, none⟩ (.slice (some ⟨gm, 0, none⟩) f f)).setCell ⟨g4, 3, none⟩ (.int .i64 0)) gm 53 (madeCells #[.int .i64 0, .int .i64 0] (f * 2)) from (set4_other v5 g4 _ _ _ _ FM.out).trans (by rw [← HZ.out]; exact XM.out))
    go_wp2
    refine ret_c2 Try.results11 rfl rfl rfl (box4s X5.out) ⟨some ⟨gs, 0, none⟩, 1, some ⟨gm, 0, none⟩, f, ?_, new_in XS3.out XM3.out OP2.out, below4 (btrans K.out KK.out) HB4.out _ _ _ _⟩
    unfold cwA nwM
    simp
  refine AllReadyH.cons (o := ⟨some 23, _, _, _, _, _⟩) rfl (fun K' hK => ?_) AllReadyH.nil
  refine step_make rfl 26 (.tmp 22) (.tmp 22) rfl _ _ rfl rfl _ _ (MF.out _) ?_
  have SZ := hide KK.out.size
  have hb := bal (brefl v0) (.cells zz 53)
  have XM := hide (Box.new v0 53 zz)
  replace KK := hide (btrans KK.out hb)
  clear hb
  obtain ⟨gm, hgm⟩ : ∃ g, g = v0.heap.size := ⟨_, rfl⟩
  have XM2 := hide (show B ≤ gm by rw [hgm]; exact Nat.le_trans HB.out SZ.out)
  rw [← hgm] at XM ⊢
  clear hgm
  generalize v0.alloc (.cells zz 53) = v1 at *
  refine hK.out _ _ ?_ (fun hHeld => ?_)
  · trivial
  clear hK K'
  (try simp only [Act.put, List.setIfInBounds_toArray, List.set_cons_succ, List.set_cons_zero])
  refine wpAnyH_ready (rs := [1]) (by kernel_rfl) (by simp) ?_
  refine AllReadyH.cons (o := ⟨some 16, _, _, _, _, _⟩) rfl (fun K' hK => ?_) AllReadyH.nil
  go_simp
  refine (CN.out _).mono ?_
  rintro e v2 ⟨rfl, hb⟩
  replace XM := hide (Box.below XM.out hb)
  replace KK := hide (btrans KK.out hb)
  clear hb
  refine hK.out _ _ ?_ (fun hHeld => ?_)
  · trivial
  clear hK K'
  (try simp only [Act.put, List.setIfInBounds_toArray, List.set_cons_succ, List.set_cons_zero])
  refine wpAnyH_ready (rs := [2]) (by kernel_rfl) (by simp) ?_
  refine AllReadyH.cons (o := ⟨some 17, _, _, _, _, _⟩) rfl (fun K' hK => ?_) AllReadyH.nil
  go_simp
  have SZ := hide KK.out.size
  have hb := bal (brefl v2) (.cells #[.int .i64 (-1), .bool false] 64)
  replace XM := hide (Box.below XM.out hb)
  have XP := hide (newP v2)
  replace KK := hide (btrans KK.out hb)
  clear hb
  generalize v2.heap.size = gp at *
  generalize v2.alloc (.cells #[.int .i64 (-1), .bool false] 64) = v3 at *
  refine hK.out _ _ ?_ (fun hHeld => ?_)
  · trivial
  clear hK K'
  (try simp only [Act.put, List.setIfInBounds_toArray, List.set_cons_succ, List.set_cons_zero])
  refine wpAnyH_ready (rs := [4]) (by kernel_rfl) (by simp) ?_
  refine AllReadyH.cons (o := ⟨some 19, _, _, _, _, _⟩) rfl (fun K' hK => ?_) AllReadyH.nil
  go_simp
  refine (CR.out _ _ XP.out).mono ?_
  rintro e v4 ⟨pv, rfl, op, hb⟩
  obtain ⟨pA, pc, rfl, hpc0⟩ := row_form op
  have hpc := hide hpc0
  clear hpc0
  replace XP := hide (RdP.below XP.out hb)
  replace XM := hide (Box.below XM.out hb)
  have OP := hide (row_mono (base' := B) op (Nat.le_trans HB.out KK.out.size))
  replace KK := hide (btrans KK.out hb)
  clear hb op
  refine hK.out _ _ ?_ (fun hHeld => ?_)
  · trivial
  clear hK K'
  (try simp only [Act.put, List.setIfInBounds_toArray, List.set_cons_succ, List.set_cons_zero])
  refine wpAnyH_take (i := 5) (oi := ⟨some 20, _, _, _, _, _⟩) (v := ?_) rfl (by kernel_rfl) (by kernel_rfl) (by kernel_rfl) (fun _ _ _ h => h) (Or.inl ⟨by kernel_rfl, ?_⟩) (by assumption) ?_
  rotate_left 1
  · (intro w hSw; (try dsimp only at hSw); go_simp) <;> (with_reducible rfl)
  (try simp only [Act.put, List.setIfInBounds_toArray, List.set_cons_succ, List.set_cons_zero])
  refine wpAnyH_ready (rs := [6]) (by kernel_rfl) (by simp) ?_
  refine AllReadyH.cons (o := ⟨some 21, _, _, _, _, _⟩) rfl (fun K' hK => ?_) AllReadyH.nil
  go_simp
  have SZ := hide KK.out.size
  have hb := bal (brefl v4) (.cells #[.bool true, .slice pA n pc] 62)
  replace XP := hide (RdP.below XP.out hb)
  replace OP := hide (row_below OP.out hb)
  replace XM := hide (Box.below XM.out hb)
  have XS := hide (Box.new v4 62 #[.bool true, .slice pA n pc])
  replace KK := hide (btrans KK.out hb)
  clear hb
  obtain ⟨gs, hgs⟩ : ∃ g, g = v4.heap.size := ⟨_, rfl⟩
  have XS2 := hide (show B ≤ gs by rw [hgs]; exact Nat.le_trans HB.out SZ.out)
  rw [← hgs] at XS ⊢
  clear hgs
  generalize v4.alloc (.cells #[.bool true, .slice pA n pc] 62) = v5 at *
  refine hK.out _ _ ?_ (fun hHeld => ?_)
  · trivial
  clear hK K'
  (try simp only [Act.put, List.setIfInBounds_toArray, List.set_cons_succ, List.set_cons_zero])
  refine wpAnyH_take (i := 9) (oi := ⟨some 24, _, _, _, _, _⟩) (v := ?_) rfl (by kernel_rfl) (by kernel_rfl) (by kernel_rfl) (fun _ _ _ h => h) (Or.inl ⟨by kernel_rfl, ?_⟩) (by assumption) ?_
  rotate_left 1
  · (intro w hSw; (try dsimp only at hSw); go_simp) <;> (with_reducible rfl)
  (try simp only [Act.put, List.setIfInBounds_toArray, List.set_cons_succ, List.set_cons_zero])
  refine wpAnyH_ready (rs := [10]) (by kernel_rfl) (by simp) ?_
  refine AllReadyH.cons (o := ⟨none, _, _, _, _, _⟩) rfl (fun K' hK => ?_) AllReadyH.nil
  have X5 := hide (Box.below X4.out KK.out)
  obtain ⟨xc0, xc1, xc2, xc3⟩ := box4 X5.out
  have xf0 := X5.out.frozen 0
  have xf1 := X5.out.frozen 1
  have xf2 := X5.out.frozen 2
  have xf3 := X5.out.frozen 3
  go_simp
  refine hK.out _ _ ?_ (fun hHeld => ?_)
  · trivial
  clear hK K'
  (try simp only [Act.put, List.setIfInBounds_toArray, List.set_cons_succ, List.set_cons_zero])
  refine wpAnyH_take (i := 11) (oi := ⟨some 5, _, _, _, _, _⟩) (v := ?_) rfl (by kernel_rfl) (by kernel_rfl) (by kernel_rfl) (fun _ _ _ h => h) (Or.inl ⟨by kernel_rfl, ?_⟩) (by assumption) ?_
  rotate_left 1
  · (intro w hSw; (try dsimp only at hSw); go_simp) <;> (with_reducible rfl)
  (try simp only [Act.put, List.setIfInBounds_toArray, List.set_cons_succ, List.set_cons_zero])
  refine wpAnyH_done (by kernel_rfl) ?_ _
  refine NoPanic.normal ?_
  have KN := hide KK.out.size
  have FS := hide (show gs ≠ g4 by have := G4.out; have := XS2.out; omega)
  have FM := hide (show gm ≠ g4 by have := G4.out; have := XM2.out; omega)
  have OP2 := hide (own_blk OP.out (fun k hk _ => set4_other v5 g4 (.int .i64 (n : Int)) (.slice (some ⟨gs, 0, none⟩) 1 1) (.slice (some ⟨gm, 0, none⟩) f f) (.int .i64 0) (show k ≠ g4 by have := G4.out; omega)))
  have XS3 := hide (show Box ((((v5.setCell ⟨g4, 0, none⟩ (.int .i64 (n : Int))).setCell ⟨g4, 1, none⟩ (.slice (some ⟨gs, 0, none⟩) 1 1)).setCell ⟨g4, 2, none⟩ (.slice (some ⟨gm, 0, none⟩) f f)).setCell ⟨g4, 3, none⟩ (.int .i64 0)) gs 62 #[.bool true, .slice pA n pc] from (set4_other v5 g4 _ _ _ _ FS.out).trans XS.out)
  have XM3 := hide (show Box ((((v5.setCell ⟨g4, 0, none⟩ (.int .i64 (n : Int))).setCell ⟨g4, 1, none⟩ (.slice (some ⟨gs, 0, none⟩) 1 1)).setCell ⟨g4, 2, none⟩ (.slice (some ⟨gm, 0, none⟩) f f)).setCell ⟨g4, 3, none⟩ (.int .i64 0)) gm 53 (madeCells #[.int .i64 0, .int .i64 0] (f * 2)) from (set4_other v5 g4 _ _ _ _ FM.out).trans (by rw [← HZ.out]; exact XM.out))
  go_wp2
  refine ret_c2 Try.results11 rfl rfl rfl (box4s X5.out) ⟨some ⟨gs, 0, none⟩, 1, some ⟨gm, 0, none⟩, f, ?_, new_in XS3.out XM3.out OP2.out, below4 (btrans K.out KK.out) HB4.out _ _ _ _⟩
  unfold cwA nwM
  simp
theorem new_any (f s : Int) (w : World) : Calls Try.prog 11 #[.int .i64 f, .int .i64 s] w (Res w (nwG f s).1 (nwG f s).2) := by
  by_cases h : (1 ≤ f ∧ f ≤ 256) ∧ 1 ≤ s ∧ s ≤ 512
  · have e : nwG f s = (nwM f.toNat s.toNat, 0) := if_pos h
    rw [e]
    have := new_ok f.toNat s.toNat (by omega) (by omega) (by omega) (by omega) w
    rwa [Int.toNat_of_nonneg (by omega), Int.toNat_of_nonneg (by omega)] at this
  · have e : nwG f s = (zeroM, 2) := if_neg h
    rw [e]
    unfold Res
    have C1 := hide (fun w => count_any f 256 w)
    have C2 := hide (fun w => count_any s 512 w)
    have K := hide (bal (brefl w) (.cells #[.int .i64 0, .slice none 0 0, .slice none 0 0, .int .i64 0] 28))
    have X4 := hide (Box.new w 28 #[.int .i64 0, .slice none 0 0, .slice none 0 0, .int .i64 0])
    by_cases h1 : 1 ≤ f ∧ f ≤ 256
    · rw [decide_eq_true h1] at C1
      rw [decide_eq_false (fun g => h ⟨h1, g⟩)] at C2
      clear h1 h e
      go_enter Try.func11, Try.ntmps11
      go_upto_region 1 with fail
      obtain ⟨g4, hg⟩ : ∃ g, g = w.heap.size := ⟨_, rfl⟩
      have HB4 := hide (show w.heap.size ≤ g4 by omega)
      rw [← hg] at X4 ⊢
      clear hg
      generalize w.alloc (.cells #[.int .i64 0, .slice none 0 0, .slice none 0 0, .int .i64 0] 28) = w4 at *
      go_wp2_with fail
      refine (C1.out _).mono ?_
      rintro e w' ⟨rfl, rfl⟩
      go_wp2_with fail
      refine (C2.out _).mono ?_
      rintro e w' ⟨rfl, rfl⟩
      obtain ⟨xc0, xc1, xc2, xc3⟩ := box4 X4.out
      have xf0 := X4.out.frozen 0
      have xf1 := X4.out.frozen 1
      have xf2 := X4.out.frozen 2
      have xf3 := X4.out.frozen 3
      go_wp2
      exact ret_c2 Try.results11 rfl rfl rfl (box4s X4.out) ⟨none, 0, none, 0, rfl, zero_in _, below4 K.out HB4.out _ _ _ _⟩
    · rw [decide_eq_false h1] at C1
      clear h1 h e
      go_enter Try.func11, Try.ntmps11
      go_upto_region 1 with fail
      obtain ⟨g4, hg⟩ : ∃ g, g = w.heap.size := ⟨_, rfl⟩
      have HB4 := hide (show w.heap.size ≤ g4 by omega)
      rw [← hg] at X4 ⊢
      clear hg
      generalize w.alloc (.cells #[.int .i64 0, .slice none 0 0, .slice none 0 0, .int .i64 0] 28) = w4 at *
      go_wp2_with fail
      refine (C1.out _).mono ?_
      rintro e w' ⟨rfl, rfl⟩
      obtain ⟨xc0, xc1, xc2, xc3⟩ := box4 X4.out
      have xf0 := X4.out.frozen 0
      have xf1 := X4.out.frozen 1
      have xf2 := X4.out.frozen 2
      have xf3 := X4.out.frozen 3
      go_wp2
      exact ret_c2 Try.results11 rfl rfl rfl (box4s X4.out) ⟨none, 0, none, 0, rfl, zero_in _, below4 K.out HB4.out _ _ _ _⟩
end Go.Proofs.Ytoogdggiemacjaa.Cw
