import Derived.Test.YtinoddpdfknkbabCl0
namespace Go.Proofs.Ytinoddpdfknkbab.Pc
open Go Go.RowKit
set_option linter.unusedVariables false
theorem ret_c1 {fn : Func} {a : Act} {W : World} {g k : Nat} {x : Value} {Q : Ending → World → Prop} (hr : fn.results = #[.cell k 24]) (h2 : a.tmps.getD k undef = .pointer (some ⟨g, 0, none⟩)) (hd : a.defers = [])
    (hE : Box W g 24 #[x]) (hq : Q (.returned (.agg #[x])) W) : bodyPost Try.prog fn Q .ret a W := by
  have c0 := hE.cell 0
  simp at c0
  simp only [Array.getD_eq_getD_getElem?] at h2
  exact bodyPost_ret (v := .agg #[x]) (by simp [results, hr, h2, go_sem, c0]) hd hq
theorem madeI_list (m : Nat) : (madeCells #[Value.int .i64 0] m).toList.length = m := by simp [madeCells]
theorem copy_run (W : World) (g m d : Nat) (D : Option Addr) (l : Is) {B : Nat} {v : Value} {C : Ls} {vs : List Value} {z : Nat} {w0 : World} (hl : l.length = m) (hq : Bi w0 D l) (hb : Below w0.heap.size w0 W) (hO : OwnV B W v C vs) (hz : z < C.length)
    (hv : vs[z]? = some (.slice (some ⟨g, 0, none⟩) m m)) (hc : lAt C z = List.replicate m 0) : ∃ W7 r, (Builtin.copy_ #[34, 34] 3 #[.slice (some ⟨g, 0, none⟩) m m, .slice D m d]).run Try.prog W = .ok r W7 ∧ OwnV B W7 v (C.set z l) vs ∧ Kp B 3 W W7 := by
  have hrow := hO.inn z _ hv
  rw [hc, List.length_replicate] at hrow
  obtain ⟨cur, hX, hB⟩ := row_set_box hrow
  rcases D with _ | a
  · have e0 : l = [] := by
      rcases l with _ | ⟨x, xs⟩
      · rfl
      · obtain ⟨b, off, e, _⟩ := hq (by simp)
        cases e
    subst e0
    obtain rfl : m = 0 := by simpa using hl.symm
    refine ⟨W, _, run_copy_nil' W 34 34 3 3 _ 0 0 d Try.underlying34 (by rw [size3]; rfl), ?_, Kp.refl _ _ _⟩
    have e1 : C.set z [] = C := by
      apply List.ext_getElem?
      intro i
      rw [List.getElem?_set]
      by_cases e : z = i
      · subst e
        rw [if_pos rfl, if_pos hz, List.getElem?_eq_getElem hz, ← lAt_get hz, hc]; rfl
      · rw [if_neg e]
    rw [e1]; exact hO
  · have hs : cur.size = m := by
      obtain ⟨hl1, ⟨e, _⟩ | ⟨g', cap, cur0, e, hgb, hh, h1, h2, h3, h4⟩⟩ := hrow
      · cases e
      · injection e with e1 e2 e3
        injection e1 with e1; injection e1 with e1
        subst e1 e3
        unfold Box at hX
        rw [hX] at hh; injection hh with hh; injection hh with hh
        subst hh
        omega
    have hr := run_copy_row (P := Try.prog) W 34 34 3 3 g 0 m m a m d cur 3 (l.map ic) Try.underlying34 size3 hX (by simp [hl]) (fun j u hu => bi_news hq hb j u hu) (by simp [hl, hs]) (ic_one l)
    refine ⟨_, _, hr, hO.over hz hv hl ?_, ?_⟩
    · simp [hl, hs]
    · refine ⟨(Below.refl B W).grown (setRow_grown W g _) (Nat.le_of_lt (Nat.lt_of_le_of_lt hB hX.lt)) (fun k e => by cases e; exact hB), fun k hk hn => (setRow_grown W g _).block k hk (fun e => by injection e with e; subst e; exact hn cur hX)⟩
set_option maxHeartbeats 8000000 in
set_option maxRecDepth 100000 in
theorem clone_any (v : Value) (C : Ls) (w : World) (h : CaIn w v C) (hS : Sz 1000 1000 C) : Calls Try.prog 33 #[v] w (CaR C w) := by
  obtain ⟨A, c, rfl, hc, r⟩ := h
  obtain ⟨n, hn⟩ : ∃ n, n = C.length := ⟨_, rfl⟩
  have ln := hS.1
  have HS := hide hS.2
  rw [← hn] at ln ⊢
  have HN := hide hn
  have hmk : ∀ w, (Instr.makeSlice 22 (.int .i64 n) (.int .i64 n)).run Try.prog w = .ok (.slice (some ⟨w.heap.size, 0, none⟩) n n) (w.alloc (.cells (madeCells #[.slice none 0 0] n) 34)) := fun w =>
    run_make_row' (P := Try.prog) 22 34 (.slice none 0 0) 24 Try.underlying22 info34 rfl .i64 .i64 n (by omega) (by omega) w
  obtain ⟨W0, hW0⟩ : ∃ W0, W0 = ((((w.alloc (Obj.cells #[Value.slice A n c] 24)).alloc (Obj.cells #[Value.slice none 0 0] 24)).alloc (Obj.cells (madeCells #[Value.slice none 0 0] n) 34)).alloc (Obj.cells #[Value.slice (some ⟨w.heap.size + 1 + 1, 0, none⟩) n n] 24)) := ⟨_, rfl⟩
  have K0 := hide (show Below w.heap.size w W0 by rw [hW0]; exact bal (bal (bal (bal (brefl w) _) _) _) _)
  have X10 := hide (show Box W0 w.heap.size 24 #[.slice A n c] by rw [hW0]; exact (((Box.new w 24 _).more _).more _).more _)
  have X20 := hide (show Box W0 (w.heap.size + 1) 24 #[.slice none 0 0] by rw [hW0]; exact ((Box.new2 w _ 24 _).more _).more _)
  have X40 := hide (show Box W0 (w.heap.size + 1 + 1 + 1) 24 #[.slice (some ⟨w.heap.size + 1 + 1, 0, none⟩) n n] by rw [hW0]; have := Box.new (((w.alloc (Obj.cells #[Value.slice A n c] 24)).alloc (Obj.cells #[Value.slice none 0 0] 24)).alloc (Obj.cells (madeCells #[Value.slice none 0 0] n) 34)) 24 #[.slice (some ⟨w.heap.size + 1 + 1, 0, none⟩) n n]; simpa only [alloc_size'] using this)
  have OV0 := hide (show OwnV w.heap.size W0 (.slice (some ⟨w.heap.size + 1 + 1, 0, none⟩) n n) (pad C 0) (List.replicate n (.slice none 0 0)) by
    have := ((own_nils ((w.alloc (Obj.cells #[Value.slice A n c] 24)).alloc (Obj.cells #[Value.slice none 0 0] 24)) n (by simp only [maxLen]; omega)).below (bal (brefl _) (Obj.cells #[Value.slice (some ⟨w.heap.size + 1 + 1, 0, none⟩) n n] 24))).mono (B' := w.heap.size) (by simp only [alloc_size']; omega)
    rw [pad_zero, ← hn, hW0]
    simpa only [alloc_size'] using this)
  have R := hide r
  have HW := hide hW0
  clear r hS hn hW0
  go_enter Try.func33, Try.ntmps33
  go_upto_region 3 with fail
  rw [← HW.out]
  clear HW hmk
  go_wp2
  go_loopw [13] (fun i wr => ∃ (k : Nat) (vs : List Value), k ≤ n ∧ i = .int .i64 k ∧ Hid (Below w.heap.size w wr) ∧ Hid (Box wr w.heap.size 24 #[.slice A n c]) ∧ Hid (Box wr (w.heap.size + 1) 24 #[.slice none 0 0]) ∧ Hid (Box wr (w.heap.size + 1 + 1 + 1) 24 #[.slice (some ⟨w.heap.size + 1 + 1, 0, none⟩) n n]) ∧ Hid (OwnV w.heap.size wr (.slice (some ⟨w.heap.size + 1 + 1, 0, none⟩) n n) (pad C k) vs)) (fun i _ => n - (intOf i).toNat)
  case atStart => exact ⟨0, _, Nat.zero_le _, rfl, K0, X10, X20, X40, OV0⟩
  case round =>
    clear K0 X10 X20 X40 OV0
    obtain ⟨k, vs, hk, rfl, K, X1, X2, X4, OV⟩ := hrel
    have s4 := cell_box1 X4.out
    have s1 := cell_box1 X1.out
    by_cases hlt : k < n
    · have hlt' : k < C.length := by rw [← HN.out]; exact hlt
      have hk' : k ≤ C.length := by omega
      have hrc := R.out.cells0 K.out hlt'
      obtain ⟨b1, o1, u1, rfl, hl1, x1, hv1⟩ := hrc
      have hrc0 := R.out.cells0 (brefl w) hlt'
      obtain ⟨b1', o1', u1', e1, _, x0', hv1'⟩ := hrc0
      injection e1 with e1; injection e1 with e1 e2; subst e1 e2
      obtain ⟨D1, d1, rfl, _, q1⟩ := hv1
      have x0 : w.cell? ⟨b1, o1 + k, none⟩ = some (.slice D1 (lAt C k).length d1) := (K.out.cell (p := ⟨b1, o1 + k, none⟩) hl1).symm.trans x1
      clear x0' hv1'
      obtain ⟨m, hm⟩ : ∃ m, m = (lAt C k).length := ⟨_, rfl⟩
      have lm : m ≤ 1000 := by rw [hm]; exact HS.out k hlt'
      rw [← hm] at x0 x1
      have HM := hide hm
      have Q := hide q1
      clear q1 hm
      obtain ⟨u0, hvk⟩ : ∃ u0, vs[k]? = some u0 := ⟨_, List.getElem?_eq_getElem (show k < vs.length by rw [OV.out.len, pad_len hk']; exact hlt')⟩
      have hmk : ∀ w, (Instr.makeSlice 34 (.int .i64 m) (.int .i64 m)).run Try.prog w = .ok (.slice (some ⟨w.heap.size, 0, none⟩) m m) (w.alloc (.cells (madeCells #[.int .i64 0] m) 3)) := fun w =>
        run_make_row' (P := Try.prog) 34 3 (.int .i64 0) 8 Try.underlying34 info3 rfl .i64 .i64 m (by omega) (by omega) w
      have KK := hide (below_drew (brefl wr))
      have CE := hide (fun (W : World) (h : Below wr.heap.size wr W) => (⟨(h.cell (p := ⟨w.heap.size + 1 + 1 + 1, 0, none⟩) X4.out.lt).trans s4, (h.cell (p := ⟨w.heap.size, 0, none⟩) X1.out.lt).trans s1, (h.cell (p := ⟨b1, o1 + k, none⟩) (Nat.lt_of_lt_of_le hl1 K.out.size)).trans x1⟩ : (fun W => W.cell? ⟨w.heap.size + 1 + 1 + 1, 0, none⟩ = some (.slice (some ⟨w.heap.size + 1 + 1, 0, none⟩) n n) ∧ W.cell? ⟨w.heap.size, 0, none⟩ = some (.slice (some ⟨b1, o1, none⟩) n c) ∧ W.cell? ⟨b1, o1 + k, none⟩ = some (.slice D1 m d1)) W))
      have HX0 := hide x0
      have HVK := hide hvk
      clear x0 hvk
      go_wp2
      refine wp_region_noPanic ?_
      refine wp_region_held_drew (S := (fun W => W.cell? ⟨w.heap.size + 1 + 1 + 1, 0, none⟩ = some (.slice (some ⟨w.heap.size + 1 + 1, 0, none⟩) n n) ∧ W.cell? ⟨w.heap.size, 0, none⟩ = some (.slice (some ⟨b1, o1, none⟩) n c) ∧ W.cell? ⟨b1, o1 + k, none⟩ = some (.slice D1 m d1))) (by kernel_rfl) ?_ (fun hHeld => ?_)
      · exact CE.out _ KK.out
      refine wpAnyH_take (i := 0) (oi := ⟨some 16, _, _, _, _, _⟩) (v := ?_) rfl (by kernel_rfl) (by kernel_rfl) (by kernel_rfl) (fun _ _ _ h => h) (Or.inl ⟨by kernel_rfl, ?_⟩) (by assumption) ?_
      rotate_left 1
      · (intro w hSw; (try dsimp only at hSw); go_simp) <;> (with_reducible rfl)
      (try simp only [Act.put, List.setIfInBounds_toArray, List.set_cons_succ, List.set_cons_zero])
      refine wpAnyH_take (i := 1) (oi := ⟨some 17, _, _, _, _, _⟩) (v := ?_) rfl (by kernel_rfl) (by kernel_rfl) (by kernel_rfl) (fun _ _ _ h => h) (Or.inl ⟨by kernel_rfl, ?_⟩) (by assumption) ?_
      rotate_left 1
      · (intro w hSw; (try dsimp only at hSw); go_simp) <;> (with_reducible rfl)
      (try simp only [Act.put, List.setIfInBounds_toArray, List.set_cons_succ, List.set_cons_zero])
      refine wpAnyH_take (i := 2) (oi := ⟨some 18, _, _, _, _, _⟩) (v := ?_) rfl (by kernel_rfl) (by kernel_rfl) (by kernel_rfl) (fun _ _ _ h => h) (Or.inl ⟨by kernel_rfl, ?_⟩) (by assumption) ?_
      rotate_left 1
      · (intro w hSw; (try dsimp only at hSw); go_simp) <;> (with_reducible rfl)
      (try simp only [Act.put, List.setIfInBounds_toArray, List.set_cons_succ, List.set_cons_zero])
      refine wpAnyH_take (i := 3) (oi := ⟨some 19, _, _, _, _, _⟩) (v := ?_) rfl (by kernel_rfl) (by kernel_rfl) (by kernel_rfl) (fun _ _ _ h => h) (Or.inl ⟨by kernel_rfl, ?_⟩) (by assumption) ?_
      rotate_left 1
      · (intro w hSw; (try dsimp only at hSw); go_simp) <;> (with_reducible rfl)
      (try simp only [Act.put, List.setIfInBounds_toArray, List.set_cons_succ, List.set_cons_zero])
      refine wpAnyH_take (i := 4) (oi := ⟨some 20, _, _, _, _, _⟩) (v := ?_) rfl (by kernel_rfl) (by kernel_rfl) (by kernel_rfl) (fun _ _ _ h => h) (Or.inl ⟨by kernel_rfl, ?_⟩) (by assumption) ?_
      rotate_left 1
      · (intro w hSw; (try dsimp only at hSw); go_simp) <;> (with_reducible rfl)
      (try simp only [Act.put, List.setIfInBounds_toArray, List.set_cons_succ, List.set_cons_zero])
      refine wpAnyH_take (i := 5) (oi := ⟨some 21, _, _, _, _, _⟩) (v := ?_) rfl (by kernel_rfl) (by kernel_rfl) (by kernel_rfl) (fun _ _ _ h => h) (Or.inl ⟨by kernel_rfl, ?_⟩) (by assumption) ?_
      rotate_left 1
      · (intro w hSw; (try dsimp only at hSw); go_simp) <;> (with_reducible rfl)
      (try simp only [Act.put, List.setIfInBounds_toArray, List.set_cons_succ, List.set_cons_zero])
      refine wpAnyH_take (i := 6) (oi := ⟨some 22, _, _, _, _, _⟩) (v := ?_) rfl (by kernel_rfl) (by kernel_rfl) (by kernel_rfl) (fun _ _ _ h => h) (Or.inl ⟨by kernel_rfl, ?_⟩) (by assumption) ?_
      rotate_left 1
      · (intro w hSw; (try dsimp only at hSw); go_simp) <;> (with_reducible rfl)
      (try simp only [Act.put, List.setIfInBounds_toArray, List.set_cons_succ, List.set_cons_zero])
      refine wpAnyH_take (i := 7) (oi := ⟨some 23, _, _, _, _, _⟩) (v := ?_) rfl (by kernel_rfl) (by kernel_rfl) (by kernel_rfl) (fun _ _ _ h => h) (Or.inl ⟨by kernel_rfl, ?_⟩) (by assumption) ?_
      rotate_left 1
      · (intro w hSw; (try dsimp only at hSw); go_simp) <;> (with_reducible rfl)
      (try simp only [Act.put, List.setIfInBounds_toArray, List.set_cons_succ, List.set_cons_zero])
      refine wpAnyH_take (i := 8) (oi := ⟨some 24, _, _, _, _, _⟩) (v := ?_) rfl (by kernel_rfl) (by kernel_rfl) (by kernel_rfl) (fun _ _ _ h => h) (Or.inl ⟨by kernel_rfl, ?_⟩) (by assumption) ?_
      rotate_left 1
      · (intro w hSw; (try dsimp only at hSw); go_simp) <;> (with_reducible rfl)
      (try simp only [Act.put, List.setIfInBounds_toArray, List.set_cons_succ, List.set_cons_zero])
      refine wpAnyH_ready (rs := [9]) (by kernel_rfl) (by simp) ?_
      refine AllReadyH.cons (o := _) rfl (fun K' hK => ?_) AllReadyH.nil
      go_simp
      replace KK := hide (below_drew (bal (brefl wr) (.cells (madeCells #[.int .i64 0] m) 3)))
      have HU := hide (row_below (own_zeros wr w.heap.size m K.out.size (by simp only [maxLen]; omega)) (below_drew (brefl _)))
      generalize (wr.alloc (.cells (madeCells #[.int .i64 0] m) 3)).drew = w5 at *
      obtain ⟨y5, f5⟩ := ((OV.out.below KK.out).x k).cellz HVK.out
      refine hK.out _ _ ?_ (fun hHeld => ?_)
      · exact CE.out _ KK.out
      clear hK K'
      (try simp only [Act.put, List.setIfInBounds_toArray, List.set_cons_succ, List.set_cons_zero])
      refine wpAnyH_take (i := 10) (oi := ⟨some 26, _, _, _, _, _⟩) (v := ?_) rfl (by kernel_rfl) (by kernel_rfl) (by kernel_rfl) (fun _ _ _ h => h) (Or.inl ⟨by kernel_rfl, ?_⟩) (by assumption) ?_
      rotate_left 1
      · (intro w hSw; (try dsimp only at hSw); go_simp) <;> (with_reducible rfl)
      (try simp only [Act.put, List.setIfInBounds_toArray, List.set_cons_succ, List.set_cons_zero])
      refine wpAnyH_ready (rs := [11]) (by kernel_rfl) (by simp) ?_
      refine AllReadyH.cons (o := _) rfl (fun K' hK => ?_) AllReadyH.nil
      go_simp
      have OV6 := hide (OV.out.put_new KK.out (by rw [pad_len hk']; exact hlt') (Nat.le_refl _) (l := List.replicate m 0) (by simpa using HU.out))
      have hrw := (OV.out.below KK.out).row
      rw [pad_len hk', ← HN.out] at hrw
      obtain ⟨cur, hXG, hBG⟩ := row_set_box hrw
      clear hrw
      have KP := hide (Kp.boxset hXG hBG k (.slice (some ⟨wr.heap.size, 0, none⟩) m m))
      clear hXG hBG
      have K6 := hide (bset (btrans K.out KK.out) (p := ⟨w.heap.size + 1 + 1, k, none⟩) (by show w.heap.size ≤ w.heap.size + 1 + 1; omega) (.slice (some ⟨wr.heap.size, 0, none⟩) m m))
      have X16 := hide ((X1.out.below KK.out).kp KP.out (by decide))
      have X26 := hide ((X2.out.below KK.out).kp KP.out (by decide))
      have X46 := hide ((X4.out.below KK.out).kp KP.out (by decide))
      have CE6 := hide (show (fun W => W.cell? ⟨w.heap.size + 1 + 1 + 1, 0, none⟩ = some (.slice (some ⟨w.heap.size + 1 + 1, 0, none⟩) n n) ∧ W.cell? ⟨w.heap.size, 0, none⟩ = some (.slice (some ⟨b1, o1, none⟩) n c) ∧ W.cell? ⟨b1, o1 + k, none⟩ = some (.slice D1 m d1)) (w5.setCell ⟨w.heap.size + 1 + 1, k, none⟩ (.slice (some ⟨wr.heap.size, 0, none⟩) m m)) from ⟨cell_box1 X46.out, cell_box1 X16.out, (K6.out.cell (p := ⟨b1, o1 + k, none⟩) hl1).trans HX0.out⟩)
      generalize w5.setCell ⟨w.heap.size + 1 + 1, k, none⟩ (.slice (some ⟨wr.heap.size, 0, none⟩) m m) = w6 at *
      refine hK.out _ _ ?_ (fun hHeld => ?_)
      · exact CE6.out
      clear hK K'
      (try simp only [Act.put, List.setIfInBounds_toArray, List.set_cons_succ, List.set_cons_zero])
      refine wpAnyH_done (by kernel_rfl) ?_ _
      refine NoPanic.normal ?_
      clear s1 s4 x1 y5 f5 hmk
      have e6 : vs.set k (.slice (some ⟨wr.heap.size, 0, none⟩) m m) = vs.set k (.slice (some ⟨wr.heap.size, 0, none⟩) m m) := rfl
      have hv6 : (vs.set k (.slice (some ⟨wr.heap.size, 0, none⟩) m m))[k]? = some (.slice (some ⟨wr.heap.size, 0, none⟩) m m) := by
        rw [List.getElem?_set]; simp
        have := OV.out.len
        rw [pad_len hk'] at this
        omega
      obtain ⟨W7, rr, hcp0, hO7, hK7⟩ := copy_run w6.drew wr.heap.size m d1 D1 (lAt C k) HM.out.symm Q.out (below_drew K6.out) (OV6.out.below (below_drew (brefl w6))) (by simpa [pad_len hk'] using hlt') hv6 (by rw [lAt_set (by rw [pad_len hk']; exact hlt'), if_pos rfl])
      have hcp := hide hcp0
      have K7 := hide ((below_drew K6.out).trans hK7.below)
      have X17 := hide ((X16.out.below (below_drew (brefl w6))).kp hK7 (by decide))
      have X27 := hide ((X26.out.below (below_drew (brefl w6))).kp hK7 (by decide))
      have X47 := hide ((X46.out.below (below_drew (brefl w6))).kp hK7 (by decide))
      have cg6 := ((OV6.out.x k).cellz hv6).1
      have cg7 := ((hO7.x k).cellz hv6).1
      have OV7 := hide (show OwnV w.heap.size W7 (.slice (some ⟨w.heap.size + 1 + 1, 0, none⟩) n n) (pad C (k + 1)) (vs.set k (.slice (some ⟨wr.heap.size, 0, none⟩) m m)) by
        rw [List.set_set, pad_set hlt'] at hO7; exact hO7)
      have CE7 := hide (show (fun W => W.cell? ⟨w.heap.size + 1 + 1 + 1, 0, none⟩ = some (.slice (some ⟨w.heap.size + 1 + 1, 0, none⟩) n n) ∧ W.cell? ⟨w.heap.size, 0, none⟩ = some (.slice (some ⟨b1, o1, none⟩) n c) ∧ W.cell? ⟨b1, o1 + k, none⟩ = some (.slice D1 m d1) ∧ W.cell? ⟨w.heap.size + 1 + 1, k, none⟩ = some (.slice (some ⟨wr.heap.size, 0, none⟩) m m)) w6.drew from ⟨CE6.out.1, CE6.out.2.1, CE6.out.2.2, cg6⟩)
      have CE8 := hide (show (fun W => W.cell? ⟨w.heap.size + 1 + 1 + 1, 0, none⟩ = some (.slice (some ⟨w.heap.size + 1 + 1, 0, none⟩) n n) ∧ W.cell? ⟨w.heap.size, 0, none⟩ = some (.slice (some ⟨b1, o1, none⟩) n c) ∧ W.cell? ⟨b1, o1 + k, none⟩ = some (.slice D1 m d1) ∧ W.cell? ⟨w.heap.size + 1 + 1, k, none⟩ = some (.slice (some ⟨wr.heap.size, 0, none⟩) m m)) W7 from ⟨cell_box1 X47.out, cell_box1 X17.out, (K7.out.cell (p := ⟨b1, o1 + k, none⟩) hl1).trans HX0.out, cg7⟩)
      clear hcp0 hO7 hK7 cg6 cg7 hv6 e6
      go_wp2
      refine wp_region_noPanic ?_
      refine wp_region_held_drew (S := (fun W => W.cell? ⟨w.heap.size + 1 + 1 + 1, 0, none⟩ = some (.slice (some ⟨w.heap.size + 1 + 1, 0, none⟩) n n) ∧ W.cell? ⟨w.heap.size, 0, none⟩ = some (.slice (some ⟨b1, o1, none⟩) n c) ∧ W.cell? ⟨b1, o1 + k, none⟩ = some (.slice D1 m d1) ∧ W.cell? ⟨w.heap.size + 1 + 1, k, none⟩ = some (.slice (some ⟨wr.heap.size, 0, none⟩) m m))) (by kernel_rfl) ?_ (fun hHeld => ?_)
      · exact CE7.out
      refine wpAnyH_take (i := 0) (oi := ⟨some 27, _, _, _, _, _⟩) (v := ?_) rfl (by kernel_rfl) (by kernel_rfl) (by kernel_rfl) (fun _ _ _ h => h) (Or.inl ⟨by kernel_rfl, ?_⟩) (by assumption) ?_
      rotate_left 1
      · (intro w hSw; (try dsimp only at hSw); go_simp) <;> (with_reducible rfl)
      (try simp only [Act.put, List.setIfInBounds_toArray, List.set_cons_succ, List.set_cons_zero])
      refine wpAnyH_take (i := 1) (oi := ⟨some 28, _, _, _, _, _⟩) (v := ?_) rfl (by kernel_rfl) (by kernel_rfl) (by kernel_rfl) (fun _ _ _ h => h) (Or.inl ⟨by kernel_rfl, ?_⟩) (by assumption) ?_
      rotate_left 1
      · (intro w hSw; (try dsimp only at hSw); go_simp) <;> (with_reducible rfl)
      (try simp only [Act.put, List.setIfInBounds_toArray, List.set_cons_succ, List.set_cons_zero])
      refine wpAnyH_take (i := 2) (oi := ⟨some 29, _, _, _, _, _⟩) (v := ?_) rfl (by kernel_rfl) (by kernel_rfl) (by kernel_rfl) (fun _ _ _ h => h) (Or.inl ⟨by kernel_rfl, ?_⟩) (by assumption) ?_
      rotate_left 1
      · (intro w hSw; (try dsimp only at hSw); go_simp) <;> (with_reducible rfl)
      (try simp only [Act.put, List.setIfInBounds_toArray, List.set_cons_succ, List.set_cons_zero])
      refine wpAnyH_take (i := 3) (oi := ⟨some 30, _, _, _, _, _⟩) (v := ?_) rfl (by kernel_rfl) (by kernel_rfl) (by kernel_rfl) (fun _ _ _ h => h) (Or.inl ⟨by kernel_rfl, ?_⟩) (by assumption) ?_
      rotate_left 1
      · (intro w hSw; (try dsimp only at hSw); go_simp) <;> (with_reducible rfl)
      (try simp only [Act.put, List.setIfInBounds_toArray, List.set_cons_succ, List.set_cons_zero])
      refine wpAnyH_take (i := 4) (oi := ⟨some 31, _, _, _, _, _⟩) (v := ?_) rfl (by kernel_rfl) (by kernel_rfl) (by kernel_rfl) (fun _ _ _ h => h) (Or.inl ⟨by kernel_rfl, ?_⟩) (by assumption) ?_
      rotate_left 1
      · (intro w hSw; (try dsimp only at hSw); go_simp) <;> (with_reducible rfl)
      (try simp only [Act.put, List.setIfInBounds_toArray, List.set_cons_succ, List.set_cons_zero])
      refine wpAnyH_take (i := 5) (oi := ⟨some 32, _, _, _, _, _⟩) (v := ?_) rfl (by kernel_rfl) (by kernel_rfl) (by kernel_rfl) (fun _ _ _ h => h) (Or.inl ⟨by kernel_rfl, ?_⟩) (by assumption) ?_
      rotate_left 1
      · (intro w hSw; (try dsimp only at hSw); go_simp) <;> (with_reducible rfl)
      (try simp only [Act.put, List.setIfInBounds_toArray, List.set_cons_succ, List.set_cons_zero])
      refine wpAnyH_take (i := 6) (oi := ⟨some 33, _, _, _, _, _⟩) (v := ?_) rfl (by kernel_rfl) (by kernel_rfl) (by kernel_rfl) (fun _ _ _ h => h) (Or.inl ⟨by kernel_rfl, ?_⟩) (by assumption) ?_
      rotate_left 1
      · (intro w hSw; (try dsimp only at hSw); go_simp) <;> (with_reducible rfl)
      (try simp only [Act.put, List.setIfInBounds_toArray, List.set_cons_succ, List.set_cons_zero])
      refine wpAnyH_take (i := 7) (oi := ⟨some 34, _, _, _, _, _⟩) (v := ?_) rfl (by kernel_rfl) (by kernel_rfl) (by kernel_rfl) (fun _ _ _ h => h) (Or.inl ⟨by kernel_rfl, ?_⟩) (by assumption) ?_
      rotate_left 1
      · (intro w hSw; (try dsimp only at hSw); go_simp) <;> (with_reducible rfl)
      (try simp only [Act.put, List.setIfInBounds_toArray, List.set_cons_succ, List.set_cons_zero])
      refine wpAnyH_take (i := 8) (oi := ⟨some 35, _, _, _, _, _⟩) (v := ?_) rfl (by kernel_rfl) (by kernel_rfl) (by kernel_rfl) (fun _ _ _ h => h) (Or.inl ⟨by kernel_rfl, ?_⟩) (by assumption) ?_
      rotate_left 1
      · (intro w hSw; (try dsimp only at hSw); go_simp) <;> (with_reducible rfl)
      (try simp only [Act.put, List.setIfInBounds_toArray, List.set_cons_succ, List.set_cons_zero])
      refine wpAnyH_take (i := 9) (oi := ⟨some 36, _, _, _, _, _⟩) (v := ?_) rfl (by kernel_rfl) (by kernel_rfl) (by kernel_rfl) (fun _ _ _ h => h) (Or.inl ⟨by kernel_rfl, ?_⟩) (by assumption) ?_
      rotate_left 1
      · (intro w hSw; (try dsimp only at hSw); go_simp) <;> (with_reducible rfl)
      (try simp only [Act.put, List.setIfInBounds_toArray, List.set_cons_succ, List.set_cons_zero])
      refine wpAnyH_ready (rs := [10]) (by kernel_rfl) (by simp) ?_
      refine AllReadyH.cons (o := ⟨some 37, _, _, _, _, _⟩) rfl (fun K' hK => ?_) AllReadyH.nil
      refine step_copy rfl (.tmp 31) (.tmp 36) 34 rfl (.slice (some ⟨wr.heap.size, 0, none⟩) m m) (.slice D1 m d1) _ rfl rfl hcp.out ?_
      refine hK.out _ _ ?_ (fun hHeld => ?_)
      · exact CE8.out
      clear hK K'
      (try simp only [Act.put, List.setIfInBounds_toArray, List.set_cons_succ, List.set_cons_zero])
      refine wpAnyH_done (by kernel_rfl) ?_ _
      refine NoPanic.normal ?_
      go_wp2
      go_roundw
      case rel => exact ⟨k + 1, _, by omega, by go_num, K7, X17, X27, X47, OV7⟩
      case measure => simp [intOf]; omega
    · obtain rfl : k = n := by omega
      have OVN := hide (show OwnV w.heap.size wr (.slice (some ⟨w.heap.size + 1 + 1, 0, none⟩) k k) C vs by have := OV.out; rw [HN.out, pad_all, ← HN.out] at this; exact this)
      clear OV
      have s2 := cell_box1 X2.out
      have f2 := X2.out.frozen 0
      go_wp2
      have KP := hide (Kp.boxset X2.out (show w.heap.size ≤ w.heap.size + 1 by omega) 0 (.slice (some ⟨w.heap.size + 1 + 1, 0, none⟩) k k))
      rw [HN.out] at *
      exact ret_c1 Try.results33 rfl rfl (X2.out.put 0 _) ⟨_, _, vs, rfl, Nat.le_refl _, OVN.out.kp KP.out (by decide) (by decide), bset K.out (p := ⟨w.heap.size + 1, 0, none⟩) (by show w.heap.size ≤ w.heap.size + 1; omega) _⟩
end Go.Proofs.Ytinoddpdfknkbab.Pc
