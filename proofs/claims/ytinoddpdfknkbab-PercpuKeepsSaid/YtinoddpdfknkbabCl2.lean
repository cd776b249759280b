import Derived.Test.YtinoddpdfknkbabCl1
namespace Go.Proofs.Ytinoddpdfknkbab.Pc
open Go Go.RowKit
set_option linter.unusedVariables false
theorem bi_nil {w : World} {l : Is} (h : Bi w none l) : l = [] := by
  rcases l with _ | ⟨x, xs⟩
  · rfl
  · obtain ⟨b, off, e, _⟩ := h (by simp)
    cases e
/-- append(v, l...), l in whatever memory -/
theorem app_run (W w0 : World) (B n m d : Nat) (D : Option Addr) (l : Is) (v : Value) (xs : List Value) (hown : W.ownsRow B 3 1 v n xs) (hl : l.length = m) (hq : Bi w0 D l) (hb : Below w0.heap.size w0 W) (hn : n + m ≤ 100000) (hB : B ≤ W.heap.size) :
    ∃ v' w', (Builtin.append_ #[34, 34] 34 #[v, .slice D m d]).run Try.prog W = .ok v' w' ∧ w'.ownsRow B 3 1 v' (n + m) (xs ++ l.map ic) ∧ W.grownBy w' v.ownBlock ∧ (v'.ownBlock = v.ownBlock ∨ v'.ownBlock = some W.heap.size) := by
  obtain ⟨i0, hi0, hz0, hz1, hz2⟩ := info_parts info3
  rcases D with _ | a
  · have e0 := bi_nil hq
    subst e0
    obtain rfl : m = 0 := by simpa using hl.symm
    refine ⟨v, W, ?_, by simpa using hown, World.grownBy.refl W _, .inl rfl⟩
    rcases hown.2 with ⟨rfl, rfl⟩ | ⟨g, cap, cur, rfl, _, _, hc, _⟩
    · simp [Builtin.append_, run_underlying Try.underlying34, sizeOf, typeInfo, hi0, Builtin.lenOf, Builtin.firstCells]
    · simp [Builtin.append_, run_underlying Try.underlying34, sizeOf, typeInfo, hi0, Builtin.lenOf, Builtin.firstCells, hc, storeCells]
  · obtain ⟨v', w', hr, h2, h3, _, h5⟩ := run_append_own_at (P := Try.prog) W B 34 34 3 i0 _ 1 8 Try.underlying34 hi0 hz0 hz1 hz2 rfl (by omega) v n xs hown a m d (l.map ic) (by simp [hl]) (fun j u hu => bi_news hq hb j u hu) (ic_one l) (by simp only [maxLen]; omega) (by omega) hB
    exact ⟨v', w', hr, h2, h3, h5⟩
/-- append(v, x), one row more -/
theorem app_row (W : World) (B n : Nat) (v u : Value) (xs : List Value) (hown : W.ownsRow B 34 1 v n xs) (hu : u.oneCell' = true) (hn : n ≤ 100000) (hB : B ≤ W.heap.size) :
    ∃ v' w', (Builtin.append_ #[22, 22] 22 #[v, .slice (some ⟨W.heap.size, 0, none⟩) 1 1]).run Try.prog (W.alloc (.cells #[u] 34)) = .ok v' w' ∧ w'.ownsRow B 34 1 v' (n + 1) (xs ++ [u]) ∧ (W.alloc (.cells #[u] 34)).grownBy w' v.ownBlock := by
  obtain ⟨i0, hi0, hz0, hz1, hz2⟩ := info_parts info34
  obtain ⟨v', w', hr, h2, h3, _, h5⟩ := run_append_own_at (P := Try.prog) (W.alloc (.cells #[u] 34)) B 22 22 34 i0 _ 1 24 Try.underlying22 hi0 hz0 hz1 hz2 rfl (by omega) v n xs (row_below hown (bal (brefl W) _)) ⟨W.heap.size, 0, none⟩ 1 1 [u] (by simp) (cell_one_new _ _ _) (by intro x hx; simp at hx; subst hx; exact hu) (by simp only [maxLen]; omega) (by omega) (by simp; omega)
  exact ⟨v', w', hr, h2, h3⟩
theorem wpList_app {P : Program} {w w' : World} {ops : Array Oper} {rest : List Oper} {o : Oper} {a : Act} {Q : Exit → Act → World → Prop} (hgd : o.guard = none) (s x : Operand) (t : TypeId)
    (ho : o.op = .call { callee := .builtin .append, args := #[s, x], argTypes := #[t, t] }) (vs vx r : Value) (hs : a.eval s = vs) (hx : a.eval x = vx) (ty : TypeId) (hty : o.type = ty)
    (hr : (Builtin.append_ #[t, t] ty #[vs, vx]).run P w = .ok r w') (h : wpList P ops Q rest (a.put o.dst r) w') : wpList P ops Q (o :: rest) a w := by
  subst hty
  refine wpList_plain hgd fun K hK => ?_
  unfold Oper.wp execOp
  simp only [ho, resolve, invoke, builtin, Sem.run_bind, Sem.run_pure, Result.andThen_ok, List.map_toArray, List.map_cons, List.map_nil, hs, hx, hr]
  exact hK _ _ h
theorem OwnV.push {B : Nat} {w w1 w' : World} {v v' u : Value} {C : Ls} {vs : List Value} {l : Is} (h : OwnV B w v C vs) (hb : Below w.heap.size w w1) (hu : w1.ownsRow B 3 1 u l.length (l.map ic)) (hd : ∀ b, u.ownBlock = some b → w.heap.size ≤ b)
    (hown : w'.ownsRow B 34 1 v' (C.length + 1) (vs ++ [u])) (hg : w1.grownBy w' v.ownBlock) : OwnV B w' v' (C ++ [l]) (vs ++ [u]) := by
  have h1 := h.below hb
  refine ⟨by simp [h.len], by rw [List.length_append]; exact hown, fun k u' hk => ?_, fun i j u1 u2 hij h2 h3 => ?_⟩
  · rw [List.getElem?_append] at hk
    unfold lAt
    rw [List.getD_eq_getElem?_getD, List.getElem?_append]
    split at hk
    · rename_i hlt
      rw [h.len] at hlt
      rw [if_pos hlt, ← List.getD_eq_getElem?_getD]
      exact (h1.inn k u' hk).kept hg (row_own_ne (h1.inn k u' hk) h1.row (by decide))
    · rename_i hge
      rw [h.len] at hge hk
      rw [if_neg hge]
      have e : k - C.length = 0 := by
        rcases Nat.eq_zero_or_pos (k - C.length) with e | e
        · exact e
        · rw [List.getElem?_eq_none (by simp; omega)] at hk; cases hk
      rw [e] at hk ⊢
      simp at hk
      subst hk
      simp only [List.getElem?_cons_zero, Option.getD_some]
      exact hu.kept hg (row_own_ne hu h1.row (by decide))
  · rw [List.getElem?_append] at h2 h3
    have hX : ∀ (k : Nat) (x : Value), vs[k]? = some x → ∀ b, x.ownBlock = some b → b < w.heap.size := fun k x hx b hxb => by
      rcases Nat.lt_or_ge b w.heap.size with h | h0
      · exact h
      · exact absurd hxb.symm (row_own_lt (h.inn k x hx) h0)
    have hL : ∀ (k : Nat) (x : Value), ¬ k < vs.length → [u][k - vs.length]? = some x → x = u ∧ k = vs.length := fun k x hk hx => by
      rcases Nat.eq_zero_or_pos (k - vs.length) with e | e
      · rw [e] at hx; simp at hx; exact ⟨hx.symm, by omega⟩
      · rw [List.getElem?_eq_none (by simp; omega)] at hx; cases hx
    split at h2
    · split at h3
      · exact h.dis i j u1 u2 hij h2 h3
      · rename_i hi hj
        obtain ⟨rfl, _⟩ := hL j u2 hj h3
        rcases e : u1.ownBlock with _ | b
        · exact .inl rfl
        · right
          intro e2
          have a1 := hX i u1 h2 b e
          have a2 := hd b e2.symm
          omega
    · rename_i hi
      obtain ⟨rfl, e1⟩ := hL i u1 hi h2
      split at h3
      · rename_i hj
        rcases e : u1.ownBlock with _ | b
        · exact .inl rfl
        · right
          intro e2
          have a1 := hX j u2 h3 b e2.symm
          have a2 := hd b e
          omega
      · rename_i hj
        obtain ⟨_, e2⟩ := hL j u2 hj h3
        exact absurd (e1.trans e2.symm) hij
theorem kp_grown {B n size : Nat} {T : TypeId} {v : Value} {xs : List Value} {w w' : World} (h : w.ownsRow B T size v n xs) (hg : w.grownBy w' v.ownBlock) (hs : B ≤ w.heap.size) : Kp B T w w' := Kp.grown h hg (Nat.le_refl _) hs
theorem OwnV.nil (B : Nat) (w : World) : OwnV B w (.slice none 0 0) [] [] := ⟨rfl, ⟨rfl, .inl ⟨rfl, rfl⟩⟩, fun k u h => by simp at h, fun i j u u' _ h => by simp at h⟩
theorem slice_one {A : Option Addr} {n c : Nat} : (Value.slice A n c).oneCell' = true := rfl
set_option maxHeartbeats 4000000 in
set_option maxRecDepth 100000 in
/-- the reference's copy -/
theorem rclone_any (v : Value) (C : Ls) (w : World) (h : CaIn w v C) (hS : Sz 1000 1000 C) : Calls Try.prog 34 #[v] w (CaR C w) := by
  obtain ⟨A, c, rfl, hc, r⟩ := h
  have ln := hS.1
  have HS := hide hS.2
  obtain ⟨W0, hW0⟩ : ∃ W0, W0 = (((w.alloc (Obj.cells #[Value.slice A C.length c] 24)).alloc (Obj.cells #[Value.slice none 0 0] 24)).alloc (Obj.cells #[Value.slice none 0 0] 24)) := ⟨_, rfl⟩
  have K0 := hide (show Below w.heap.size w W0 by rw [hW0]; exact bal (bal (bal (brefl w) _) _) _)
  have X1 := hide (show Box W0 w.heap.size 24 #[.slice A C.length c] by rw [hW0]; exact ((Box.new w 24 _).more _).more _)
  have X20 := hide (show Box W0 (w.heap.size + 1) 24 #[.slice none 0 0] by rw [hW0]; exact (Box.new2 w _ 24 _).more _)
  have X30 := hide (show Box W0 (w.heap.size + 1 + 1) 24 #[.slice none 0 0] by rw [hW0]; exact Box.new3 w _ _ 24 _)
  have R := hide r
  have s1 := cell_box1 X1.out
  have HW := hide hW0
  clear r hS hW0
  go_enter Try.func34, Try.ntmps34
  go_upto_region 2 with fail
  rw [← HW.out]
  clear HW
  go_wp2
  clear s1
  go_loopw [10] (fun i wr => ∃ (k : Nat) (vs : List Value) (v3 : Value), k ≤ C.length ∧ i = .int .i64 k ∧ Hid (Below w.heap.size w wr) ∧ Hid (Box wr (w.heap.size + 1) 24 #[.slice none 0 0]) ∧ Hid (Box wr (w.heap.size + 1 + 1) 24 #[v3]) ∧ Hid (OwnV w.heap.size wr v3 (C.take k) vs)) (fun i _ => C.length - (intOf i).toNat)
  case atStart => exact ⟨0, _, _, Nat.zero_le _, rfl, K0, X20, X30, hide (OwnV.nil _ _)⟩
  case round =>
    clear K0 X20 X30
    obtain ⟨k, vs, v3, hk, rfl, K, X2, X3, OV⟩ := hrel
    by_cases hlt : k < C.length
    · obtain ⟨b1, o1, u1, rfl, hl1, x1, hv1⟩ := R.out.cells0 K.out hlt
      obtain ⟨D1, d1, rfl, _, q1⟩ := hv1
      have TS := hide (lAt_snoc hlt)
      have lm := HS.out k hlt
      have lt : (C.take k).length = k := by rw [List.length_take]; omega
      obtain ⟨v5, w5, ha5, ho5, hg5, hat5⟩ := app_run wr w w.heap.size 0 (lAt C k).length d1 D1 (lAt C k) (.slice none 0 0) [] ⟨rfl, .inl ⟨rfl, rfl⟩⟩ rfl q1 K.out (by omega) K.out.size
      have B5 : Below wr.heap.size wr w5 := (brefl wr).grown hg5 (Nat.le_refl _) (fun k e => by cases e)
      rw [Nat.zero_add, List.nil_append] at ho5
      obtain ⟨A5, c5, rfl, _⟩ := row_form ho5
      obtain ⟨A3, c3, rfl, _⟩ := OV.out.form
      obtain ⟨v6, w6, ha6, ho6, hg6⟩ := app_row w5 w.heap.size (C.take k).length (.slice A3 (C.take k).length c3) (.slice A5 (lAt C k).length c5) vs (row_below OV.out.row B5) rfl (by omega) (Nat.le_trans K.out.size B5.size)
      obtain ⟨A6, c6, rfl, _⟩ := row_form ho6
      have B6 := bal B5 (.cells #[.slice A5 (lAt C k).length c5] 34)
      have OV6 := hide (OV.out.push B6 (row_below ho5 (bal (brefl w5) _)) (fun b hb => by
        rcases hat5 with e | e
        · rw [e] at hb; cases hb
        · rw [e] at hb; injection hb with hb; omega) ho6 hg6)
      have KP6 := kp_grown (row_below OV.out.row B6) hg6 (Nat.le_trans K.out.size B6.size)
      have X26 := hide ((X2.out.below B6).kp KP6 (by decide))
      have X36 := hide ((X3.out.below B6).kp KP6 (by decide))
      have K6 := hide ((btrans K.out B6).trans KP6.below)
      have s5 := cell_box1 (X3.out.below B5)
      have s6 := cell_box1 X36.out
      have f6 := X36.out.frozen 0
      have H5 := hide (And.intro ho5 (And.intro hg5 (And.intro hat5 (And.intro B5 (And.intro ho6 (And.intro hg6 (And.intro B6 KP6)))))))
      have HA5 := hide ha5
      have HA6 := hide ha6
      clear ho5 hg5 hat5 B5 ho6 hg6 B6 KP6 q1 ha5 ha6 lt
      generalize lAt C k = l at *
      generalize C.take k = M at *
      go_wp2_with (at_builtin; first | (refine wpList_app rfl (.tmp 14) (.tmp 15) 34 rfl _ _ _ rfl rfl 34 rfl HA5.out ?_) | (refine wpList_app rfl (.tmp 18) (.tmp 20) 22 rfl _ _ _ rfl rfl 22 rfl HA6.out ?_))
      have KP7 := Kp.boxset X36.out (show w.heap.size ≤ w.heap.size + 1 + 1 by omega) 0 (.slice A6 (M.length + 1) c6)
      go_roundw
      case rel => exact ⟨k + 1, _, _, by omega, by go_num, hide (K6.out.trans KP7.below), hide (X26.out.far (by omega) _), hide (X36.out.put 0 _), hide (by rw [TS.out]; exact OV6.out.kp KP7 (by decide) (by decide))⟩
      case measure => simp [intOf]; omega
    · obtain rfl : k = C.length := by omega
      have OVN := hide (show OwnV w.heap.size wr v3 C vs by have := OV.out; rw [List.take_length] at this; exact this)
      clear OV
      obtain ⟨A3, c3, rfl, hc3⟩ := OVN.out.form
      have s2 := cell_box1 X2.out
      have f2 := X2.out.frozen 0
      have s3 := cell_box1 X3.out
      go_wp2
      have KP := hide (Kp.boxset X2.out (show w.heap.size ≤ w.heap.size + 1 by omega) 0 (.slice A3 C.length c3))
      exact ret_c1 Try.results34 rfl rfl (X2.out.put 0 _) ⟨_, _, vs, rfl, hc3, OVN.out.kp KP.out (by decide) (by decide), bset K.out (p := ⟨w.heap.size + 1, 0, none⟩) (by show w.heap.size ≤ w.heap.size + 1; omega) _⟩
end Go.Proofs.Ytinoddpdfknkbab.Pc
