import Derived.Test.YtinoddpdfknkbabRf2
import Derived.Laws.CopyRow
namespace Go.Proofs.Ytinoddpdfknkbab.Pc
open Go Go.RowKit
set_option linter.unusedVariables false
theorem info3 : (Try.prog.info? 3).map (fun i => (i.zero, i.size, i.bytes)) = some (some (.int .i64 0), 1, 8) := by kernel_rfl
theorem info34 : (Try.prog.info? 34).map (fun i => (i.zero, i.size, i.bytes)) = some (some (.slice none 0 0), 1, 24) := by kernel_rfl
theorem size3 : (Try.prog.info? 3).map (·.size) = some 1 := by kernel_rfl
theorem add_at' (b off k : Nat) : (⟨b, off, none⟩ : Addr).add k = ⟨b, off + k, none⟩ := by
  unfold Addr.add
  by_cases h : k = 0 <;> simp [h]
theorem row_own_lt {base n size : Nat} {t : TypeId} {v : Value} {xs : List Value} {w : World} (h : w.ownsRow base t size v n xs) {k : Nat} (hk : w.heap.size ≤ k) : some k ≠ v.ownBlock := by
  obtain ⟨_, ⟨rfl, rfl⟩ | ⟨g, cap, cur, rfl, hgb, hh, _⟩⟩ := h
  · exact Option.some_ne_none _
  · intro e
    have : k = g := by simpa [Value.ownBlock] using e
    have := blk_lt hh
    omega
/-- the row at z is filled anew -/
theorem OwnX.fill {B : Nat} {w : World} {v u : Value} {C : Ls} {vs : List Value} {z : Nat} {l : Is} (h : OwnX B w v C vs z) (hz : z < C.length) (hv : vs[z]? = some u) (hu : w.ownsRow B 3 1 u l.length (l.map ic))
    (hd : ∀ (i j : Nat) (u u' : Value), i ≠ j → vs[i]? = some u → vs[j]? = some u' → u.ownBlock = none ∨ u.ownBlock ≠ u'.ownBlock) : OwnV B w v (C.set z l) vs :=
  ⟨by rw [List.length_set]; exact h.len, by rw [List.length_set]; exact h.row, fun k u' hk => by
    rw [lAt_set hz]
    by_cases e : k = z
    · subst e
      rw [hv] at hk; injection hk with hk; subst hk
      rw [if_pos rfl]; exact hu
    · rw [if_neg e]; exact h.inn k u' e hk, hd⟩
theorem setRow_grown (w : World) (g : Nat) (cur : Array Value) : w.grownBy (w.setRow g cur) (some g) :=
  ⟨rfl, rfl, rfl, by simp [World.setRow], fun k hk hne => by
    have : k ≠ g := fun e => hne (by rw [e])
    simp [World.setRow, Array.getElem?_modify, this.symm]⟩
theorem setRow_box {w : World} {g : Nat} {t : TypeId} {cur cur' : Array Value} (h : Box w g t cur) : Box (w.setRow g cur') g t cur' := by
  unfold Box at h ⊢
  simp [World.setRow, Array.getElem?_modify, h]
theorem own_zeros (W : World) (B m : Nat) (hB : B ≤ W.heap.size) (hm : m ≤ maxLen) : (W.alloc (.cells (madeCells #[.int .i64 0] m) 3)).ownsRow B 3 1 (.slice (some ⟨W.heap.size, 0, none⟩) m m) m ((List.replicate m (0 : Int)).map ic) := by
  refine ⟨by simp, .inr ⟨W.heap.size, m, _, rfl, hB, Box.new W 3 _, Nat.le_refl _, hm, by simp [madeCells], ?_⟩⟩
  apply List.ext_getElem?
  intro i
  by_cases hi : i < m
  · rw [List.getElem?_take_of_lt (by omega)]
    simp [madeCells, ic, hi, Nat.mod_one]
  · rw [List.getElem?_eq_none (by simp [madeCells]; omega), List.getElem?_eq_none (by simp; omega)]
theorem own_nils (W : World) (n : Nat) (hm : n ≤ maxLen) : OwnV W.heap.size (W.alloc (.cells (madeCells #[.slice none 0 0] n) 34)) (.slice (some ⟨W.heap.size, 0, none⟩) n n) (List.replicate n ([] : Is)) (List.replicate n (.slice none 0 0)) := by
  have hn : ∀ (i : Nat) (u : Value), (List.replicate n (Value.slice none 0 0))[i]? = some u → u = .slice none 0 0 := fun i u h => by
    rw [List.getElem?_replicate] at h
    split at h
    · injection h with h; exact h.symm
    · cases h
  refine ⟨by simp, ⟨by simp, .inr ⟨W.heap.size, n, _, by simp, Nat.le_refl _, Box.new W 34 _, by simp, hm, by simp [madeCells], ?_⟩⟩, fun k u hk => ?_, fun i j u u' _ hi _ => .inl ?_⟩
  · apply List.ext_getElem?
    intro i
    by_cases hi : i < n
    · rw [List.getElem?_take_of_lt (by simpa using hi)]
      simp [madeCells, hi, Nat.mod_one]
    · rw [List.getElem?_eq_none (by simp [madeCells]; omega), List.getElem?_eq_none (by simp; omega)]
  · rw [hn k u hk]
    have e : lAt (List.replicate n ([] : Is)) k = [] := by
      unfold lAt
      rw [List.getD_eq_getElem?_getD, List.getElem?_replicate]
      split <;> rfl
    rw [e]
    exact ⟨rfl, .inl ⟨rfl, rfl⟩⟩
  · rw [hn i u hi]; rfl
theorem run_copy_nil' {P : Program} (w : World) (dT sT ty elem : TypeId) (a : Addr) (dLen dCap c : Nat) (hu : P.underlying dT = some (.slice elem)) (hs : ((P.info? elem).map (·.size)).isSome = true) :
    (Builtin.copy_ #[dT, sT] ty #[.slice (some a) dLen dCap, .slice none 0 c]).run P w = .ok (goInt 0) w := by
  cases hq : P.info? elem with
  | none => simp [hq] at hs
  | some i => simp [Builtin.copy_, run_underlying hu, Builtin.lenOf, Builtin.firstCells, sizeOf, typeInfo, hq, storeCells]
theorem dis_set {vs : List Value} {z : Nat} {u : Value} (hd : ∀ (i j : Nat) (u u' : Value), i ≠ j → vs[i]? = some u → vs[j]? = some u' → u.ownBlock = none ∨ u.ownBlock ≠ u'.ownBlock)
    (hu : ∀ (i : Nat) (u' : Value), i ≠ z → vs[i]? = some u' → u'.ownBlock = none ∨ u'.ownBlock ≠ u.ownBlock) : ∀ (i j : Nat) (u1 u2 : Value), i ≠ j → (vs.set z u)[i]? = some u1 → (vs.set z u)[j]? = some u2 → u1.ownBlock = none ∨ u1.ownBlock ≠ u2.ownBlock := by
  intro i j u1 u2 hij h1 h2
  rcases set_at h1 with ⟨e1, e2⟩ | ⟨e1, e2⟩
  · subst e1 e2
    rcases set_at h2 with ⟨e3, _⟩ | ⟨e3, e4⟩
    · exact absurd e3.symm hij
    · rcases hu j u2 e3 e4 with h | h
      · rw [h]
        cases u1.ownBlock
        · exact .inl rfl
        · exact .inr (by simp)
      · exact .inr (fun e => h e.symm)
  · rcases set_at h2 with ⟨e3, e4⟩ | ⟨e3, e4⟩
    · subst e3 e4; exact hu i u1 e1 e2
    · exact hd i j u1 u2 hij e2 e4
/-- a new block's slice is stored -/
theorem OwnV.put_new {B : Nat} {w : World} {C : Ls} {vs : List Value} {g n c z g2 m c2 : Nat} {l : Is} {w0 : World} (h0 : OwnV B w0 (.slice (some ⟨g, 0, none⟩) n c) C vs) (hb : Below w0.heap.size w0 w) (hz : z < C.length) (hg : w0.heap.size ≤ g2)
    (hu : w.ownsRow B 3 1 (.slice (some ⟨g2, 0, none⟩) m c2) l.length (l.map ic)) : OwnV B (w.setCell ⟨g, z, none⟩ (.slice (some ⟨g2, 0, none⟩) m c2)) (.slice (some ⟨g, 0, none⟩) n c) (C.set z l) (vs.set z (.slice (some ⟨g2, 0, none⟩) m c2)) :=
  ((h0.below hb).x z).put hz hu (dis_set h0.dis fun i u' _ hi => .inr (fun e => row_own_lt (h0.inn i u' hi) hg (by rw [e]; rfl)))
theorem step_copy {P : Program} {w w' : World} {ops : Array Oper} {o : Oper} {a : Act} {K : Act → World → Prop} {Q : Exit → Act → World → Prop} {E : Prop} (hgd : o.guard = none) (d s : Operand) (t : TypeId)
    (ho : o.op = .call { callee := .builtin .copy, args := #[d, s], argTypes := #[t, t] }) (vd vs r : Value) (hd : a.eval d = vd) (hs : a.eval s = vs)
    (hr : (Builtin.copy_ #[t, t] o.type #[vd, vs]).run P w = .ok r w') (h : K (a.put o.dst r) w') :
    if Region.wanted o (yielded ops a.tmps) = true then Oper.wp P o a w K Q else E := by
  have hw : Region.wanted o (yielded ops a.tmps) = true := by simp [Region.wanted, hgd]
  rw [if_pos hw]
  unfold Oper.wp execOp
  simp only [ho, resolve, invoke, builtin, Sem.run_bind, Sem.run_pure, Result.andThen_ok, List.map_toArray, List.map_cons, List.map_nil, hd, hs, hr]
  exact h
/-- the row z, written over from its beginning -/
theorem OwnV.over {B : Nat} {w : World} {C : Ls} {vs : List Value} {z g2 m : Nat} {v : Value} {l : Is} {cur : Array Value} (h : OwnV B w v C vs) (hz : z < C.length) (hv : vs[z]? = some (.slice (some ⟨g2, 0, none⟩) m m)) (hl : l.length = m) (hc : cur.toList = l.map ic) : OwnV B (w.setRow g2 cur) v (C.set z l) vs := by
  have hg := setRow_grown w g2 cur
  have hx := h.grown (w' := w.setRow g2 cur) hv hg
  refine hx.fill hz hv ?_ h.dis
  obtain ⟨hl1, ⟨e, _⟩ | ⟨g', cap, cur0, e, hgb, hh, h1, h2, h3, h4⟩⟩ := h.inn z _ hv
  · cases e
  · injection e with e1 e2 e3
    injection e1 with e1; injection e1 with e1
    subst e1 e2 e3
    refine ⟨by simp, .inr ⟨g2, _, cur, by rw [hl], hgb, setRow_box hh, by omega, h2, ?_, ?_⟩⟩
    · rw [← Array.length_toList, hc, List.length_map, hl]; omega
    · rw [hc, List.take_of_length_le (by simp)]
def pad (C : Ls) (k : Nat) : Ls := C.take k ++ List.replicate (C.length - k) []
theorem pad_len {C : Ls} {k : Nat} (h : k ≤ C.length) : (pad C k).length = C.length := by simp [pad]; omega
theorem pad_set {C : Ls} {k : Nat} (h : k < C.length) : (pad C k).set k (lAt C k) = pad C (k + 1) := by
  unfold pad
  have e : C.length - k = (C.length - (k + 1)) + 1 := by omega
  rw [lAt_snoc h, e, List.replicate_succ, List.set_append_right _ _ (by simp; omega), List.append_assoc]
  have : k - (C.take k).length = 0 := by simp; omega
  rw [this]
  rfl
theorem pad_all (C : Ls) : pad C C.length = C := by simp [pad]
theorem pad_zero (C : Ls) : pad C 0 = List.replicate C.length [] := by simp [pad]
theorem bi_news {w w' : World} {a : Addr} {l : Is} (hr : Bi w (some a) l) (hb : Below w.heap.size w w') (j : Nat) (u : Value) (hu : (l.map ic)[j]? = some u) : w'.cell? (a.add j) = some u := by
  have hj : j < l.length := by
    rcases Nat.lt_or_ge j l.length with h | h
    · exact h
    · rw [List.getElem?_eq_none (by rw [List.length_map]; exact h)] at hu; cases hu
  obtain ⟨b, off, e, _, hc⟩ := hr.cells hb hj
  injection e with e
  subst e
  rw [add_at', hc]
  rw [List.getElem?_map, List.getElem?_eq_getElem hj] at hu
  injection hu with hu
  subst hu
  unfold ic
  rw [List.getD_eq_getElem?_getD, List.getElem?_eq_getElem hj]; rfl
theorem ic_one (l : Is) : ∀ u ∈ l.map ic, u.oneCell' = true := by
  intro u hu
  obtain ⟨z, _, rfl⟩ := List.mem_map.1 hu
  rfl
/-- the result of a call that hands back a cache of its own -/
def CaR (C : Ls) (w : World) (e : Ending) (w' : World) : Prop := ∃ A c vs, e = .returned (.agg #[.slice A C.length c]) ∧ C.length ≤ c ∧ OwnV w.heap.size w' (.slice A C.length c) C vs ∧ Below w.heap.size w w'
end Go.Proofs.Ytinoddpdfknkbab.Pc
