import Derived.Test.YtncdilkcblakhaaDRdM
import Derived.Laws.CopyRow
import Derived.Lib.SliceRun
import Derived.Maps.AppendAt
namespace Go.Proofs.Ytncdilkcblakhaa.Dv
open Go Go.RowKit
set_option linter.unusedVariables false
theorem info5 : (Try.prog.info? 5).map (fun i => (i.zero, i.size, i.bytes)) = some (some (.int .u8 0), 1, 1) := by kernel_rfl
theorem info23 : (Try.prog.info? 23).map (fun i => (i.zero, i.size, i.bytes)) = some (some (.slice none 0 0), 1, 24) := by kernel_rfl
theorem info89 : (Try.prog.info? 89).map (fun i => (i.zero, i.size, i.bytes)) = some (some (.agg #[.int .i64 0, .slice none 0 0]), 2, 32) := by kernel_rfl
theorem info67 : (Try.prog.info? 67).map (fun i => (i.zero, i.size, i.bytes)) = some (some (.agg #[.int .i64 0, .int .i64 0, .int .i64 0, .slice none 0 0]), 4, 48) := by kernel_rfl
theorem own_row5 (w : World) : (w.alloc (.cells #[] 5)).ownsRow w.heap.size 5 1 (.slice (some ⟨w.heap.size, 0, none⟩) 0 0) 0 [] :=
  World.ownsRow_made w #[] 0 (Nat.le_refl _) (Nat.zero_le _) (by simp)
theorem add_at' (b off k : Nat) : (⟨b, off, none⟩ : Addr).add k = ⟨b, off + k, none⟩ := by
  unfold Addr.add
  by_cases h : k = 0 <;> simp [h]
theorem row_grown {base n size : Nat} {t : TypeId} {v : Value} {xs : List Value} {w w' : World} (h : w.ownsRow base t size v n xs) (hg : w.grownBy w' v.ownBlock) (hs : base ≤ w.heap.size) : Below base w w' :=
  (Kp.grown (B := base) h hg (Nat.le_refl _) hs).below
theorem bs_news {w : World} {a : Addr} {l : By} (hr : Bs w (some a) l) (j : Nat) (u : Value) (hu : (l.map bc)[j]? = some u) : w.cell? (a.add j) = some u := by
  have hj : j < l.length := by
    rcases Nat.lt_or_ge j l.length with h | h
    · exact h
    · rw [List.getElem?_eq_none (by rw [List.length_map]; exact h)] at hu; cases hu
  obtain ⟨b, off, e, hb, hc⟩ := hr (by rintro rfl; simp at hj)
  injection e with e
  subst e
  rw [add_at', hc j hj]
  rw [List.getElem?_map, List.getElem?_eq_getElem hj] at hu
  injection hu with hu
  subst hu
  unfold bc
  rw [List.getD_eq_getElem?_getD, List.getElem?_eq_getElem hj]; rfl
theorem bc_one (l : By) : ∀ u ∈ l.map bc, u.oneCell' = true := by
  intro u hu
  obtain ⟨z, _, rfl⟩ := List.mem_map.1 hu
  rfl
/-- what a call that hands back bytes of its own leaves -/
def ByR (l : By) (w : World) (e : Ending) (w' : World) : Prop := ∃ v, e = .returned v ∧ OwnBy w' v l ∧ Below w.heap.size w w'
theorem clone_some (a : Addr) (l : By) (c : Nat) (w : World) (hr : Bs w (some a) l) (hn : l.length ≤ 1000) : Calls Try.prog 51 #[.slice (some a) l.length c] w (ByR l w) := by
  obtain ⟨i0, hi0, hz0, hz1, hz2⟩ := info_parts info5
  have HR := hide (hr.below (bal (brefl w) (.cells #[] 5)))
  clear hr
  have q35 : ∀ (w : World) (a : Option Addr) (n c n' c' : Nat), (binOp .eql 23 (.slice a n c) (.slice none n' c')).run Try.prog w = .ok (.bool a.isNone) w := fun w a n c n' c' => Lib.run_eql_slice_nil w _ _ a n c n' c' Try.underlying23
  go_enter Try.func51, Try.ntmps51
  go_wp2_with (at_builtin; refine wpList_append_own _ rfl (.tmp 5) (.tmp 6) _ rfl w.heap.size 5 i0 _ 1 1 Try.underlying23 hi0 hz0 hz1 hz2 rfl (by omega) (.slice (some ⟨w.heap.size, 0, none⟩) 0 0) 0 [] rfl (own_row5 w) a l.length c (l.map bc) rfl (by simp) (fun j u hu => bs_news HR.out j u hu) (bc_one _) (by simp only [maxLen]; omega) (by omega) (by simp) ?_; intro v1 w1 hown1 hg1 hat1; obtain ⟨A1, n1, rfl, _⟩ := row_form hown1; have HB := hide (show Below w.heap.size w w1 from (bal (brefl w) _).trans (row_grown (own_row5 w) hg1 (by simp))); have HM := hide hown1; clear hown1 hg1 hat1)
  go_wp2
  go_ret
  rw [Nat.zero_add, List.nil_append] at HM
  exact ⟨_, rfl, OwnBy.of_row HM.out, HB.out⟩
theorem clone_nil (c : Nat) (w : World) : Calls Try.prog 51 #[.slice none 0 c] w (ByR [] w) := by
  have q35 : ∀ (w : World) (a : Option Addr) (n c n' c' : Nat), (binOp .eql 23 (.slice a n c) (.slice none n' c')).run Try.prog w = .ok (.bool a.isNone) w := fun w a n c n' c' => Lib.run_eql_slice_nil w _ _ a n c n' c' Try.underlying23
  go_enter Try.func51, Try.ntmps51
  go_wp2
  go_ret
  exact ⟨_, rfl, OwnBy.nil _, brefl _⟩
theorem clone_any (v : Value) (l : By) (w : World) (hr : IsBs w v l) (hn : l.length ≤ 1000) : Calls Try.prog 51 #[v] w (ByR l w) := by
  obtain ⟨A, c, rfl, hc, hb⟩ := hr
  rcases A with _ | a
  · have hL : l = [] := by
      rcases l with _ | ⟨x, xs⟩
      · rfl
      · obtain ⟨b, off, e, _⟩ := hb (by simp)
        cases e
    subst hL
    exact clone_nil c w
  · exact clone_some a l c w hb hn
theorem step_append_own {P : Program} {w : World} {ops : Array Oper} {o : Oper} {a : Act} {K : Act → World → Prop} {Q : Exit → Act → World → Prop} {E : Prop} (hgd : o.guard = none) (s x : Operand) (t : TypeId)
    (ho : o.op = .call { callee := .builtin .append, args := #[s, x], argTypes := #[t, t] })
    (base : Nat) (e : TypeId) (i : TypeInfo) (z : Value) (size bytes : Nat) (ht : P.underlying t = some (.slice e)) (hi : P.info? e = some i) (hz : i.zero = some z)
    (hsize : i.size = size) (hby : i.bytes = bytes) (hzs : z.cells.size = size) (hsz : 0 < size)
    (v : Value) (n : Nat) (xs : List Value) (hs : a.eval s = v) (hown : w.ownsRow base e size v n xs)
    (ad : Addr) (m c : Nat) (news : List Value) (hx : a.eval x = .slice (some ad) m c) (hl : news.length = m * size) (hnews : ∀ j u, news[j]? = some u → w.cell? (ad.add j) = some u) (h1 : ∀ u ∈ news, u.oneCell' = true)
    (h63 : n + m ≤ maxLen) (hbytes : (n + m) * bytes ≤ 140737488355328) (hbase : base ≤ w.heap.size)
    (h : ∀ v' w', w'.ownsRow base e size v' (n + m) (xs ++ news) → w.grownBy w' v.ownBlock → K (a.put o.dst v') w') :
    if Region.wanted o (yielded ops a.tmps) = true then Oper.wp P o a w K Q else E := by
  have hw : Region.wanted o (yielded ops a.tmps) = true := by simp [Region.wanted, hgd]
  rw [if_pos hw]
  exact wp_append_own w s x t ho base e i z size bytes ht hi hz hsize hby hzs hsz v n xs hs hown ad m c news hx hl hnews h1 h63 hbytes hbase fun v' w' h2 h3 _ => h v' w' h2 h3
-- PUSHES
theorem OwnBy.one {w : World} {v : Value} {l : By} (h : OwnBy w v l) : v.oneCell' = true := by
  obtain ⟨A, c, rfl, _⟩ := h; rfl
theorem kp_grown {B n size : Nat} {T : TypeId} {v : Value} {xs : List Value} {w w' : World} (h : w.ownsRow B T size v n xs) (hg : w.grownBy w' v.ownBlock) (hs : B ≤ w.heap.size) : Kp B T w w' := Kp.grown h hg (Nat.le_refl _) hs
theorem OwnB.push {B n : Nat} {w w' : World} {v v' u : Value} {l : By} {R : List PB} (ho : ∀ r ∈ R, OwnBy w r.2 r.1) (hu : OwnBy w u l) (hn : R.length = n) (hrow : w.ownsRow B 23 1 v n (cB R)) (hown : w'.ownsRow B 23 1 v' (n + 1) (cB R ++ [u])) (hk : Kp B 23 w w') :
    OwnB B w' v' (R.map Prod.fst ++ [l]) :=
  ⟨R ++ [(l, u)], by simp, by rw [cB_append]; rw [show (R.map Prod.fst ++ [l]).length = n + 1 by simp [hn]]; exact hown, fun r hr => by
    rcases List.mem_append.1 hr with h | h
    · exact (ho r h).kp hk (by decide)
    · rw [List.mem_singleton.1 h]; exact hu.kp hk (by decide)⟩
theorem OwnC.push {B n : Nat} {w w' : World} {v' u : Value} {z : Int} {l : By} {R : List PC} (ho : ∀ r ∈ R, OwnBy w r.2.2 r.2.1) (hu : OwnBy w u l) (hn : R.length = n) (hown : w'.ownsRow B 89 2 v' (n + 1) (cC R ++ [.int .i64 z, u])) (hk : Kp B 89 w w') :
    OwnC B w' v' (R.map pcC ++ [(z, l)]) :=
  ⟨R ++ [(z, l, u)], by simp [pcC], by rw [cC_append]; rw [show (R.map pcC ++ [(z, l)]).length = n + 1 by simp [hn]]; exact hown, fun r hr => by
    rcases List.mem_append.1 hr with h | h
    · exact (ho r h).kp hk (by decide)
    · rw [List.mem_singleton.1 h]; exact hu.kp hk (by decide)⟩
theorem OwnQ.push {B n : Nat} {w w' : World} {v' u : Value} {z0 z1 z2 : Int} {l : By} {R : List PQ} (ho : ∀ r ∈ R, OwnBy w r.2.2.2.2 r.2.2.2.1) (hu : OwnBy w u l) (hn : R.length = n) (hown : w'.ownsRow B 67 4 v' (n + 1) (cQ R ++ [.int .i64 z0, .int .i64 z1, .int .i64 z2, u])) (hk : Kp B 67 w w') :
    OwnQ B w' v' (R.map pqQ ++ [(z0, z1, z2, l)]) :=
  ⟨R ++ [(z0, z1, z2, l, u)], by simp [pqQ], by rw [cQ_append]; rw [show (R.map pqQ ++ [(z0, z1, z2, l)]).length = n + 1 by simp [hn]]; exact hown, fun r hr => by
    rcases List.mem_append.1 hr with h | h
    · exact (ho r h).kp hk (by decide)
    · rw [List.mem_singleton.1 h]; exact hu.kp hk (by decide)⟩
end Go.Proofs.Ytncdilkcblakhaa.Dv
namespace Go.Proofs.Ytncdilkcblakhaa.Dv
open Go Go.RowKit
set_option linter.unusedVariables false
theorem ret_q {fn : Func} {a : Act} {W : World} {g k : Nat} {x0 x1 x2 x3 : Value} {Q : Ending → World → Prop} (hr : fn.results = #[.cell k 67]) (h2 : a.tmps.getD k undef = .pointer (some ⟨g, 0, none⟩)) (hd : a.defers = [])
    (hE : Box W g 67 #[x0, x1, x2, x3]) (hq : Q (.returned (.agg #[x0, x1, x2, x3])) W) : bodyPost Try.prog fn Q .ret a W := by
  have c0 := hE.cell 0
  have c1 := hE.cell 1
  have c2 := hE.cell 2
  have c3 := hE.cell 3
  simp at c0 c1 c2 c3
  simp only [Array.getD_eq_getD_getElem?] at h2
  exact bodyPost_ret (v := .agg #[x0, x1, x2, x3]) (by simp [results, hr, h2, go_sem, c0, c1, c2, c3]) hd hq
theorem OwnBy.form {w : World} {v : Value} {l : By} (h : OwnBy w v l) : ∃ A c, v = .slice A l.length c := by
  obtain ⟨A, c, e, _⟩ := h; exact ⟨A, c, e⟩
theorem IsBs.form {w : World} {v : Value} {l : By} (h : IsBs w v l) : ∃ A c, v = .slice A l.length c := by
  obtain ⟨A, c, e, _⟩ := h; exact ⟨A, c, e⟩
/-- what a call leaves that hands back a request of its own -/
def RqR (i k b : Int) (l : By) (w : World) (e : Ending) (w' : World) : Prop := ∃ v, e = .returned (.agg #[.int .i64 i, .int .i64 k, .int .i64 b, v]) ∧ OwnBy w' v l ∧ Below w.heap.size w w'
theorem Box.set4 {W : World} {g : Nat} {t : TypeId} {y0 y1 y2 y3 : Value} (h : Box W g t #[y0, y1, y2, y3]) (x0 x1 x2 x3 : Value) : Box ((((W.setCell ⟨g, 0, none⟩ x0).setCell ⟨g, 1, none⟩ x1).setCell ⟨g, 2, none⟩ x2).setCell ⟨g, 3, none⟩ x3) g t #[x0, x1, x2, x3] :=
  (((h.put 0 x0).put 1 x1).put 2 x2).put 3 x3
theorem OwnBy.set4 {W : World} {g : Nat} {t : TypeId} {y0 y1 y2 y3 v : Value} {l : By} (ho : OwnBy W v l) (h : Box W g t #[y0, y1, y2, y3]) (hne : (5 : TypeId) ≠ t) (x0 x1 x2 x3 : Value) : OwnBy ((((W.setCell ⟨g, 0, none⟩ x0).setCell ⟨g, 1, none⟩ x1).setCell ⟨g, 2, none⟩ x2).setCell ⟨g, 3, none⟩ x3) v l :=
  (((ho.kp (Kp.boxset (B := 0) h (Nat.zero_le _) 0 x0) hne).kp (Kp.boxset (B := 0) (h.put 0 x0) (Nat.zero_le _) 1 x1) hne).kp (Kp.boxset (B := 0) ((h.put 0 x0).put 1 x1) (Nat.zero_le _) 2 x2) hne).kp (Kp.boxset (B := 0) (((h.put 0 x0).put 1 x1).put 2 x2) (Nat.zero_le _) 3 x3) hne
set_option maxHeartbeats 1000000 in
theorem copyrq_any (i k b : Int) (v : Value) (l : By) (w : World) (hr : IsBs w v l) (hn : l.length ≤ 1000) : Calls Try.prog 45 #[.agg #[.int .i64 i, .int .i64 k, .int .i64 b, v]] w (RqR i k b l w) := by
  obtain ⟨Av, cv, rfl⟩ := hr.form
  obtain ⟨W0, hW0⟩ : ∃ W0, W0 = (w.alloc (.cells #[.int .i64 i, .int .i64 k, .int .i64 b, .slice Av l.length cv] 67)).alloc (.cells #[.int .i64 0, .int .i64 0, .int .i64 0, .slice none 0 0] 67) := ⟨_, rfl⟩
  have K0 := hide (show Below w.heap.size w W0 by rw [hW0]; exact bal (bal (brefl w) _) _)
  have X := hide (show Box W0 w.heap.size 67 #[.int .i64 i, .int .i64 k, .int .i64 b, .slice Av l.length cv] by rw [hW0]; exact (Box.new w 67 _).more _)
  have Y := hide (show Box W0 (w.heap.size + 1) 67 #[.int .i64 0, .int .i64 0, .int .i64 0, .slice none 0 0] by rw [hW0]; exact Box.new2 _ _ _ _)
  have C := hide (clone_any _ l W0 (hr.below K0.out) hn)
  unfold ByR at C
  have HW := hide hW0
  clear hr hW0
  go_enter Try.func45, Try.ntmps45
  go_wp2_with fail
  rw [← HW.out]
  refine C.out.mono ?_
  rintro e w1 ⟨v1, rfl, ho, hb⟩
  obtain ⟨A1, d1, rfl⟩ := ho.form
  have HO := hide ho
  have K1 := hide hb
  have X1 := hide (X.out.below hb)
  have Y1 := hide (Y.out.below hb)
  have x0 := X1.out.cell 0
  have x1 := X1.out.cell 1
  have x2 := X1.out.cell 2
  have x3 := X1.out.cell 3
  have y0 := Y1.out.cell 0
  have y1 := Y1.out.cell 1
  have y2 := Y1.out.cell 2
  have y3 := Y1.out.cell 3
  have fx3 := X1.out.frozen 3
  have f0 := Y1.out.frozen 0
  have f1 := Y1.out.frozen 1
  have f2 := Y1.out.frozen 2
  have f3 := Y1.out.frozen 3
  simp at x0 x1 x2 x3 y0 y1 y2 y3
  clear ho hb
  go_wp2
  have Y2 := hide (Y1.out.far (b := w.heap.size) (i := 3) (by omega) (.slice A1 l.length d1))
  have HO2 := hide (HO.out.kp (Kp.boxset (B := 0) X1.out (Nat.zero_le _) 3 (.slice A1 l.length d1)) (by decide))
  exact ret_q Try.results45 rfl rfl (Y2.out.set4 (.int .i64 i) (.int .i64 k) (.int .i64 b) (.slice A1 l.length d1)) ⟨_, rfl, HO2.out.set4 Y2.out (by decide) _ _ _ _, bset (bset (bset (bset (bset (btrans K0.out K1.out) (Nat.le_refl _) _) (by simp) _) (by simp) _) (by simp) _) (by simp) _⟩
end Go.Proofs.Ytncdilkcblakhaa.Dv
namespace Go.Proofs.Ytncdilkcblakhaa.Dv
open Go Go.RowKit
set_option linter.unusedVariables false
/-- what stays as it was in wz while a region appends to v and stores into the box bo -/
structure Kz (wz : World) (v : Value) (bo : Nat) (W : World) : Prop where
  size : wz.heap.size ≤ W.heap.size
  keep : ∀ k, k < wz.heap.size → k ≠ bo → some k ≠ v.ownBlock → W.heap[k]? = wz.heap[k]?
section
variable {wz W W' : World} {v : Value} {bo : Nat}
theorem Kz.refl (wz : World) (v : Value) (bo : Nat) : Kz wz v bo wz := ⟨Nat.le_refl _, fun _ _ _ _ => rfl⟩
theorem Kz.drew (h : Kz wz v bo W) : Kz wz v bo W.drew := ⟨h.size, h.keep⟩
theorem Kz.below (h : Kz wz v bo W) (hb : Below W.heap.size W W') : Kz wz v bo W' := ⟨Nat.le_trans h.size hb.size, fun k hk h1 h2 => (hb.block k (Nat.lt_of_lt_of_le hk h.size)).trans (h.keep k hk h1 h2)⟩
theorem Kz.alloc (h : Kz wz v bo W) (o : Obj) : Kz wz v bo (W.alloc o) := h.below (bal (brefl _) o)
theorem Kz.grown (h : Kz wz v bo W) (hg : W.grownBy W' v.ownBlock) : Kz wz v bo W' := ⟨Nat.le_trans h.size hg.size, fun k hk h1 h2 => (hg.block k (Nat.lt_of_lt_of_le hk h.size) h2).trans (h.keep k hk h1 h2)⟩
theorem Kz.set (h : Kz wz v bo W) (i : Nat) (u : Value) : Kz wz v bo (W.setCell ⟨bo, i, none⟩ u) := ⟨by simpa [World.setCell] using h.size, fun k hk h1 h2 => (heap_setCell_other W ⟨bo, i, none⟩ k u h1).trans (h.keep k hk h1 h2)⟩
theorem Kz.cell (h : Kz wz v bo W) {k i : Nat} {x : Value} (hc : wz.cell? ⟨k, i, none⟩ = some x) (hk : k < wz.heap.size) (h1 : k ≠ bo) (h2 : some k ≠ v.ownBlock) : W.cell? ⟨k, i, none⟩ = some x :=
  (World.cell?_of_block (w := wz) (h.keep k hk h1 h2)).trans hc
end
theorem row_own_lt {base n size : Nat} {t : TypeId} {v : Value} {xs : List Value} {w : World} (h : w.ownsRow base t size v n xs) {k : Nat} (hk : w.heap.size ≤ k) : some k ≠ v.ownBlock := by
  obtain ⟨_, ⟨rfl, rfl⟩ | ⟨g, cap, cur, rfl, hgb, hh, _⟩⟩ := h
  · exact Option.some_ne_none _
  · intro e
    have : k = g := by simpa [Value.ownBlock] using e
    have := blk_lt hh
    omega
theorem row_own_ge {base n size : Nat} {t : TypeId} {v : Value} {xs : List Value} {w : World} (h : w.ownsRow base t size v n xs) {k : Nat} (hk : k < base) : some k ≠ v.ownBlock := by
  obtain ⟨_, ⟨rfl, rfl⟩ | ⟨g, cap, cur, rfl, hgb, hh, _⟩⟩ := h
  · exact Option.some_ne_none _
  · intro e
    have : k = g := by simpa [Value.ownBlock] using e
    omega
theorem row_own_box {base n size : Nat} {t t2 : TypeId} {v : Value} {xs : List Value} {w : World} (h : w.ownsRow base t size v n xs) {k : Nat} {cs : Array Value} (hX : Box w k t2 cs) (hne : t2 ≠ t) : some k ≠ v.ownBlock := by
  obtain ⟨_, ⟨rfl, rfl⟩ | ⟨g, cap, cur, rfl, hgb, hh, _⟩⟩ := h
  · exact Option.some_ne_none _
  · intro e
    have : k = g := by simpa [Value.ownBlock] using e
    subst this
    exact hX.ne (h2 := hh) hne rfl
/-- the state of a copy of a device that is under way: the source's box, the result's, and the copy's -/
structure Cl (w : World) (bs br bo : Nat) (src zer : Array Value) (d n : Int) (vb vc vq : Value) (LB : List By) (LC : List Ca) (LQ : List Rq) (W : World) : Prop where
  below : Below w.heap.size w W
  src : Box W bs 57 src
  res : Box W br 57 zer
  out : Box W bo 57 #[.int .i64 d, .int .i64 n, vb, vc, vq]
  ob : OwnB w.heap.size W vb LB
  oc : OwnC w.heap.size W vc LC
  oq : OwnQ w.heap.size W vq LQ
section
variable {w W W' : World} {bs br bo : Nat} {src zer : Array Value} {d n : Int} {vb vc vq : Value} {LB : List By} {LC : List Ca} {LQ : List Rq}
theorem Cl.on (h : Cl w bs br bo src zer d n vb vc vq LB LC LQ W) (hb : Below W.heap.size W W') : Cl w bs br bo src zer d n vb vc vq LB LC LQ W' :=
  ⟨btrans h.below hb, h.src.below hb, h.res.below hb, h.out.below hb, h.ob.below hb, h.oc.below hb, h.oq.below hb⟩
theorem Cl.alloc (h : Cl w bs br bo src zer d n vb vc vq LB LC LQ W) (o : Obj) : Cl w bs br bo src zer d n vb vc vq LB LC LQ (W.alloc o) := h.on (bal (brefl _) o)
theorem Cl.gb (h : Cl w bs br bo src zer d n vb vc vq LB LC LQ W) (hk : Kp w.heap.size 23 W W') : Box W' bo 57 #[.int .i64 d, .int .i64 n, vb, vc, vq] := h.out.kp hk (by decide)
theorem Cl.gc (h : Cl w bs br bo src zer d n vb vc vq LB LC LQ W) (hk : Kp w.heap.size 89 W W') : Box W' bo 57 #[.int .i64 d, .int .i64 n, vb, vc, vq] := h.out.kp hk (by decide)
theorem Cl.gq (h : Cl w bs br bo src zer d n vb vc vq LB LC LQ W) (hk : Kp w.heap.size 67 W W') : Box W' bo 57 #[.int .i64 d, .int .i64 n, vb, vc, vq] := h.out.kp hk (by decide)
/-- a block is appended -/
theorem Cl.pushB (h : Cl w bs br bo src zer d n vb vc vq LB LC LQ W) (hos : bs ≠ bo) (hor : br ≠ bo) (hwo : w.heap.size ≤ bo) {u v4 : Value} {l : By} {R : List PB} {W4 : World} (hR : R.map Prod.fst = LB) (hro : ∀ r ∈ R, OwnBy W r.2 r.1) (hrow : W.ownsRow w.heap.size 23 1 vb LB.length (cB R)) (hu : OwnBy W u l)
    (hown : W4.ownsRow w.heap.size 23 1 v4 (LB.length + 1) (cB R ++ [u])) (hg : W.grownBy W4 vb.ownBlock) : Cl w bs br bo src zer d n v4 vc vq (LB ++ [l]) LC LQ (W4.setCell ⟨bo, 2, none⟩ v4) := by
  have hk := kp_grown hrow hg h.below.size
  have hl : R.length = LB.length := by rw [← hR, List.length_map]
  have ho := h.gb hk
  have hk2 : Kp w.heap.size 57 W4 (W4.setCell ⟨bo, 2, none⟩ v4) := Kp.boxset ho hwo 2 v4
  have hp := OwnB.push hro hu hl hrow hown hk
  rw [hR] at hp
  exact ⟨(h.below.trans hk.below).setCell hwo v4, (h.src.kp hk (by decide)).far hos v4, (h.res.kp hk (by decide)).far hor v4, ho.put 2 v4, hp.kp hk2 (by decide) (by decide), (h.oc.kp hk (by decide) (by decide)).kp hk2 (by decide) (by decide), (h.oq.kp hk (by decide) (by decide)).kp hk2 (by decide) (by decide)⟩
theorem Cl.pushC (h : Cl w bs br bo src zer d n vb vc vq LB LC LQ W) (hos : bs ≠ bo) (hor : br ≠ bo) (hwo : w.heap.size ≤ bo) {u v4 : Value} {z : Int} {l : By} {R : List PC} {W4 : World} (hR : R.map pcC = LC) (hro : ∀ r ∈ R, OwnBy W r.2.2 r.2.1) (hrow : W.ownsRow w.heap.size 89 2 vc LC.length (cC R)) (hu : OwnBy W u l)
    (hown : W4.ownsRow w.heap.size 89 2 v4 (LC.length + 1) (cC R ++ [.int .i64 z, u])) (hg : W.grownBy W4 vc.ownBlock) : Cl w bs br bo src zer d n vb v4 vq LB (LC ++ [(z, l)]) LQ (W4.setCell ⟨bo, 3, none⟩ v4) := by
  have hk := kp_grown hrow hg h.below.size
  have hl : R.length = LC.length := by rw [← hR, List.length_map]
  have ho := h.gc hk
  have hk2 : Kp w.heap.size 57 W4 (W4.setCell ⟨bo, 3, none⟩ v4) := Kp.boxset ho hwo 3 v4
  have hp := OwnC.push hro hu hl hown hk
  rw [hR] at hp
  exact ⟨(h.below.trans hk.below).setCell hwo v4, (h.src.kp hk (by decide)).far hos v4, (h.res.kp hk (by decide)).far hor v4, ho.put 3 v4, (h.ob.kp hk (by decide) (by decide)).kp hk2 (by decide) (by decide), hp.kp hk2 (by decide) (by decide), (h.oq.kp hk (by decide) (by decide)).kp hk2 (by decide) (by decide)⟩
theorem Cl.pushQ (h : Cl w bs br bo src zer d n vb vc vq LB LC LQ W) (hos : bs ≠ bo) (hor : br ≠ bo) (hwo : w.heap.size ≤ bo) {u v4 : Value} {z0 z1 z2 : Int} {l : By} {R : List PQ} {W4 : World} (hR : R.map pqQ = LQ) (hro : ∀ r ∈ R, OwnBy W r.2.2.2.2 r.2.2.2.1) (hrow : W.ownsRow w.heap.size 67 4 vq LQ.length (cQ R)) (hu : OwnBy W u l)
    (hown : W4.ownsRow w.heap.size 67 4 v4 (LQ.length + 1) (cQ R ++ [.int .i64 z0, .int .i64 z1, .int .i64 z2, u])) (hg : W.grownBy W4 vq.ownBlock) : Cl w bs br bo src zer d n vb vc v4 LB LC (LQ ++ [(z0, z1, z2, l)]) (W4.setCell ⟨bo, 4, none⟩ v4) := by
  have hk := kp_grown hrow hg h.below.size
  have hl : R.length = LQ.length := by rw [← hR, List.length_map]
  have ho := h.gq hk
  have hk2 : Kp w.heap.size 57 W4 (W4.setCell ⟨bo, 4, none⟩ v4) := Kp.boxset ho hwo 4 v4
  have hp := OwnQ.push hro hu hl hown hk
  rw [hR] at hp
  exact ⟨(h.below.trans hk.below).setCell hwo v4, (h.src.kp hk (by decide)).far hos v4, (h.res.kp hk (by decide)).far hor v4, ho.put 4 v4, (h.ob.kp hk (by decide) (by decide)).kp hk2 (by decide) (by decide), (h.oc.kp hk (by decide) (by decide)).kp hk2 (by decide) (by decide), hp.kp hk2 (by decide) (by decide)⟩
end
theorem cell_row (w : World) (cs : Array Value) (t : TypeId) : ∀ j u, cs.toList[j]? = some u → (w.alloc (.cells cs t)).cell? ((⟨w.heap.size, 0, none⟩ : Addr).add j) = some u := by
  intro j u hu
  rw [add_at', Nat.zero_add, (Box.new w t cs).cell]
  simpa using hu
/-- the whole device is stored and handed back -/
theorem Box.set5 {W : World} {g : Nat} {t : TypeId} {y0 y1 y2 y3 y4 : Value} (h : Box W g t #[y0, y1, y2, y3, y4]) (x0 x1 x2 x3 x4 : Value) : Box (((((W.setCell ⟨g, 0, none⟩ x0).setCell ⟨g, 1, none⟩ x1).setCell ⟨g, 2, none⟩ x2).setCell ⟨g, 3, none⟩ x3).setCell ⟨g, 4, none⟩ x4) g t #[x0, x1, x2, x3, x4] :=
  ((((h.put 0 x0).put 1 x1).put 2 x2).put 3 x3).put 4 x4
theorem kp_set5 {B : Nat} {W : World} {g : Nat} {y0 y1 y2 y3 y4 : Value} {t : TypeId} (h : Box W g t #[y0, y1, y2, y3, y4]) (hB : B ≤ g) (x0 x1 x2 x3 x4 : Value) : Kp B t W (((((W.setCell ⟨g, 0, none⟩ x0).setCell ⟨g, 1, none⟩ x1).setCell ⟨g, 2, none⟩ x2).setCell ⟨g, 3, none⟩ x3).setCell ⟨g, 4, none⟩ x4) :=
  ((((Kp.boxset h hB 0 x0).trans (Kp.boxset (h.put 0 x0) hB 1 x1)).trans (Kp.boxset ((h.put 0 x0).put 1 x1) hB 2 x2)).trans (Kp.boxset (((h.put 0 x0).put 1 x1).put 2 x2) hB 3 x3)).trans (Kp.boxset ((((h.put 0 x0).put 1 x1).put 2 x2).put 3 x3) hB 4 x4)
/-- a device in a call's own memory, kept -/
theorem DevOwn.below {B : Nat} {w w' : World} {v : Value} {D : Dev} (h : DevOwn B w v D) (hb : Below w.heap.size w w') : DevOwn B w' v D := by
  obtain ⟨vb, vc, vq, e, h1, h2, h3⟩ := h
  exact ⟨vb, vc, vq, e, h1.below hb, h2.below hb, h3.below hb⟩
theorem DevOwn.mono {B B' : Nat} {w : World} {v : Value} {D : Dev} (h : DevOwn B w v D) (hB : B' ≤ B) : DevOwn B' w v D := by
  obtain ⟨vb, vc, vq, e, h1, h2, h3⟩ := h
  exact ⟨vb, vc, vq, e, h1.mono hB, h2.mono hB, h3.mono hB⟩
theorem DevOwn.kp {B B' : Nat} {w w' : World} {v : Value} {D : Dev} (h : DevOwn B w v D) (hk : Kp B' 57 w w') : DevOwn B w' v D := by
  obtain ⟨vb, vc, vq, e, h1, h2, h3⟩ := h
  exact ⟨vb, vc, vq, e, h1.kp hk (by decide) (by decide), h2.kp hk (by decide) (by decide), h3.kp hk (by decide) (by decide)⟩
/-- what a call leaves that hands back a device of its own -/
def DvR (D : Dev) (w : World) (e : Ending) (w' : World) : Prop := ∃ v, e = .returned v ∧ DevOwn w.heap.size w' v D ∧ Below w.heap.size w w'
theorem ret_d {fn : Func} {a : Act} {W : World} {g k : Nat} {x0 x1 x2 x3 x4 : Value} {Q : Ending → World → Prop} (hr : fn.results = #[.cell k 57]) (h2 : a.tmps.getD k undef = .pointer (some ⟨g, 0, none⟩)) (hd : a.defers = [])
    (hE : Box W g 57 #[x0, x1, x2, x3, x4]) (hq : Q (.returned (.agg #[x0, x1, x2, x3, x4])) W) : bodyPost Try.prog fn Q .ret a W := by
  have c0 := hE.cell 0
  have c1 := hE.cell 1
  have c2 := hE.cell 2
  have c3 := hE.cell 3
  have c4 := hE.cell 4
  simp at c0 c1 c2 c3 c4
  simp only [Array.getD_eq_getD_getElem?] at h2
  exact bodyPost_ret (v := .agg #[x0, x1, x2, x3, x4]) (by simp [results, hr, h2, go_sem, c0, c1, c2, c3, c4]) hd hq
end Go.Proofs.Ytncdilkcblakhaa.Dv
namespace Go.Proofs.Ytncdilkcblakhaa.Dv
open Go Go.RowKit
set_option linter.unusedVariables false
theorem below_drew {B : Nat} {a w : World} (h : Below B a w) : Below B a w.drew := ⟨h.os, h.tape, h.output, h.size, h.block⟩
theorem Cl.drew {w W : World} {bs br bo : Nat} {src zer : Array Value} {d n : Int} {vb vc vq : Value} {LB : List By} {LC : List Ca} {LQ : List Rq} (h : Cl w bs br bo src zer d n vb vc vq LB LC LQ W) : Cl w bs br bo src zer d n vb vc vq LB LC LQ W.drew := h.on (below_drew (brefl W))
/-- a device small enough to be copied -/
structure Sm (D : Dev) : Prop where
  bl : D.bl.length ≤ 1000
  ca : D.ca.length ≤ 1000
  qu : D.qu.length ≤ 1000
  bb : ∀ b ∈ D.bl, b.length ≤ 1000
  cb : ∀ c ∈ D.ca, c.2.length ≤ 1000
  qb : ∀ q ∈ D.qu, q.2.2.2.length ≤ 1000
theorem box5_cells {W W' : World} {g : Nat} {t : TypeId} {x0 x1 x2 x3 x4 : Value} (h : Box W g t #[x0, x1, x2, x3, x4]) : W.cell? ⟨g, 0, none⟩ = some x0 ∧ W.cell? ⟨g, 1, none⟩ = some x1 ∧ W.cell? ⟨g, 2, none⟩ = some x2 ∧ W.cell? ⟨g, 3, none⟩ = some x3 ∧ W.cell? ⟨g, 4, none⟩ = some x4 := ⟨h.cell 0, h.cell 1, h.cell 2, h.cell 3, h.cell 4⟩
set_option maxHeartbeats 8000000 in
set_option maxRecDepth 100000 in
theorem clone_dev (v : Value) (D : Dev) (w : World) (h : DevIn w v D) (hS : Sm D) : Calls Try.prog 43 #[v] w (DvR D w) := by
  obtain ⟨Ab, cb, Ac, cc, Aq, cq, rfl, h1, h2, h3, rb, rc, rq⟩ := h
  obtain ⟨W0, hW0⟩ : ∃ W0, W0 = ((w.alloc (.cells #[.int .i64 D.dep, .int .i64 D.nxt, .slice Ab D.bl.length cb, .slice Ac D.ca.length cc, .slice Aq D.qu.length cq] 57)).alloc (.cells #[.int .i64 0, .int .i64 0, .slice none 0 0, .slice none 0 0, .slice none 0 0] 57)).alloc (.cells #[.int .i64 D.dep, .int .i64 D.nxt, .slice none 0 0, .slice none 0 0, .slice none 0 0] 57) := ⟨_, rfl⟩
  have K0 := hide (show Below w.heap.size w W0 by rw [hW0]; exact bal (bal (bal (brefl w) _) _) _)
  have CL0 := hide (show Cl w w.heap.size (w.heap.size + 1) (w.heap.size + 2) #[.int .i64 D.dep, .int .i64 D.nxt, .slice Ab D.bl.length cb, .slice Ac D.ca.length cc, .slice Aq D.qu.length cq] #[.int .i64 0, .int .i64 0, .slice none 0 0, .slice none 0 0, .slice none 0 0] D.dep D.nxt (.slice none 0 0) (.slice none 0 0) (.slice none 0 0) [] [] [] W0 from
    ⟨K0.out, by rw [hW0]; exact ((Box.new w 57 _).more _).more _, by rw [hW0]; exact (Box.new2 _ _ _ _).more _, by rw [hW0]; exact Box.new3 _ _ _ _ _, OwnB.nil _ _, OwnC.nil _ _, OwnQ.nil _ _⟩)
  have RB := hide rb
  have RC := hide rc
  have RQ := hide rq
  have HS := hide hS
  have hos : w.heap.size ≠ w.heap.size + 2 := by omega
  have hor : w.heap.size + 1 ≠ w.heap.size + 2 := by omega
  have hwo : w.heap.size ≤ w.heap.size + 2 := by omega
  have lb : D.bl.length ≤ 1000 := hS.bl
  have lc : D.ca.length ≤ 1000 := hS.ca
  have lq : D.qu.length ≤ 1000 := hS.qu
  have HW := hide hW0
  clear rb rc rq hS
  go_enter Try.func43, Try.ntmps43
  go_wp2
  rw [← hW0]
  clear hW0
  go_loopw [5, 18] (fun _ i wr => ∃ (k : Nat) (vb : Value), k ≤ D.bl.length ∧ i = .int .i64 k ∧ Hid (Cl w w.heap.size (w.heap.size + 1) (w.heap.size + 2) #[.int .i64 D.dep, .int .i64 D.nxt, .slice Ab D.bl.length cb, .slice Ac D.ca.length cc, .slice Aq D.qu.length cq] #[.int .i64 0, .int .i64 0, .slice none 0 0, .slice none 0 0, .slice none 0 0] D.dep D.nxt vb (.slice none 0 0) (.slice none 0 0) (D.bl.take k) [] [] wr)) (fun _ i _ => D.bl.length - (intOf i).toNat)
  case atStart => exact ⟨0, _, Nat.zero_le _, rfl, CL0⟩
  case round =>
    obtain ⟨k, vb, hk, rfl, CL⟩ := hrel
    by_cases hlt : k < D.bl.length
    · obtain ⟨b, off, v, rfl, hbl, c0, hv⟩ := RB.out.cells CL.out.below hlt
      obtain ⟨l, hl⟩ : ∃ l, l = bAt D.bl k := ⟨_, rfl⟩
      have TS := hide (show D.bl.take (k + 1) = D.bl.take k ++ [l] by rw [hl]; exact bAt_snoc hlt)
      have hlen : l.length ≤ 1000 := by rw [hl]; exact HS.out.bb _ (bAt_mem hlt)
      rw [← hl] at hv
      obtain ⟨Av, cv, rfl⟩ := hv.form
      have C := hide (fun W (hb : Below wr.heap.size wr W) => clone_any _ l W (hv.below hb) hlen)
      unfold ByR at C
      have hTK : (D.bl.take k).length ≤ 1000 := by rw [List.length_take]; omega
      generalize D.bl.take k = M at *
      obtain ⟨Ao, co, rfl, _⟩ := CL.out.ob.form
      have x2 := CL.out.out.cell 2
      simp at x2
      have KZ := hide (Kz.refl wr (.slice Ao M.length co) (w.heap.size + 2)).drew
      obtain ⟨i0, hi0, hz0, hz1, hz2⟩ := info_parts info23
      replace CL := hide CL.out.drew
      clear hv hl
      go_wp2
      refine wp_region_noPanic ?_
      refine wp_region_held_drew (S := (fun _ => True)) (by kernel_rfl) ?_ (fun hHeld => ?_)
      · trivial
      refine wpAnyH_take (i := 0) (oi := ⟨some 22, _, _, _, _, _⟩) (v := ?_) rfl (by kernel_rfl) (by kernel_rfl) (by kernel_rfl) (fun _ _ _ h => h) (Or.inl ⟨by kernel_rfl, ?_⟩) (by assumption) ?_
      rotate_left 1
      · (intro w hSw; (try dsimp only at hSw); go_simp) <;> (with_reducible rfl)
      (try simp only [Act.put, List.setIfInBounds_toArray, List.set_cons_succ, List.set_cons_zero])
      refine wpAnyH_take (i := 2) (oi := ⟨some 24, _, _, _, _, _⟩) (v := ?_) rfl (by kernel_rfl) (by kernel_rfl) (by kernel_rfl) (fun _ _ _ h => h) (Or.inl ⟨by kernel_rfl, ?_⟩) (by assumption) ?_
      rotate_left 1
      · (intro w hSw; (try dsimp only at hSw); go_simp) <;> (with_reducible rfl)
      (try simp only [Act.put, List.setIfInBounds_toArray, List.set_cons_succ, List.set_cons_zero])
      refine wpAnyH_ready (rs := [1, 3]) (by kernel_rfl) (by simp) ?_
      refine AllReadyH.cons (o := ⟨some 23, _, _, _, _, _⟩) rfl (fun K' hK => ?_) ?_
      · go_simp
        refine hK.out _ _ ?_ (fun hHeld => ?_)
        · trivial
        clear hK K'
        (try simp only [Act.put, List.setIfInBounds_toArray, List.set_cons_succ, List.set_cons_zero])
        refine wpAnyH_ready (rs := [3]) (by kernel_rfl) (by simp) ?_
        refine AllReadyH.cons (o := ⟨some 25, _, _, _, _, _⟩) rfl (fun K' hK => ?_) AllReadyH.nil
        go_simp
        refine (C.out _ (below_drew (brefl _))).mono ?_
        rintro e w1 ⟨v1, rfl, ho, hb⟩
        obtain ⟨A1, d1, rfl⟩ := ho.form
        have HU := hide ho
        replace KZ := hide (KZ.out.below hb)
        replace CL := hide (CL.out.on hb)
        have y2 := CL.out.out.cell 2
        simp at y2
        clear ho hb
        refine hK.out _ _ ?_ (fun hHeld => ?_)
        · trivial
        clear hK K'
        (try simp only [Act.put, List.setIfInBounds_toArray, List.set_cons_succ, List.set_cons_zero])
        refine wpAnyH_ready (rs := [4]) (by kernel_rfl) (by simp) ?_
        refine AllReadyH.cons (o := ⟨some 26, _, _, _, _, _⟩) rfl (fun K' hK => ?_) AllReadyH.nil
        go_simp
        replace CL := hide (CL.out.alloc (.cells #[.slice A1 l.length d1] 23))
        replace KZ := hide (KZ.out.alloc (.cells #[.slice A1 l.length d1] 23))
        replace HU := hide (HU.out.below (bal (brefl _) (.cells #[.slice A1 l.length d1] 23)))
        have NW := hide (cell_row w1 #[.slice A1 l.length d1] 23)
        generalize w1.alloc (.cells #[.slice A1 l.length d1] 23) = w5 at *
        have y5 := CL.out.out.cell 2
        simp at y5
        refine hK.out _ _ ?_ (fun hHeld => ?_)
        · trivial
        clear hK K'
        (try simp only [Act.put, List.setIfInBounds_toArray, List.set_cons_succ, List.set_cons_zero])
        refine wpAnyH_ready (rs := [5]) (by kernel_rfl) (by simp) ?_
        refine AllReadyH.cons (o := ⟨some 27, _, _, _, _, _⟩) rfl (fun K' hK => ?_) AllReadyH.nil
        obtain ⟨R, hR, hrow, hro⟩ := CL.out.ob
        refine step_append_own rfl (.tmp 23) (.tmp 26) 53 rfl w.heap.size 23 i0 _ 1 24 Try.underlying53 hi0 hz0 hz1 hz2 rfl (by omega) (.slice Ao M.length co) (M.length) _ rfl hrow ⟨w1.heap.size, 0, none⟩ 1 1 [.slice A1 l.length d1] rfl rfl NW.out (by intro u hu; simp at hu; rcases hu with rfl <;> rfl) (by simp only [maxLen]; omega) (by omega) CL.out.below.size ?_
        intro v4 w4 hown4 hg4
        obtain ⟨A4, c4, rfl, _⟩ := row_form hown4
        have PU := hide (CL.out.pushB hos hor hwo hR hro hrow HU.out hown4 hg4)
        replace KZ := hide (KZ.out.grown hg4)
        have OB := hide (CL.out.gb (kp_grown hrow hg4 CL.out.below.size))
        have o2 := OB.out.cell 2
        have of2 := OB.out.frozen 2
        simp at o2
        clear hown4 hg4 hrow hro hR OB
        (try simp only [Act.put, List.setIfInBounds_toArray, List.set_cons_succ, List.set_cons_zero])
        refine hK.out _ _ ?_ (fun hHeld => ?_)
        · trivial
        clear hK K'
        (try simp only [Act.put, List.setIfInBounds_toArray, List.set_cons_succ, List.set_cons_zero])
        refine wpAnyH_take (i := 6) (oi := ⟨some 28, _, _, _, _, _⟩) (v := ?_) rfl (by kernel_rfl) (by kernel_rfl) (by kernel_rfl) (fun _ _ _ h => h) (Or.inl ⟨by kernel_rfl, ?_⟩) (by assumption) ?_
        rotate_left 1
        · (intro w hSw; (try dsimp only at hSw); go_simp) <;> (with_reducible rfl)
        (try simp only [Act.put, List.setIfInBounds_toArray, List.set_cons_succ, List.set_cons_zero])
        refine wpAnyH_ready (rs := [7]) (by kernel_rfl) (by simp) ?_
        refine AllReadyH.cons (o := ⟨none, _, _, _, _, _⟩) rfl (fun K' hK => ?_) AllReadyH.nil
        go_simp
        replace KZ := hide (KZ.out.set 2 (.slice A4 (M.length + 1) c4))
        refine hK.out _ _ ?_ (fun hHeld => ?_)
        · trivial
        clear hK K'
        (try simp only [Act.put, List.setIfInBounds_toArray, List.set_cons_succ, List.set_cons_zero])
        refine wpAnyH_done (by kernel_rfl) ?_ _
        refine NoPanic.normal ?_
        go_wp2
        go_roundw
        case rel => exact ⟨k + 1, _, by omega, by go_num, by rw [TS.out]; exact PU⟩
        case measure => simp [intOf]; omega
      refine AllReadyH.cons (o := ⟨some 25, _, _, _, _, _⟩) rfl (fun K' hK => ?_) AllReadyH.nil
      go_simp
      refine (C.out _ (below_drew (brefl _))).mono ?_
      rintro e w1 ⟨v1, rfl, ho, hb⟩
      obtain ⟨A1, d1, rfl⟩ := ho.form
      have HU := hide ho
      replace KZ := hide (KZ.out.below hb)
      replace CL := hide (CL.out.on hb)
      have y2 := CL.out.out.cell 2
      simp at y2
      clear ho hb
      refine hK.out _ _ ?_ (fun hHeld => ?_)
      · trivial
      clear hK K'
      (try simp only [Act.put, List.setIfInBounds_toArray, List.set_cons_succ, List.set_cons_zero])
      refine wpAnyH_ready (rs := [1, 4]) (by kernel_rfl) (by simp) ?_
      refine AllReadyH.cons (o := ⟨some 23, _, _, _, _, _⟩) rfl (fun K' hK => ?_) ?_
      · go_simp
        refine hK.out _ _ ?_ (fun hHeld => ?_)
        · trivial
        clear hK K'
        (try simp only [Act.put, List.setIfInBounds_toArray, List.set_cons_succ, List.set_cons_zero])
        refine wpAnyH_ready (rs := [4]) (by kernel_rfl) (by simp) ?_
        refine AllReadyH.cons (o := ⟨some 26, _, _, _, _, _⟩) rfl (fun K' hK => ?_) AllReadyH.nil
        go_simp
        replace CL := hide (CL.out.alloc (.cells #[.slice A1 l.length d1] 23))
        replace KZ := hide (KZ.out.alloc (.cells #[.slice A1 l.length d1] 23))
        replace HU := hide (HU.out.below (bal (brefl _) (.cells #[.slice A1 l.length d1] 23)))
        have NW := hide (cell_row w1 #[.slice A1 l.length d1] 23)
        generalize w1.alloc (.cells #[.slice A1 l.length d1] 23) = w5 at *
        have y5 := CL.out.out.cell 2
        simp at y5
        refine hK.out _ _ ?_ (fun hHeld => ?_)
        · trivial
        clear hK K'
        (try simp only [Act.put, List.setIfInBounds_toArray, List.set_cons_succ, List.set_cons_zero])
        refine wpAnyH_ready (rs := [5]) (by kernel_rfl) (by simp) ?_
        refine AllReadyH.cons (o := ⟨some 27, _, _, _, _, _⟩) rfl (fun K' hK => ?_) AllReadyH.nil
        obtain ⟨R, hR, hrow, hro⟩ := CL.out.ob
        refine step_append_own rfl (.tmp 23) (.tmp 26) 53 rfl w.heap.size 23 i0 _ 1 24 Try.underlying53 hi0 hz0 hz1 hz2 rfl (by omega) (.slice Ao M.length co) (M.length) _ rfl hrow ⟨w1.heap.size, 0, none⟩ 1 1 [.slice A1 l.length d1] rfl rfl NW.out (by intro u hu; simp at hu; rcases hu with rfl <;> rfl) (by simp only [maxLen]; omega) (by omega) CL.out.below.size ?_
        intro v4 w4 hown4 hg4
        obtain ⟨A4, c4, rfl, _⟩ := row_form hown4
        have PU := hide (CL.out.pushB hos hor hwo hR hro hrow HU.out hown4 hg4)
        replace KZ := hide (KZ.out.grown hg4)
        have OB := hide (CL.out.gb (kp_grown hrow hg4 CL.out.below.size))
        have o2 := OB.out.cell 2
        have of2 := OB.out.frozen 2
        simp at o2
        clear hown4 hg4 hrow hro hR OB
        (try simp only [Act.put, List.setIfInBounds_toArray, List.set_cons_succ, List.set_cons_zero])
        refine hK.out _ _ ?_ (fun hHeld => ?_)
        · trivial
        clear hK K'
        (try simp only [Act.put, List.setIfInBounds_toArray, List.set_cons_succ, List.set_cons_zero])
        refine wpAnyH_take (i := 6) (oi := ⟨some 28, _, _, _, _, _⟩) (v := ?_) rfl (by kernel_rfl) (by kernel_rfl) (by kernel_rfl) (fun _ _ _ h => h) (Or.inl ⟨by kernel_rfl, ?_⟩) (by assumption) ?_
        rotate_left 1
        · (intro w hSw; (try dsimp only at hSw); go_simp) <;> (with_reducible rfl)
        (try simp only [Act.put, List.setIfInBounds_toArray, List.set_cons_succ, List.set_cons_zero])
        refine wpAnyH_ready (rs := [7]) (by kernel_rfl) (by simp) ?_
        refine AllReadyH.cons (o := ⟨none, _, _, _, _, _⟩) rfl (fun K' hK => ?_) AllReadyH.nil
        go_simp
        replace KZ := hide (KZ.out.set 2 (.slice A4 (M.length + 1) c4))
        refine hK.out _ _ ?_ (fun hHeld => ?_)
        · trivial
        clear hK K'
        (try simp only [Act.put, List.setIfInBounds_toArray, List.set_cons_succ, List.set_cons_zero])
        refine wpAnyH_done (by kernel_rfl) ?_ _
        refine NoPanic.normal ?_
        go_wp2
        go_roundw
        case rel => exact ⟨k + 1, _, by omega, by go_num, by rw [TS.out]; exact PU⟩
        case measure => simp [intOf]; omega
      refine AllReadyH.cons (o := ⟨some 26, _, _, _, _, _⟩) rfl (fun K' hK => ?_) AllReadyH.nil
      go_simp
      replace CL := hide (CL.out.alloc (.cells #[.slice A1 l.length d1] 23))
      replace KZ := hide (KZ.out.alloc (.cells #[.slice A1 l.length d1] 23))
      replace HU := hide (HU.out.below (bal (brefl _) (.cells #[.slice A1 l.length d1] 23)))
      have NW := hide (cell_row w1 #[.slice A1 l.length d1] 23)
      generalize w1.alloc (.cells #[.slice A1 l.length d1] 23) = w5 at *
      have y5 := CL.out.out.cell 2
      simp at y5
      refine hK.out _ _ ?_ (fun hHeld => ?_)
      · trivial
      clear hK K'
      (try simp only [Act.put, List.setIfInBounds_toArray, List.set_cons_succ, List.set_cons_zero])
      refine wpAnyH_ready (rs := [1]) (by kernel_rfl) (by simp) ?_
      refine AllReadyH.cons (o := ⟨some 23, _, _, _, _, _⟩) rfl (fun K' hK => ?_) AllReadyH.nil
      go_simp
      refine hK.out _ _ ?_ (fun hHeld => ?_)
      · trivial
      clear hK K'
      (try simp only [Act.put, List.setIfInBounds_toArray, List.set_cons_succ, List.set_cons_zero])
      refine wpAnyH_ready (rs := [5]) (by kernel_rfl) (by simp) ?_
      refine AllReadyH.cons (o := ⟨some 27, _, _, _, _, _⟩) rfl (fun K' hK => ?_) AllReadyH.nil
      obtain ⟨R, hR, hrow, hro⟩ := CL.out.ob
      refine step_append_own rfl (.tmp 23) (.tmp 26) 53 rfl w.heap.size 23 i0 _ 1 24 Try.underlying53 hi0 hz0 hz1 hz2 rfl (by omega) (.slice Ao M.length co) (M.length) _ rfl hrow ⟨w1.heap.size, 0, none⟩ 1 1 [.slice A1 l.length d1] rfl rfl NW.out (by intro u hu; simp at hu; rcases hu with rfl <;> rfl) (by simp only [maxLen]; omega) (by omega) CL.out.below.size ?_
      intro v4 w4 hown4 hg4
      obtain ⟨A4, c4, rfl, _⟩ := row_form hown4
      have PU := hide (CL.out.pushB hos hor hwo hR hro hrow HU.out hown4 hg4)
      replace KZ := hide (KZ.out.grown hg4)
      have OB := hide (CL.out.gb (kp_grown hrow hg4 CL.out.below.size))
      have o2 := OB.out.cell 2
      have of2 := OB.out.frozen 2
      simp at o2
      clear hown4 hg4 hrow hro hR OB
      (try simp only [Act.put, List.setIfInBounds_toArray, List.set_cons_succ, List.set_cons_zero])
      refine hK.out _ _ ?_ (fun hHeld => ?_)
      · trivial
      clear hK K'
      (try simp only [Act.put, List.setIfInBounds_toArray, List.set_cons_succ, List.set_cons_zero])
      refine wpAnyH_take (i := 6) (oi := ⟨some 28, _, _, _, _, _⟩) (v := ?_) rfl (by kernel_rfl) (by kernel_rfl) (by kernel_rfl) (fun _ _ _ h => h) (Or.inl ⟨by kernel_rfl, ?_⟩) (by assumption) ?_
      rotate_left 1
      · (intro w hSw; (try dsimp only at hSw); go_simp) <;> (with_reducible rfl)
      (try simp only [Act.put, List.setIfInBounds_toArray, List.set_cons_succ, List.set_cons_zero])
      refine wpAnyH_ready (rs := [7]) (by kernel_rfl) (by simp) ?_
      refine AllReadyH.cons (o := ⟨none, _, _, _, _, _⟩) rfl (fun K' hK => ?_) AllReadyH.nil
      go_simp
      replace KZ := hide (KZ.out.set 2 (.slice A4 (M.length + 1) c4))
      refine hK.out _ _ ?_ (fun hHeld => ?_)
      · trivial
      clear hK K'
      (try simp only [Act.put, List.setIfInBounds_toArray, List.set_cons_succ, List.set_cons_zero])
      refine wpAnyH_done (by kernel_rfl) ?_ _
      refine NoPanic.normal ?_
      go_wp2
      go_roundw
      case rel => exact ⟨k + 1, _, by omega, by go_num, by rw [TS.out]; exact PU⟩
      case measure => simp [intOf]; omega
    · obtain rfl : k = D.bl.length := by omega
      have CL1 := hide (show Cl w w.heap.size (w.heap.size + 1) (w.heap.size + 2) #[.int .i64 D.dep, .int .i64 D.nxt, .slice Ab D.bl.length cb, .slice Ac D.ca.length cc, .slice Aq D.qu.length cq] #[.int .i64 0, .int .i64 0, .slice none 0 0, .slice none 0 0, .slice none 0 0] D.dep D.nxt vb (.slice none 0 0) (.slice none 0 0) D.bl [] [] wr by have := CL.out; rw [List.take_length] at this; exact this)
      have x3 := CL1.out.src.cell 3
      simp at x3
      clear CL CL0
      go_wp2
      clear x3
      go_loopw [7, 33] (fun _ i wr => ∃ (k : Nat) (vc : Value), k ≤ D.ca.length ∧ i = .int .i64 k ∧ Hid (Cl w w.heap.size (w.heap.size + 1) (w.heap.size + 2) #[.int .i64 D.dep, .int .i64 D.nxt, .slice Ab D.bl.length cb, .slice Ac D.ca.length cc, .slice Aq D.qu.length cq] #[.int .i64 0, .int .i64 0, .slice none 0 0, .slice none 0 0, .slice none 0 0] D.dep D.nxt vb vc (.slice none 0 0) D.bl (D.ca.take k) [] wr)) (fun _ i _ => D.ca.length - (intOf i).toNat)
      case atStart => exact ⟨0, _, Nat.zero_le _, rfl, CL1⟩
      case round =>
        clear CL1
        rename_i wrb _ _ _ _ _
        obtain ⟨k, vc, hk, rfl, CL⟩ := hrel
        by_cases hlt : k < D.ca.length
        · obtain ⟨b, off, v, rfl, hbl, c0, c1, hv⟩ := RC.out.cells CL.out.below hlt
          obtain ⟨⟨z, l⟩, hl⟩ : ∃ l, l = cAt D.ca k := ⟨_, rfl⟩
          have TS := hide (show D.ca.take (k + 1) = D.ca.take k ++ [(z, l)] by rw [hl]; exact cAt_snoc hlt)
          have hlen : l.length ≤ 1000 := by have := HS.out.cb _ (cAt_mem hlt); rw [← hl] at this; exact this
          rw [← hl] at hv c0
          simp only at hv c0
          obtain ⟨Av, cv, rfl⟩ := hv.form
          have hTK : (D.ca.take k).length ≤ 1000 := by rw [List.length_take]; omega
          generalize D.ca.take k = M at *
          obtain ⟨Ao, co, rfl, _⟩ := CL.out.oc.form
          have hown := CL.out.oc.choose_spec.2.1
          have BX := hide (Box.new wr 89 #[.int .i64 z, .slice Av l.length cv])
          have NE := hide (row_own_lt hown (Nat.le_refl _))
          have NO := hide (show wr.heap.size ≠ w.heap.size + 2 by have := CL.out.out.lt; omega)
          have HVA := hide (hv.below (bal (brefl wr) (.cells #[.int .i64 z, .slice Av l.length cv] 89)))
          replace CL := hide (CL.out.alloc (.cells #[.int .i64 z, .slice Av l.length cv] 89))
          clear hown hv hl
          obtain ⟨i0, hi0, hz0, hz1, hz2⟩ := info_parts info89
          go_wp2
          have hlw : wr.heap.size < (wr.alloc (.cells #[.int .i64 z, .slice Av l.length cv] 89)).heap.size := BX.out.lt
          have HLW := hide hlw
          obtain ⟨nb, hnb⟩ : ∃ nb, nb = wr.heap.size := ⟨_, rfl⟩
          rw [← hnb] at BX NE NO HLW ⊢
          clear hlw
          generalize wr.alloc (.cells #[.int .i64 z, .slice Av l.length cv] 89) = wz at *
          have C := hide (fun W (hb : Below wz.heap.size wz W) => clone_any _ l W (HVA.out.below hb) hlen)
          unfold ByR at C
          have x2 := CL.out.out.cell 3
          simp at x2
          have KZ := hide (Kz.refl wz (.slice Ao M.length co) (w.heap.size + 2)).drew
          have CE := hide (fun (W : World) (h : Kz wz (.slice Ao M.length co) (w.heap.size + 2) W) => (⟨h.cell (BX.out.cell 0) HLW.out NO.out NE.out, h.cell (BX.out.cell 1) HLW.out NO.out NE.out⟩ : W.cell? ⟨nb, 0, none⟩ = some (.int .i64 z) ∧ W.cell? ⟨nb, 1, none⟩ = some (.slice Av l.length cv)))
          replace CL := hide CL.out.drew
          clear hnb
          refine wp_region_noPanic ?_
          refine wp_region_held_drew (S := (fun W => W.cell? ⟨nb, 0, none⟩ = some (.int .i64 z) ∧ W.cell? ⟨nb, 1, none⟩ = some (.slice Av l.length cv))) (by kernel_rfl) ?_ (fun hHeld => ?_)
          · exact CE.out _ KZ.out
          refine wpAnyH_take (i := 0) (oi := ⟨some 37, _, _, _, _, _⟩) (v := ?_) rfl (by kernel_rfl) (by kernel_rfl) (by kernel_rfl) (fun _ _ _ h => h) (Or.inl ⟨by kernel_rfl, ?_⟩) (by assumption) ?_
          rotate_left 1
          · (intro w hSw; (try dsimp only at hSw); go_simp) <;> (with_reducible rfl)
          (try simp only [Act.put, List.setIfInBounds_toArray, List.set_cons_succ, List.set_cons_zero])
          refine wpAnyH_take (i := 2) (oi := ⟨some 39, _, _, _, _, _⟩) (v := ?_) rfl (by kernel_rfl) (by kernel_rfl) (by kernel_rfl) (fun _ _ _ h => h) (Or.inl ⟨by kernel_rfl, ?_⟩) (by assumption) ?_
          rotate_left 1
          · (intro w hSw; (try dsimp only at hSw); go_simp) <;> (with_reducible rfl)
          (try simp only [Act.put, List.setIfInBounds_toArray, List.set_cons_succ, List.set_cons_zero])
          refine wpAnyH_take (i := 3) (oi := ⟨some 40, _, _, _, _, _⟩) (v := ?_) rfl (by kernel_rfl) (by kernel_rfl) (by kernel_rfl) (fun _ _ _ h => h) (Or.inl ⟨by kernel_rfl, ?_⟩) (by assumption) ?_
          rotate_left 1
          · (intro w hSw; (try dsimp only at hSw); go_simp) <;> (with_reducible rfl)
          (try simp only [Act.put, List.setIfInBounds_toArray, List.set_cons_succ, List.set_cons_zero])
          refine wpAnyH_take (i := 4) (oi := ⟨some 41, _, _, _, _, _⟩) (v := ?_) rfl (by kernel_rfl) (by kernel_rfl) (by kernel_rfl) (fun _ _ _ h => h) (Or.inl ⟨by kernel_rfl, ?_⟩) (by assumption) ?_
          rotate_left 1
          · (intro w hSw; (try dsimp only at hSw); go_simp) <;> (with_reducible rfl)
          (try simp only [Act.put, List.setIfInBounds_toArray, List.set_cons_succ, List.set_cons_zero])
          refine wpAnyH_take (i := 5) (oi := ⟨some 42, _, _, _, _, _⟩) (v := ?_) rfl (by kernel_rfl) (by kernel_rfl) (by kernel_rfl) (fun _ _ _ h => h) (Or.inl ⟨by kernel_rfl, ?_⟩) (by assumption) ?_
          rotate_left 1
          · (intro w hSw; (try dsimp only at hSw); go_simp) <;> (with_reducible rfl)
          (try simp only [Act.put, List.setIfInBounds_toArray, List.set_cons_succ, List.set_cons_zero])
          refine wpAnyH_ready (rs := [1, 6]) (by kernel_rfl) (by simp) ?_
          refine AllReadyH.cons (o := ⟨some 38, _, _, _, _, _⟩) rfl (fun K' hK => ?_) ?_
          · go_simp
            refine hK.out _ _ ?_ (fun hHeld => ?_)
            · exact CE.out _ KZ.out
            clear hK K'
            (try simp only [Act.put, List.setIfInBounds_toArray, List.set_cons_succ, List.set_cons_zero])
            refine wpAnyH_ready (rs := [6]) (by kernel_rfl) (by simp) ?_
            refine AllReadyH.cons (o := ⟨some 43, _, _, _, _, _⟩) rfl (fun K' hK => ?_) AllReadyH.nil
            go_simp
            refine (C.out _ (below_drew (brefl _))).mono ?_
            rintro e w1 ⟨v1, rfl, ho, hb⟩
            obtain ⟨A1, d1, rfl⟩ := ho.form
            have HU := hide ho
            replace KZ := hide (KZ.out.below hb)
            replace CL := hide (CL.out.on hb)
            have y2 := CL.out.out.cell 3
            simp at y2
            clear ho hb
            refine hK.out _ _ ?_ (fun hHeld => ?_)
            · exact CE.out _ KZ.out
            clear hK K'
            (try simp only [Act.put, List.setIfInBounds_toArray, List.set_cons_succ, List.set_cons_zero])
            refine wpAnyH_take (i := 7) (oi := ⟨some 44, _, _, _, _, _⟩) (v := ?_) rfl (by kernel_rfl) (by kernel_rfl) (by kernel_rfl) (fun _ _ _ h => h) (Or.inl ⟨by kernel_rfl, ?_⟩) (by assumption) ?_
            rotate_left 1
            · (intro w hSw; (try dsimp only at hSw); go_simp) <;> (with_reducible rfl)
            (try simp only [Act.put, List.setIfInBounds_toArray, List.set_cons_succ, List.set_cons_zero])
            refine wpAnyH_ready (rs := [8]) (by kernel_rfl) (by simp) ?_
            refine AllReadyH.cons (o := ⟨some 45, _, _, _, _, _⟩) rfl (fun K' hK => ?_) AllReadyH.nil
            go_simp
            replace CL := hide (CL.out.alloc (.cells #[.int .i64 z, .slice A1 l.length d1] 89))
            replace KZ := hide (KZ.out.alloc (.cells #[.int .i64 z, .slice A1 l.length d1] 89))
            replace HU := hide (HU.out.below (bal (brefl _) (.cells #[.int .i64 z, .slice A1 l.length d1] 89)))
            have NW := hide (cell_row w1 #[.int .i64 z, .slice A1 l.length d1] 89)
            generalize w1.alloc (.cells #[.int .i64 z, .slice A1 l.length d1] 89) = w5 at *
            have y5 := CL.out.out.cell 3
            simp at y5
            refine hK.out _ _ ?_ (fun hHeld => ?_)
            · exact CE.out _ KZ.out
            clear hK K'
            (try simp only [Act.put, List.setIfInBounds_toArray, List.set_cons_succ, List.set_cons_zero])
            refine wpAnyH_ready (rs := [9]) (by kernel_rfl) (by simp) ?_
            refine AllReadyH.cons (o := ⟨some 46, _, _, _, _, _⟩) rfl (fun K' hK => ?_) AllReadyH.nil
            obtain ⟨R, hR, hrow, hro⟩ := CL.out.oc
            refine step_append_own rfl (.tmp 38) (.tmp 45) 54 rfl w.heap.size 89 i0 _ 2 32 Try.underlying54 hi0 hz0 hz1 hz2 rfl (by omega) (.slice Ao M.length co) (M.length) _ rfl hrow ⟨w1.heap.size, 0, none⟩ 1 1 [.int .i64 z, .slice A1 l.length d1] rfl rfl NW.out (by intro u hu; simp at hu; rcases hu with rfl | rfl <;> rfl) (by simp only [maxLen]; omega) (by omega) CL.out.below.size ?_
            intro v4 w4 hown4 hg4
            obtain ⟨A4, c4, rfl, _⟩ := row_form hown4
            have PU := hide (CL.out.pushC hos hor hwo hR hro hrow HU.out hown4 hg4)
            replace KZ := hide (KZ.out.grown hg4)
            have OB := hide (CL.out.gc (kp_grown hrow hg4 CL.out.below.size))
            have o2 := OB.out.cell 3
            have of2 := OB.out.frozen 3
            simp at o2
            clear hown4 hg4 hrow hro hR OB
            (try simp only [Act.put, List.setIfInBounds_toArray, List.set_cons_succ, List.set_cons_zero])
            refine hK.out _ _ ?_ (fun hHeld => ?_)
            · exact CE.out _ KZ.out
            clear hK K'
            (try simp only [Act.put, List.setIfInBounds_toArray, List.set_cons_succ, List.set_cons_zero])
            refine wpAnyH_take (i := 10) (oi := ⟨some 47, _, _, _, _, _⟩) (v := ?_) rfl (by kernel_rfl) (by kernel_rfl) (by kernel_rfl) (fun _ _ _ h => h) (Or.inl ⟨by kernel_rfl, ?_⟩) (by assumption) ?_
            rotate_left 1
            · (intro w hSw; (try dsimp only at hSw); go_simp) <;> (with_reducible rfl)
            (try simp only [Act.put, List.setIfInBounds_toArray, List.set_cons_succ, List.set_cons_zero])
            refine wpAnyH_ready (rs := [11]) (by kernel_rfl) (by simp) ?_
            refine AllReadyH.cons (o := ⟨none, _, _, _, _, _⟩) rfl (fun K' hK => ?_) AllReadyH.nil
            go_simp
            replace KZ := hide (KZ.out.set 3 (.slice A4 (M.length + 1) c4))
            refine hK.out _ _ ?_ (fun hHeld => ?_)
            · exact CE.out _ KZ.out
            clear hK K'
            (try simp only [Act.put, List.setIfInBounds_toArray, List.set_cons_succ, List.set_cons_zero])
            refine wpAnyH_done (by kernel_rfl) ?_ _
            refine NoPanic.normal ?_
            go_wp2
            go_roundw
            case rel => exact ⟨k + 1, _, by omega, by go_num, by rw [TS.out]; exact PU⟩
            case measure => simp [intOf]; omega
          refine AllReadyH.cons (o := ⟨some 43, _, _, _, _, _⟩) rfl (fun K' hK => ?_) AllReadyH.nil
          go_simp
          refine (C.out _ (below_drew (brefl _))).mono ?_
          rintro e w1 ⟨v1, rfl, ho, hb⟩
          obtain ⟨A1, d1, rfl⟩ := ho.form
          have HU := hide ho
          replace KZ := hide (KZ.out.below hb)
          replace CL := hide (CL.out.on hb)
          have y2 := CL.out.out.cell 3
          simp at y2
          clear ho hb
          refine hK.out _ _ ?_ (fun hHeld => ?_)
          · exact CE.out _ KZ.out
          clear hK K'
          (try simp only [Act.put, List.setIfInBounds_toArray, List.set_cons_succ, List.set_cons_zero])
          refine wpAnyH_take (i := 7) (oi := ⟨some 44, _, _, _, _, _⟩) (v := ?_) rfl (by kernel_rfl) (by kernel_rfl) (by kernel_rfl) (fun _ _ _ h => h) (Or.inl ⟨by kernel_rfl, ?_⟩) (by assumption) ?_
          rotate_left 1
          · (intro w hSw; (try dsimp only at hSw); go_simp) <;> (with_reducible rfl)
          (try simp only [Act.put, List.setIfInBounds_toArray, List.set_cons_succ, List.set_cons_zero])
          refine wpAnyH_ready (rs := [1, 8]) (by kernel_rfl) (by simp) ?_
          refine AllReadyH.cons (o := ⟨some 38, _, _, _, _, _⟩) rfl (fun K' hK => ?_) ?_
          · go_simp
            refine hK.out _ _ ?_ (fun hHeld => ?_)
            · exact CE.out _ KZ.out
            clear hK K'
            (try simp only [Act.put, List.setIfInBounds_toArray, List.set_cons_succ, List.set_cons_zero])
            refine wpAnyH_ready (rs := [8]) (by kernel_rfl) (by simp) ?_
            refine AllReadyH.cons (o := ⟨some 45, _, _, _, _, _⟩) rfl (fun K' hK => ?_) AllReadyH.nil
            go_simp
            replace CL := hide (CL.out.alloc (.cells #[.int .i64 z, .slice A1 l.length d1] 89))
            replace KZ := hide (KZ.out.alloc (.cells #[.int .i64 z, .slice A1 l.length d1] 89))
            replace HU := hide (HU.out.below (bal (brefl _) (.cells #[.int .i64 z, .slice A1 l.length d1] 89)))
            have NW := hide (cell_row w1 #[.int .i64 z, .slice A1 l.length d1] 89)
            generalize w1.alloc (.cells #[.int .i64 z, .slice A1 l.length d1] 89) = w5 at *
            have y5 := CL.out.out.cell 3
            simp at y5
            refine hK.out _ _ ?_ (fun hHeld => ?_)
            · exact CE.out _ KZ.out
            clear hK K'
            (try simp only [Act.put, List.setIfInBounds_toArray, List.set_cons_succ, List.set_cons_zero])
            refine wpAnyH_ready (rs := [9]) (by kernel_rfl) (by simp) ?_
            refine AllReadyH.cons (o := ⟨some 46, _, _, _, _, _⟩) rfl (fun K' hK => ?_) AllReadyH.nil
            obtain ⟨R, hR, hrow, hro⟩ := CL.out.oc
            refine step_append_own rfl (.tmp 38) (.tmp 45) 54 rfl w.heap.size 89 i0 _ 2 32 Try.underlying54 hi0 hz0 hz1 hz2 rfl (by omega) (.slice Ao M.length co) (M.length) _ rfl hrow ⟨w1.heap.size, 0, none⟩ 1 1 [.int .i64 z, .slice A1 l.length d1] rfl rfl NW.out (by intro u hu; simp at hu; rcases hu with rfl | rfl <;> rfl) (by simp only [maxLen]; omega) (by omega) CL.out.below.size ?_
            intro v4 w4 hown4 hg4
            obtain ⟨A4, c4, rfl, _⟩ := row_form hown4
            have PU := hide (CL.out.pushC hos hor hwo hR hro hrow HU.out hown4 hg4)
            replace KZ := hide (KZ.out.grown hg4)
            have OB := hide (CL.out.gc (kp_grown hrow hg4 CL.out.below.size))
            have o2 := OB.out.cell 3
            have of2 := OB.out.frozen 3
            simp at o2
            clear hown4 hg4 hrow hro hR OB
            (try simp only [Act.put, List.setIfInBounds_toArray, List.set_cons_succ, List.set_cons_zero])
            refine hK.out _ _ ?_ (fun hHeld => ?_)
            · exact CE.out _ KZ.out
            clear hK K'
            (try simp only [Act.put, List.setIfInBounds_toArray, List.set_cons_succ, List.set_cons_zero])
            refine wpAnyH_take (i := 10) (oi := ⟨some 47, _, _, _, _, _⟩) (v := ?_) rfl (by kernel_rfl) (by kernel_rfl) (by kernel_rfl) (fun _ _ _ h => h) (Or.inl ⟨by kernel_rfl, ?_⟩) (by assumption) ?_
            rotate_left 1
            · (intro w hSw; (try dsimp only at hSw); go_simp) <;> (with_reducible rfl)
            (try simp only [Act.put, List.setIfInBounds_toArray, List.set_cons_succ, List.set_cons_zero])
            refine wpAnyH_ready (rs := [11]) (by kernel_rfl) (by simp) ?_
            refine AllReadyH.cons (o := ⟨none, _, _, _, _, _⟩) rfl (fun K' hK => ?_) AllReadyH.nil
            go_simp
            replace KZ := hide (KZ.out.set 3 (.slice A4 (M.length + 1) c4))
            refine hK.out _ _ ?_ (fun hHeld => ?_)
            · exact CE.out _ KZ.out
            clear hK K'
            (try simp only [Act.put, List.setIfInBounds_toArray, List.set_cons_succ, List.set_cons_zero])
            refine wpAnyH_done (by kernel_rfl) ?_ _
            refine NoPanic.normal ?_
            go_wp2
            go_roundw
            case rel => exact ⟨k + 1, _, by omega, by go_num, by rw [TS.out]; exact PU⟩
            case measure => simp [intOf]; omega
          refine AllReadyH.cons (o := ⟨some 45, _, _, _, _, _⟩) rfl (fun K' hK => ?_) AllReadyH.nil
          go_simp
          replace CL := hide (CL.out.alloc (.cells #[.int .i64 z, .slice A1 l.length d1] 89))
          replace KZ := hide (KZ.out.alloc (.cells #[.int .i64 z, .slice A1 l.length d1] 89))
          replace HU := hide (HU.out.below (bal (brefl _) (.cells #[.int .i64 z, .slice A1 l.length d1] 89)))
          have NW := hide (cell_row w1 #[.int .i64 z, .slice A1 l.length d1] 89)
          generalize w1.alloc (.cells #[.int .i64 z, .slice A1 l.length d1] 89) = w5 at *
          have y5 := CL.out.out.cell 3
          simp at y5
          refine hK.out _ _ ?_ (fun hHeld => ?_)
          · exact CE.out _ KZ.out
          clear hK K'
          (try simp only [Act.put, List.setIfInBounds_toArray, List.set_cons_succ, List.set_cons_zero])
          refine wpAnyH_ready (rs := [1]) (by kernel_rfl) (by simp) ?_
          refine AllReadyH.cons (o := ⟨some 38, _, _, _, _, _⟩) rfl (fun K' hK => ?_) AllReadyH.nil
          go_simp
          refine hK.out _ _ ?_ (fun hHeld => ?_)
          · exact CE.out _ KZ.out
          clear hK K'
          (try simp only [Act.put, List.setIfInBounds_toArray, List.set_cons_succ, List.set_cons_zero])
          refine wpAnyH_ready (rs := [9]) (by kernel_rfl) (by simp) ?_
          refine AllReadyH.cons (o := ⟨some 46, _, _, _, _, _⟩) rfl (fun K' hK => ?_) AllReadyH.nil
          obtain ⟨R, hR, hrow, hro⟩ := CL.out.oc
          refine step_append_own rfl (.tmp 38) (.tmp 45) 54 rfl w.heap.size 89 i0 _ 2 32 Try.underlying54 hi0 hz0 hz1 hz2 rfl (by omega) (.slice Ao M.length co) (M.length) _ rfl hrow ⟨w1.heap.size, 0, none⟩ 1 1 [.int .i64 z, .slice A1 l.length d1] rfl rfl NW.out (by intro u hu; simp at hu; rcases hu with rfl | rfl <;> rfl) (by simp only [maxLen]; omega) (by omega) CL.out.below.size ?_
          intro v4 w4 hown4 hg4
          obtain ⟨A4, c4, rfl, _⟩ := row_form hown4
          have PU := hide (CL.out.pushC hos hor hwo hR hro hrow HU.out hown4 hg4)
          replace KZ := hide (KZ.out.grown hg4)
          have OB := hide (CL.out.gc (kp_grown hrow hg4 CL.out.below.size))
          have o2 := OB.out.cell 3
          have of2 := OB.out.frozen 3
          simp at o2
          clear hown4 hg4 hrow hro hR OB
          (try simp only [Act.put, List.setIfInBounds_toArray, List.set_cons_succ, List.set_cons_zero])
          refine hK.out _ _ ?_ (fun hHeld => ?_)
          · exact CE.out _ KZ.out
          clear hK K'
          (try simp only [Act.put, List.setIfInBounds_toArray, List.set_cons_succ, List.set_cons_zero])
          refine wpAnyH_take (i := 10) (oi := ⟨some 47, _, _, _, _, _⟩) (v := ?_) rfl (by kernel_rfl) (by kernel_rfl) (by kernel_rfl) (fun _ _ _ h => h) (Or.inl ⟨by kernel_rfl, ?_⟩) (by assumption) ?_
          rotate_left 1
          · (intro w hSw; (try dsimp only at hSw); go_simp) <;> (with_reducible rfl)
          (try simp only [Act.put, List.setIfInBounds_toArray, List.set_cons_succ, List.set_cons_zero])
          refine wpAnyH_ready (rs := [11]) (by kernel_rfl) (by simp) ?_
          refine AllReadyH.cons (o := ⟨none, _, _, _, _, _⟩) rfl (fun K' hK => ?_) AllReadyH.nil
          go_simp
          replace KZ := hide (KZ.out.set 3 (.slice A4 (M.length + 1) c4))
          refine hK.out _ _ ?_ (fun hHeld => ?_)
          · exact CE.out _ KZ.out
          clear hK K'
          (try simp only [Act.put, List.setIfInBounds_toArray, List.set_cons_succ, List.set_cons_zero])
          refine wpAnyH_done (by kernel_rfl) ?_ _
          refine NoPanic.normal ?_
          go_wp2
          go_roundw
          case rel => exact ⟨k + 1, _, by omega, by go_num, by rw [TS.out]; exact PU⟩
          case measure => simp [intOf]; omega
        · obtain rfl : k = D.ca.length := by omega
          have CL1 := hide (show Cl w w.heap.size (w.heap.size + 1) (w.heap.size + 2) #[.int .i64 D.dep, .int .i64 D.nxt, .slice Ab D.bl.length cb, .slice Ac D.ca.length cc, .slice Aq D.qu.length cq] #[.int .i64 0, .int .i64 0, .slice none 0 0, .slice none 0 0, .slice none 0 0] D.dep D.nxt vb vc (.slice none 0 0) D.bl D.ca [] wr by have := CL.out; rw [List.take_length] at this; exact this)
          have x4 := CL1.out.src.cell 4
          simp at x4
          clear CL
          go_wp2
          clear x4
          go_loopw [9, 52] (fun _ i wr => ∃ (k : Nat) (vq : Value), k ≤ D.qu.length ∧ i = .int .i64 k ∧ Hid (Cl w w.heap.size (w.heap.size + 1) (w.heap.size + 2) #[.int .i64 D.dep, .int .i64 D.nxt, .slice Ab D.bl.length cb, .slice Ac D.ca.length cc, .slice Aq D.qu.length cq] #[.int .i64 0, .int .i64 0, .slice none 0 0, .slice none 0 0, .slice none 0 0] D.dep D.nxt vb vc vq D.bl D.ca (D.qu.take k) wr)) (fun _ i _ => D.qu.length - (intOf i).toNat)
          case atStart => exact ⟨0, _, Nat.zero_le _, rfl, CL1⟩
          case round =>
            clear CL1
            obtain ⟨k, vq, hk, rfl, CL⟩ := hrel
            by_cases hlt : k < D.qu.length
            · obtain ⟨b, off, v, rfl, hbl, c0, c1, c2, c3, hv⟩ := RQ.out.cells CL.out.below hlt
              obtain ⟨⟨z0, z1, z2, l⟩, hl⟩ : ∃ l, l = qAt D.qu k := ⟨_, rfl⟩
              have TS := hide (show D.qu.take (k + 1) = D.qu.take k ++ [(z0, z1, z2, l)] by rw [hl]; exact qAt_snoc hlt)
              have hlen : l.length ≤ 1000 := by have := HS.out.qb _ (qAt_mem hlt); rw [← hl] at this; exact this
              rw [← hl] at hv c0 c1 c2
              simp only at hv c0 c1 c2
              obtain ⟨Av, cv, rfl⟩ := hv.form
              have hTK : (D.qu.take k).length ≤ 1000 := by rw [List.length_take]; omega
              generalize D.qu.take k = M at *
              obtain ⟨Ao, co, rfl, _⟩ := CL.out.oq.form
              have hown := CL.out.oq.choose_spec.2.1
              have BX := hide (Box.new wr 67 #[.int .i64 z0, .int .i64 z1, .int .i64 z2, .slice Av l.length cv])
              have NE := hide (row_own_lt hown (Nat.le_refl _))
              have NO := hide (show wr.heap.size ≠ w.heap.size + 2 by have := CL.out.out.lt; omega)
              have HVA := hide (hv.below (bal (brefl wr) (.cells #[.int .i64 z0, .int .i64 z1, .int .i64 z2, .slice Av l.length cv] 67)))
              replace CL := hide (CL.out.alloc (.cells #[.int .i64 z0, .int .i64 z1, .int .i64 z2, .slice Av l.length cv] 67))
              clear hown hv hl
              obtain ⟨i0, hi0, hz0, hz1, hz2⟩ := info_parts info67
              go_wp2
              have hlw : wr.heap.size < (wr.alloc (.cells #[.int .i64 z0, .int .i64 z1, .int .i64 z2, .slice Av l.length cv] 67)).heap.size := BX.out.lt
              have HLW := hide hlw
              obtain ⟨nb, hnb⟩ : ∃ nb, nb = wr.heap.size := ⟨_, rfl⟩
              rw [← hnb] at BX NE NO HLW ⊢
              clear hlw
              generalize wr.alloc (.cells #[.int .i64 z0, .int .i64 z1, .int .i64 z2, .slice Av l.length cv] 67) = wz at *
              have C := hide (fun W (hb : Below wz.heap.size wz W) => copyrq_any z0 z1 z2 _ l W (HVA.out.below hb) hlen)
              unfold RqR at C
              have x2 := CL.out.out.cell 4
              simp at x2
              have KZ := hide (Kz.refl wz (.slice Ao M.length co) (w.heap.size + 2)).drew
              have CE := hide (fun (W : World) (h : Kz wz (.slice Ao M.length co) (w.heap.size + 2) W) => (⟨h.cell (BX.out.cell 0) HLW.out NO.out NE.out, h.cell (BX.out.cell 1) HLW.out NO.out NE.out, h.cell (BX.out.cell 2) HLW.out NO.out NE.out, h.cell (BX.out.cell 3) HLW.out NO.out NE.out⟩ : W.cell? ⟨nb, 0, none⟩ = some (.int .i64 z0) ∧ W.cell? ⟨nb, 1, none⟩ = some (.int .i64 z1) ∧ W.cell? ⟨nb, 2, none⟩ = some (.int .i64 z2) ∧ W.cell? ⟨nb, 3, none⟩ = some (.slice Av l.length cv)))
              replace CL := hide CL.out.drew
              clear hnb
              refine wp_region_noPanic ?_
              refine wp_region_held_drew (S := (fun W => W.cell? ⟨nb, 0, none⟩ = some (.int .i64 z0) ∧ W.cell? ⟨nb, 1, none⟩ = some (.int .i64 z1) ∧ W.cell? ⟨nb, 2, none⟩ = some (.int .i64 z2) ∧ W.cell? ⟨nb, 3, none⟩ = some (.slice Av l.length cv))) (by kernel_rfl) ?_ (fun hHeld => ?_)
              · exact CE.out _ KZ.out
              refine wpAnyH_take (i := 0) (oi := ⟨some 56, _, _, _, _, _⟩) (v := ?_) rfl (by kernel_rfl) (by kernel_rfl) (by kernel_rfl) (fun _ _ _ h => h) (Or.inl ⟨by kernel_rfl, ?_⟩) (by assumption) ?_
              rotate_left 1
              · (intro w hSw; (try dsimp only at hSw); go_simp) <;> (with_reducible rfl)
              (try simp only [Act.put, List.setIfInBounds_toArray, List.set_cons_succ, List.set_cons_zero])
              refine wpAnyH_take (i := 2) (oi := ⟨some 58, _, _, _, _, _⟩) (v := ?_) rfl (by kernel_rfl) (by kernel_rfl) (by kernel_rfl) (fun _ _ _ h => h) (Or.inl ⟨by kernel_rfl, ?_⟩) (by assumption) ?_
              rotate_left 1
              · (intro w hSw; (try dsimp only at hSw); go_simp) <;> (with_reducible rfl)
              (try simp only [Act.put, List.setIfInBounds_toArray, List.set_cons_succ, List.set_cons_zero])
              refine wpAnyH_ready (rs := [1, 3]) (by kernel_rfl) (by simp) ?_
              refine AllReadyH.cons (o := ⟨some 57, _, _, _, _, _⟩) rfl (fun K' hK => ?_) ?_
              · go_simp
                refine hK.out _ _ ?_ (fun hHeld => ?_)
                · exact CE.out _ KZ.out
                clear hK K'
                (try simp only [Act.put, List.setIfInBounds_toArray, List.set_cons_succ, List.set_cons_zero])
                refine wpAnyH_ready (rs := [3]) (by kernel_rfl) (by simp) ?_
                refine AllReadyH.cons (o := ⟨some 59, _, _, _, _, _⟩) rfl (fun K' hK => ?_) AllReadyH.nil
                go_simp
                refine (C.out _ (below_drew (brefl _))).mono ?_
                rintro e w1 ⟨v1, rfl, ho, hb⟩
                obtain ⟨A1, d1, rfl⟩ := ho.form
                have HU := hide ho
                replace KZ := hide (KZ.out.below hb)
                replace CL := hide (CL.out.on hb)
                have y2 := CL.out.out.cell 4
                simp at y2
                clear ho hb
                refine hK.out _ _ ?_ (fun hHeld => ?_)
                · exact CE.out _ KZ.out
                clear hK K'
                (try simp only [Act.put, List.setIfInBounds_toArray, List.set_cons_succ, List.set_cons_zero])
                refine wpAnyH_ready (rs := [4]) (by kernel_rfl) (by simp) ?_
                refine AllReadyH.cons (o := ⟨some 60, _, _, _, _, _⟩) rfl (fun K' hK => ?_) AllReadyH.nil
                go_simp
                replace CL := hide (CL.out.alloc (.cells #[.int .i64 z0, .int .i64 z1, .int .i64 z2, .slice A1 l.length d1] 67))
                replace KZ := hide (KZ.out.alloc (.cells #[.int .i64 z0, .int .i64 z1, .int .i64 z2, .slice A1 l.length d1] 67))
                replace HU := hide (HU.out.below (bal (brefl _) (.cells #[.int .i64 z0, .int .i64 z1, .int .i64 z2, .slice A1 l.length d1] 67)))
                have NW := hide (cell_row w1 #[.int .i64 z0, .int .i64 z1, .int .i64 z2, .slice A1 l.length d1] 67)
                generalize w1.alloc (.cells #[.int .i64 z0, .int .i64 z1, .int .i64 z2, .slice A1 l.length d1] 67) = w5 at *
                have y5 := CL.out.out.cell 4
                simp at y5
                refine hK.out _ _ ?_ (fun hHeld => ?_)
                · exact CE.out _ KZ.out
                clear hK K'
                (try simp only [Act.put, List.setIfInBounds_toArray, List.set_cons_succ, List.set_cons_zero])
                refine wpAnyH_ready (rs := [5]) (by kernel_rfl) (by simp) ?_
                refine AllReadyH.cons (o := ⟨some 61, _, _, _, _, _⟩) rfl (fun K' hK => ?_) AllReadyH.nil
                obtain ⟨R, hR, hrow, hro⟩ := CL.out.oq
                refine step_append_own rfl (.tmp 57) (.tmp 60) 55 rfl w.heap.size 67 i0 _ 4 48 Try.underlying55 hi0 hz0 hz1 hz2 rfl (by omega) (.slice Ao M.length co) (M.length) _ rfl hrow ⟨w1.heap.size, 0, none⟩ 1 1 [.int .i64 z0, .int .i64 z1, .int .i64 z2, .slice A1 l.length d1] rfl rfl NW.out (by intro u hu; simp at hu; rcases hu with rfl | rfl | rfl | rfl <;> rfl) (by simp only [maxLen]; omega) (by omega) CL.out.below.size ?_
                intro v4 w4 hown4 hg4
                obtain ⟨A4, c4, rfl, _⟩ := row_form hown4
                have PU := hide (CL.out.pushQ hos hor hwo hR hro hrow HU.out hown4 hg4)
                replace KZ := hide (KZ.out.grown hg4)
                have OB := hide (CL.out.gq (kp_grown hrow hg4 CL.out.below.size))
                have o2 := OB.out.cell 4
                have of2 := OB.out.frozen 4
                simp at o2
                clear hown4 hg4 hrow hro hR OB
                (try simp only [Act.put, List.setIfInBounds_toArray, List.set_cons_succ, List.set_cons_zero])
                refine hK.out _ _ ?_ (fun hHeld => ?_)
                · exact CE.out _ KZ.out
                clear hK K'
                (try simp only [Act.put, List.setIfInBounds_toArray, List.set_cons_succ, List.set_cons_zero])
                refine wpAnyH_take (i := 6) (oi := ⟨some 62, _, _, _, _, _⟩) (v := ?_) rfl (by kernel_rfl) (by kernel_rfl) (by kernel_rfl) (fun _ _ _ h => h) (Or.inl ⟨by kernel_rfl, ?_⟩) (by assumption) ?_
                rotate_left 1
                · (intro w hSw; (try dsimp only at hSw); go_simp) <;> (with_reducible rfl)
                (try simp only [Act.put, List.setIfInBounds_toArray, List.set_cons_succ, List.set_cons_zero])
                refine wpAnyH_ready (rs := [7]) (by kernel_rfl) (by simp) ?_
                refine AllReadyH.cons (o := ⟨none, _, _, _, _, _⟩) rfl (fun K' hK => ?_) AllReadyH.nil
                go_simp
                replace KZ := hide (KZ.out.set 4 (.slice A4 (M.length + 1) c4))
                refine hK.out _ _ ?_ (fun hHeld => ?_)
                · exact CE.out _ KZ.out
                clear hK K'
                (try simp only [Act.put, List.setIfInBounds_toArray, List.set_cons_succ, List.set_cons_zero])
                refine wpAnyH_done (by kernel_rfl) ?_ _
                refine NoPanic.normal ?_
                go_wp2
                go_roundw
                case rel => exact ⟨k + 1, _, by omega, by go_num, by rw [TS.out]; exact PU⟩
                case measure => simp [intOf]; omega
              refine AllReadyH.cons (o := ⟨some 59, _, _, _, _, _⟩) rfl (fun K' hK => ?_) AllReadyH.nil
              go_simp
              refine (C.out _ (below_drew (brefl _))).mono ?_
              rintro e w1 ⟨v1, rfl, ho, hb⟩
              obtain ⟨A1, d1, rfl⟩ := ho.form
              have HU := hide ho
              replace KZ := hide (KZ.out.below hb)
              replace CL := hide (CL.out.on hb)
              have y2 := CL.out.out.cell 4
              simp at y2
              clear ho hb
              refine hK.out _ _ ?_ (fun hHeld => ?_)
              · exact CE.out _ KZ.out
              clear hK K'
              (try simp only [Act.put, List.setIfInBounds_toArray, List.set_cons_succ, List.set_cons_zero])
              refine wpAnyH_ready (rs := [1, 4]) (by kernel_rfl) (by simp) ?_
              refine AllReadyH.cons (o := ⟨some 57, _, _, _, _, _⟩) rfl (fun K' hK => ?_) ?_
              · go_simp
                refine hK.out _ _ ?_ (fun hHeld => ?_)
                · exact CE.out _ KZ.out
                clear hK K'
                (try simp only [Act.put, List.setIfInBounds_toArray, List.set_cons_succ, List.set_cons_zero])
                refine wpAnyH_ready (rs := [4]) (by kernel_rfl) (by simp) ?_
                refine AllReadyH.cons (o := ⟨some 60, _, _, _, _, _⟩) rfl (fun K' hK => ?_) AllReadyH.nil
                go_simp
                replace CL := hide (CL.out.alloc (.cells #[.int .i64 z0, .int .i64 z1, .int .i64 z2, .slice A1 l.length d1] 67))
                replace KZ := hide (KZ.out.alloc (.cells #[.int .i64 z0, .int .i64 z1, .int .i64 z2, .slice A1 l.length d1] 67))
                replace HU := hide (HU.out.below (bal (brefl _) (.cells #[.int .i64 z0, .int .i64 z1, .int .i64 z2, .slice A1 l.length d1] 67)))
                have NW := hide (cell_row w1 #[.int .i64 z0, .int .i64 z1, .int .i64 z2, .slice A1 l.length d1] 67)
                generalize w1.alloc (.cells #[.int .i64 z0, .int .i64 z1, .int .i64 z2, .slice A1 l.length d1] 67) = w5 at *
                have y5 := CL.out.out.cell 4
                simp at y5
                refine hK.out _ _ ?_ (fun hHeld => ?_)
                · exact CE.out _ KZ.out
                clear hK K'
                (try simp only [Act.put, List.setIfInBounds_toArray, List.set_cons_succ, List.set_cons_zero])
                refine wpAnyH_ready (rs := [5]) (by kernel_rfl) (by simp) ?_
                refine AllReadyH.cons (o := ⟨some 61, _, _, _, _, _⟩) rfl (fun K' hK => ?_) AllReadyH.nil
                obtain ⟨R, hR, hrow, hro⟩ := CL.out.oq
                refine step_append_own rfl (.tmp 57) (.tmp 60) 55 rfl w.heap.size 67 i0 _ 4 48 Try.underlying55 hi0 hz0 hz1 hz2 rfl (by omega) (.slice Ao M.length co) (M.length) _ rfl hrow ⟨w1.heap.size, 0, none⟩ 1 1 [.int .i64 z0, .int .i64 z1, .int .i64 z2, .slice A1 l.length d1] rfl rfl NW.out (by intro u hu; simp at hu; rcases hu with rfl | rfl | rfl | rfl <;> rfl) (by simp only [maxLen]; omega) (by omega) CL.out.below.size ?_
                intro v4 w4 hown4 hg4
                obtain ⟨A4, c4, rfl, _⟩ := row_form hown4
                have PU := hide (CL.out.pushQ hos hor hwo hR hro hrow HU.out hown4 hg4)
                replace KZ := hide (KZ.out.grown hg4)
                have OB := hide (CL.out.gq (kp_grown hrow hg4 CL.out.below.size))
                have o2 := OB.out.cell 4
                have of2 := OB.out.frozen 4
                simp at o2
                clear hown4 hg4 hrow hro hR OB
                (try simp only [Act.put, List.setIfInBounds_toArray, List.set_cons_succ, List.set_cons_zero])
                refine hK.out _ _ ?_ (fun hHeld => ?_)
                · exact CE.out _ KZ.out
                clear hK K'
                (try simp only [Act.put, List.setIfInBounds_toArray, List.set_cons_succ, List.set_cons_zero])
                refine wpAnyH_take (i := 6) (oi := ⟨some 62, _, _, _, _, _⟩) (v := ?_) rfl (by kernel_rfl) (by kernel_rfl) (by kernel_rfl) (fun _ _ _ h => h) (Or.inl ⟨by kernel_rfl, ?_⟩) (by assumption) ?_
                rotate_left 1
                · (intro w hSw; (try dsimp only at hSw); go_simp) <;> (with_reducible rfl)
                (try simp only [Act.put, List.setIfInBounds_toArray, List.set_cons_succ, List.set_cons_zero])
                refine wpAnyH_ready (rs := [7]) (by kernel_rfl) (by simp) ?_
                refine AllReadyH.cons (o := ⟨none, _, _, _, _, _⟩) rfl (fun K' hK => ?_) AllReadyH.nil
                go_simp
                replace KZ := hide (KZ.out.set 4 (.slice A4 (M.length + 1) c4))
                refine hK.out _ _ ?_ (fun hHeld => ?_)
                · exact CE.out _ KZ.out
                clear hK K'
                (try simp only [Act.put, List.setIfInBounds_toArray, List.set_cons_succ, List.set_cons_zero])
                refine wpAnyH_done (by kernel_rfl) ?_ _
                refine NoPanic.normal ?_
                go_wp2
                go_roundw
                case rel => exact ⟨k + 1, _, by omega, by go_num, by rw [TS.out]; exact PU⟩
                case measure => simp [intOf]; omega
              refine AllReadyH.cons (o := ⟨some 60, _, _, _, _, _⟩) rfl (fun K' hK => ?_) AllReadyH.nil
              go_simp
              replace CL := hide (CL.out.alloc (.cells #[.int .i64 z0, .int .i64 z1, .int .i64 z2, .slice A1 l.length d1] 67))
              replace KZ := hide (KZ.out.alloc (.cells #[.int .i64 z0, .int .i64 z1, .int .i64 z2, .slice A1 l.length d1] 67))
              replace HU := hide (HU.out.below (bal (brefl _) (.cells #[.int .i64 z0, .int .i64 z1, .int .i64 z2, .slice A1 l.length d1] 67)))
              have NW := hide (cell_row w1 #[.int .i64 z0, .int .i64 z1, .int .i64 z2, .slice A1 l.length d1] 67)
              generalize w1.alloc (.cells #[.int .i64 z0, .int .i64 z1, .int .i64 z2, .slice A1 l.length d1] 67) = w5 at *
              have y5 := CL.out.out.cell 4
              simp at y5
              refine hK.out _ _ ?_ (fun hHeld => ?_)
              · exact CE.out _ KZ.out
              clear hK K'
              (try simp only [Act.put, List.setIfInBounds_toArray, List.set_cons_succ, List.set_cons_zero])
              refine wpAnyH_ready (rs := [1]) (by kernel_rfl) (by simp) ?_
              refine AllReadyH.cons (o := ⟨some 57, _, _, _, _, _⟩) rfl (fun K' hK => ?_) AllReadyH.nil
              go_simp
              refine hK.out _ _ ?_ (fun hHeld => ?_)
              · exact CE.out _ KZ.out
              clear hK K'
              (try simp only [Act.put, List.setIfInBounds_toArray, List.set_cons_succ, List.set_cons_zero])
              refine wpAnyH_ready (rs := [5]) (by kernel_rfl) (by simp) ?_
              refine AllReadyH.cons (o := ⟨some 61, _, _, _, _, _⟩) rfl (fun K' hK => ?_) AllReadyH.nil
              obtain ⟨R, hR, hrow, hro⟩ := CL.out.oq
              refine step_append_own rfl (.tmp 57) (.tmp 60) 55 rfl w.heap.size 67 i0 _ 4 48 Try.underlying55 hi0 hz0 hz1 hz2 rfl (by omega) (.slice Ao M.length co) (M.length) _ rfl hrow ⟨w1.heap.size, 0, none⟩ 1 1 [.int .i64 z0, .int .i64 z1, .int .i64 z2, .slice A1 l.length d1] rfl rfl NW.out (by intro u hu; simp at hu; rcases hu with rfl | rfl | rfl | rfl <;> rfl) (by simp only [maxLen]; omega) (by omega) CL.out.below.size ?_
              intro v4 w4 hown4 hg4
              obtain ⟨A4, c4, rfl, _⟩ := row_form hown4
              have PU := hide (CL.out.pushQ hos hor hwo hR hro hrow HU.out hown4 hg4)
              replace KZ := hide (KZ.out.grown hg4)
              have OB := hide (CL.out.gq (kp_grown hrow hg4 CL.out.below.size))
              have o2 := OB.out.cell 4
              have of2 := OB.out.frozen 4
              simp at o2
              clear hown4 hg4 hrow hro hR OB
              (try simp only [Act.put, List.setIfInBounds_toArray, List.set_cons_succ, List.set_cons_zero])
              refine hK.out _ _ ?_ (fun hHeld => ?_)
              · exact CE.out _ KZ.out
              clear hK K'
              (try simp only [Act.put, List.setIfInBounds_toArray, List.set_cons_succ, List.set_cons_zero])
              refine wpAnyH_take (i := 6) (oi := ⟨some 62, _, _, _, _, _⟩) (v := ?_) rfl (by kernel_rfl) (by kernel_rfl) (by kernel_rfl) (fun _ _ _ h => h) (Or.inl ⟨by kernel_rfl, ?_⟩) (by assumption) ?_
              rotate_left 1
              · (intro w hSw; (try dsimp only at hSw); go_simp) <;> (with_reducible rfl)
              (try simp only [Act.put, List.setIfInBounds_toArray, List.set_cons_succ, List.set_cons_zero])
              refine wpAnyH_ready (rs := [7]) (by kernel_rfl) (by simp) ?_
              refine AllReadyH.cons (o := ⟨none, _, _, _, _, _⟩) rfl (fun K' hK => ?_) AllReadyH.nil
              go_simp
              replace KZ := hide (KZ.out.set 4 (.slice A4 (M.length + 1) c4))
              refine hK.out _ _ ?_ (fun hHeld => ?_)
              · exact CE.out _ KZ.out
              clear hK K'
              (try simp only [Act.put, List.setIfInBounds_toArray, List.set_cons_succ, List.set_cons_zero])
              refine wpAnyH_done (by kernel_rfl) ?_ _
              refine NoPanic.normal ?_
              go_wp2
              go_roundw
              case rel => exact ⟨k + 1, _, by omega, by go_num, by rw [TS.out]; exact PU⟩
              case measure => simp [intOf]; omega
            · obtain rfl : k = D.qu.length := by omega
              have CL1 := hide (show Cl w w.heap.size (w.heap.size + 1) (w.heap.size + 2) #[.int .i64 D.dep, .int .i64 D.nxt, .slice Ab D.bl.length cb, .slice Ac D.ca.length cc, .slice Aq D.qu.length cq] #[.int .i64 0, .int .i64 0, .slice none 0 0, .slice none 0 0, .slice none 0 0] D.dep D.nxt vb vc vq D.bl D.ca D.qu wr by have := CL.out; rw [List.take_length] at this; exact this)
              obtain ⟨A1, d1, rfl, _⟩ := CL1.out.ob.form
              obtain ⟨A2, d2, rfl, _⟩ := CL1.out.oc.form
              obtain ⟨A3, d3, rfl, _⟩ := CL1.out.oq.form
              obtain ⟨o0, o1, o2, o3, o4⟩ := box5_cells (W' := wr) CL1.out.out
              obtain ⟨r0, r1, r2, r3, r4⟩ := box5_cells (W' := wr) CL1.out.res
              have f0 := CL1.out.res.frozen 0
              have f1 := CL1.out.res.frozen 1
              have f2 := CL1.out.res.frozen 2
              have f3 := CL1.out.res.frozen 3
              have f4 := CL1.out.res.frozen 4
              clear CL
              go_wp2
              have KS := hide (kp_set5 (B := w.heap.size) CL1.out.res (Nat.le_succ _) (.int .i64 D.dep) (.int .i64 D.nxt) (.slice A1 D.bl.length d1) (.slice A2 D.ca.length d2) (.slice A3 D.qu.length d3))
              exact ret_d Try.results43 rfl rfl (CL1.out.res.set5 (.int .i64 D.dep) (.int .i64 D.nxt) (.slice A1 D.bl.length d1) (.slice A2 D.ca.length d2) (.slice A3 D.qu.length d3)) ⟨_, rfl, ⟨_, _, _, rfl, CL1.out.ob.kp KS.out (by decide) (by decide), CL1.out.oc.kp KS.out (by decide) (by decide), CL1.out.oq.kp KS.out (by decide) (by decide)⟩, CL1.out.below.trans KS.out.below⟩
end Go.Proofs.Ytncdilkcblakhaa.Dv
