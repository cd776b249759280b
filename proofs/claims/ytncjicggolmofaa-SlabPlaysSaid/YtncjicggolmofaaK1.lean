import Derived.Test.YtncjicggolmofaaW1
import Derived.Test.YtncjicggolmofaaL3
namespace Go.Proofs.Ytncjicggolmofaa.Sb
open Go Go.RowKit
set_option linter.unusedVariables false
set_option linter.unusedSimpArgs false
theorem empty_i (w : World) (B : Nat) (hB : B ≤ w.heap.size) : (w.alloc (.cells #[] 3)).ownsRow B 3 1 (.slice (some ⟨w.heap.size, 0, none⟩) 0 0) 0 (([] : Is).map ic) :=
  ⟨rfl, .inr ⟨w.heap.size, 0, #[], rfl, hB, heap_alloc_new w _, Nat.le_refl _, by unfold maxLen; omega, rfl, rfl⟩⟩
set_option maxRecDepth 100000 in
/-- numbers that are read, appended to an empty row of one's own -/
theorem app_copy {ops : Array Oper} {rest : List Oper} {o : Oper} {a : Act} {Q : Exit → Act → World → Prop} (w : World) (hgd : o.guard = none) (s x : Operand) (ho : o.op = .call { callee := .builtin .append, args := #[s, x], argTypes := #[35, 35] })
    (B g : Nat) (A : Option Addr) (c n : Nat) (l : Is) (hs : a.eval s = .slice (some ⟨g, 0, none⟩) 0 0) (hx : a.eval x = .slice A n c) (h1 : w.ownsRow B 3 1 (.slice (some ⟨g, 0, none⟩) 0 0) 0 (([] : Is).map ic)) (h2 : Bi w A l) (hn : l.length = n) (hl : l.length ≤ 1000) (hbase : B ≤ w.heap.size)
    (h : ∀ A4 c4 w4, w4.ownsRow B 3 1 (.slice A4 n c4) n (l.map ic) → Kp B 3 w w4 → wpList Try.prog ops Q rest (a.put o.dst (.slice A4 n c4)) w4) :
    wpList Try.prog ops Q (o :: rest) a w := by
  obtain ⟨i0, hi0, hz0, hz1, hz2⟩ := info_parts info3
  by_cases h0 : A = none
  · subst h0
    have hl0 : l = [] := by
      by_cases e : l = []
      · exact e
      · obtain ⟨_, _, e', _⟩ := h2 e; cases e'
    subst hl0
    obtain rfl : n = 0 := hn.symm
    refine wpList_plain hgd fun K hK => ?_
    have hr := run_append_nothing (P := Try.prog) w 35 35 o.type 3 i0 Try.underlying35 hi0 (some ⟨g, 0, none⟩) 0 0 (Nat.le_refl _) (.slice none 0 c) (Src.ofNil w Try.underlying35 c)
    unfold Oper.wp execOp
    simp only [ho, resolve, invoke, builtin, Sem.run_bind, Sem.run_pure, Result.andThen_ok, List.map_toArray, List.map_cons, List.map_nil, hs, hx, hr]
    exact hK _ _ (h _ _ w h1 (Kp.refl _ _ _))
  · obtain ⟨ad, rfl⟩ := Option.ne_none_iff_exists'.1 h0
    have hc : ∀ j u, (l.map ic)[j]? = some u → w.cell? (ad.add j) = some u := fun j u hu => by
      have hj : j < l.length := by
        rcases Nat.lt_or_ge j l.length with z | z
        · exact z
        · rw [List.getElem?_eq_none (by rw [List.length_map]; exact z)] at hu; cases hu
      obtain ⟨b, off, e, _, hcell⟩ := h2 (fun e => by rw [e] at hj; exact absurd hj (Nat.not_lt_zero _))
      injection e with e
      subst e
      rw [addr_add, hcell j hj]
      rw [List.getElem?_map, List.getElem?_eq_getElem hj] at hu
      rw [List.getD_eq_getElem?_getD, List.getElem?_eq_getElem hj]
      exact hu
    refine wpList_append_own_at w hgd s x 35 ho B 3 i0 _ 1 8 Try.underlying35 hi0 hz0 hz1 hz2 rfl (by omega) (.slice (some ⟨g, 0, none⟩) 0 0) 0 (([] : Is).map ic) hs h1 ad n c (l.map ic) hx (by rw [List.length_map, hn, Nat.mul_one]) hc (ic_one l) (by simp only [maxLen]; omega) (by omega) hbase ?_
    intro v4 w4 hown4 hg4 _ hat4
    rw [Nat.zero_add] at hown4
    obtain ⟨A4, cp4, ev4, _⟩ := row_form hown4
    subst ev4
    exact h A4 cp4 w4 hown4 (Kp.grown h1 hg4 (Nat.le_refl B) hbase)
/-- slabs that may be written: a row of slabs from block B on, the flags of each in a block from B on; what the numbers and flags are is not said -/
def SlR (B : Nat) (w : World) (v : Value) (L : List Ca) : Prop := ∃ A c, v = .slice A L.length c ∧ L.length ≤ c ∧ (L ≠ [] → ∃ g, A = some ⟨g, 0, none⟩ ∧ B ≤ g ∧ ∃ cur, Box w g 52 cur ∧ ∀ k, k < L.length → (∃ z, cur[k * 2]? = some (.int .i64 z)) ∧ ∃ Af cf, cur[k * 2 + 1]? = some (.slice Af (cAt L k).2.length cf) ∧ (cAt L k).2.length ≤ cf ∧
  ((cAt L k).2 ≠ [] → ∃ gf, Af = some ⟨gf, 0, none⟩ ∧ B ≤ gf ∧ ∃ cur', Box w gf 4 cur' ∧ ∀ j, j < (cAt L k).2.length → ∃ b, cur'[j]? = some (.bool b)))
theorem SlR.of {B : Nat} {w : World} {v : Value} {L : List Ca} (h : OwnD B w v L) : SlR B w v L := by
  obtain ⟨R, e, hr, h1, hd⟩ := h
  have hl : R.length = L.length := by rw [← e, List.length_map]
  obtain ⟨A, c, ev, hc⟩ := row_form hr
  subst ev
  refine ⟨A, c, rfl, hc, fun hne => ?_⟩
  have hpos : L.length ≠ 0 := fun c => hne (List.eq_nil_of_length_eq_zero c)
  obtain ⟨g, eA, hg, _, hcc, _⟩ := row_cell hr hpos
  subst eA
  obtain ⟨cur, hx, hBg⟩ := row_box hr
  refine ⟨g, rfl, hBg, cur, hx, fun k hk => ?_⟩
  have hkR : k < R.length := by omega
  have ep := pcC_get e hkR
  have e2 : (R[k]).2.1 = (cAt L k).2 := by rw [← ep]; rfl
  have a1 := hcc _ _ (cC_at (R := R) (k := k) hkR).1
  have a2 := hcc _ _ (cC_at (R := R) (k := k) hkR).2
  rw [hx.cell] at a1 a2
  have hf := h1 k hkR
  rw [e2] at hf
  obtain ⟨Af, cf, ef, hcf⟩ := row_form hf
  rw [ef] at a2 hf
  refine ⟨⟨_, a1⟩, Af, cf, a2, hcf, fun hn2 => ?_⟩
  have hpos2 : (cAt L k).2.length ≠ 0 := fun c => hn2 (List.eq_nil_of_length_eq_zero c)
  obtain ⟨gf, eAf, hgf, _, hcf2, _⟩ := row_cell hf hpos2
  subst eAf
  obtain ⟨curf, hxf, hBgf⟩ := row_box hf
  refine ⟨gf, rfl, hBgf, curf, hxf, fun j hj => ?_⟩
  have a3 := hcf2 j (bc ((cAt L k).2.getD j false)) (by rw [List.getElem?_map, List.getElem?_eq_getElem hj, List.getD_eq_getElem?_getD, List.getElem?_eq_getElem hj]; rfl)
  rw [hxf.cell] at a3
  exact ⟨_, a3⟩
theorem SlR.put4 {B : Nat} {w : World} {v : Value} {L : List Ca} (h : SlR B w v L) {g : Nat} {c0 : Array Value} (hb : Box w g 4 c0) (j : Nat) (b : Bool) : SlR B (w.setCell ⟨g, j, none⟩ (.bool b)) v L := by
  obtain ⟨A, c, e, hc, h⟩ := h
  refine ⟨A, c, e, hc, fun hne => ?_⟩
  obtain ⟨gs, eA, hB, cur, hx, hk⟩ := h hne
  refine ⟨gs, eA, hB, cur, hx.far (hx.ne hb (by decide)) _, fun k hkl => ?_⟩
  obtain ⟨hz, Af, cf, e1, e2, h2⟩ := hk k hkl
  refine ⟨hz, Af, cf, e1, e2, fun hn2 => ?_⟩
  obtain ⟨gf, eAf, hBf, cur', hx', hj⟩ := h2 hn2
  by_cases eg : gf = g
  · subst eg
    refine ⟨gf, eAf, hBf, _, hx'.put j _, fun q hq => ?_⟩
    obtain ⟨b', hb'⟩ := hj q hq
    rw [Array.getElem?_setIfInBounds]
    have hqs : q < cur'.size := by
      rcases Nat.lt_or_ge q cur'.size with z | z
      · exact z
      · rw [Array.getElem?_eq_none z] at hb'; cases hb'
    by_cases eq : j = q
    · subst eq; rw [if_pos rfl, if_pos hqs]; exact ⟨_, rfl⟩
    · rw [if_neg eq]; exact ⟨b', hb'⟩
  · exact ⟨gf, eAf, hBf, cur', hx'.far eg _, hj⟩
theorem SlR.put52 {B : Nat} {w : World} {v : Value} {L : List Ca} (h : SlR B w v L) {g : Nat} {c0 : Array Value} (hb : Box w g 52 c0) (k0 : Nat) (z : Int) : SlR B (w.setCell ⟨g, k0 * 2, none⟩ (.int .i64 z)) v L := by
  obtain ⟨A, c, e, hc, h⟩ := h
  refine ⟨A, c, e, hc, fun hne => ?_⟩
  obtain ⟨gs, eA, hB, cur, hx, hk⟩ := h hne
  have fl : ∀ {gf : Nat} {cur' : Array Value}, Box w gf 4 cur' → Box (w.setCell ⟨g, k0 * 2, none⟩ (.int .i64 z)) gf 4 cur' := fun hx' => hx'.far (hx'.ne hb (by decide)) _
  by_cases eg : gs = g
  · subst eg
    refine ⟨gs, eA, hB, _, hx.put (k0 * 2) _, fun k hkl => ?_⟩
    obtain ⟨⟨z', hz⟩, Af, cf, e1, e2, h2⟩ := hk k hkl
    have hqs : k * 2 < cur.size := by
      rcases Nat.lt_or_ge (k * 2) cur.size with y | y
      · exact y
      · rw [Array.getElem?_eq_none y] at hz; cases hz
    refine ⟨?_, Af, cf, ?_, e2, fun hn2 => ?_⟩
    · rw [Array.getElem?_setIfInBounds]
      by_cases eq : k0 * 2 = k * 2
      · rw [if_pos eq, if_pos (by omega)]; exact ⟨_, rfl⟩
      · rw [if_neg eq]; exact ⟨z', hz⟩
    · rw [Array.getElem?_setIfInBounds, if_neg (by omega)]; exact e1
    · obtain ⟨gf, eAf, hBf, cur', hx', hj⟩ := h2 hn2
      exact ⟨gf, eAf, hBf, cur', fl hx', hj⟩
  · refine ⟨gs, eA, hB, cur, hx.far eg _, fun k hkl => ?_⟩
    obtain ⟨hz, Af, cf, e1, e2, h2⟩ := hk k hkl
    refine ⟨hz, Af, cf, e1, e2, fun hn2 => ?_⟩
    obtain ⟨gf, eAf, hBf, cur', hx', hj⟩ := h2 hn2
    exact ⟨gf, eAf, hBf, cur', fl hx', hj⟩
theorem SlR.below {B : Nat} {w w' : World} {v : Value} {L : List Ca} (h : SlR B w v L) (hb : Below w.heap.size w w') : SlR B w' v L := by
  obtain ⟨A, c, e, hc, h⟩ := h
  refine ⟨A, c, e, hc, fun hne => ?_⟩
  obtain ⟨gs, eA, hB, cur, hx, hk⟩ := h hne
  refine ⟨gs, eA, hB, cur, hx.below hb, fun k hkl => ?_⟩
  obtain ⟨hz, Af, cf, e1, e2, h2⟩ := hk k hkl
  refine ⟨hz, Af, cf, e1, e2, fun hn2 => ?_⟩
  obtain ⟨gf, eAf, hBf, cur', hx', hj⟩ := h2 hn2
  exact ⟨gf, eAf, hBf, cur', hx'.below hb, hj⟩
theorem SlR.kp {B B' : Nat} {T : TypeId} {w w' : World} {v : Value} {L : List Ca} (h : SlR B w v L) (hk : Kp B' T w w') (h1 : (52 : TypeId) ≠ T) (h2 : (4 : TypeId) ≠ T) : SlR B w' v L := by
  obtain ⟨A, c, e, hc, h⟩ := h
  refine ⟨A, c, e, hc, fun hne => ?_⟩
  obtain ⟨gs, eA, hB, cur, hx, hk2⟩ := h hne
  refine ⟨gs, eA, hB, cur, hx.kp hk h1, fun k hkl => ?_⟩
  obtain ⟨hz, Af, cf, e1, e2, h3⟩ := hk2 k hkl
  refine ⟨hz, Af, cf, e1, e2, fun hn2 => ?_⟩
  obtain ⟨gf, eAf, hBf, cur', hx', hj⟩ := h3 hn2
  exact ⟨gf, eAf, hBf, cur', hx'.kp hk h2, hj⟩
/-- a row of numbers that may be written -/
def RwI (B : Nat) (w : World) (A : Option Addr) (n c : Nat) : Prop := ∃ l : Is, l.length = n ∧ w.ownsRow B 3 1 (.slice A n c) n (l.map ic)
theorem RwI.below {B : Nat} {w w' : World} {A : Option Addr} {n c : Nat} (h : RwI B w A n c) (hb : Below w.heap.size w w') : RwI B w' A n c := by
  obtain ⟨l, e, h⟩ := h; exact ⟨l, e, row_below h hb⟩
theorem RwI.put {B : Nat} {w : World} {A : Option Addr} {n c g : Nat} (h : RwI B w A n c) (z : Nat) (x : Int) : RwI B (w.setCell ⟨g, z, none⟩ (.int .i64 x)) A n c := by
  obtain ⟨l, e, h⟩ := h
  have h0 := h
  obtain ⟨hl, h1 | ⟨g', cap, cur, e1, r⟩⟩ := h
  · exact ⟨l, e, hl, .inl h1⟩
  · injection e1 with e1 _ e2
    subst e1 e2
    by_cases eg : g' = g
    · subst eg
      refine ⟨l.set z x, by rw [List.length_set]; exact e, ?_⟩
      have := row_set2 h0 z (.int .i64 x)
      rw [List.map_set]; exact this
    · exact ⟨l, e, row_far h0 (by simp [Value.ownBlock, eg]) _⟩
theorem RwI.cell {B : Nat} {w : World} {A : Option Addr} {n c k : Nat} (h : RwI B w A n c) (hk : k < n) : ∃ g, A = some ⟨g, 0, none⟩ ∧ B ≤ g ∧ (∃ cur, Box w g 3 cur) ∧ (∃ z, w.cell? ⟨g, k, none⟩ = some (.int .i64 z)) ∧ w.frozen? ⟨g, k, none⟩ = false := by
  obtain ⟨l, e, h⟩ := h
  obtain ⟨g, eA, _, hB, hc, hf⟩ := row_cell h (by omega)
  subst eA
  obtain ⟨cur, hx, _⟩ := row_box h
  refine ⟨g, rfl, hB, ⟨cur, hx⟩, ⟨l.getD k 0, hc k _ ?_⟩, hf k⟩
  rw [List.getElem?_map, List.getElem?_eq_getElem (by omega), List.getD_eq_getElem?_getD, List.getElem?_eq_getElem (by omega)]; rfl
/-- all that is known while the answers are overwritten -/
structure St (B : Nat) (wb : World) (g9 g12 : Nat) (o1 o2 : Int) (v1 v2 : Value) (L1 L2 : List Ca) (A3 : Option Addr) (n1 c3 : Nat) (A2 : Option Addr) (n2 c2 : Nat) (w : World) : Prop where
  KB : Below B wb w
  b9 : Box w g9 24 #[.int .i64 o1, v1]
  b12 : Box w g12 24 #[.int .i64 o2, v2]
  s1 : SlR B w v1 L1
  s2 : SlR B w v2 L2
  l : RwI B w A3 n1 c3
  o : RwI B w A2 n2 c2
section
variable {B : Nat} {wb w : World} {g9 g12 : Nat} {o1 o2 : Int} {v1 v2 : Value} {L1 L2 : List Ca} {A3 : Option Addr} {n1 c3 : Nat} {A2 : Option Addr} {n2 c2 : Nat}
theorem St.put3 (h : St B wb g9 g12 o1 o2 v1 v2 L1 L2 A3 n1 c3 A2 n2 c2 w) {g : Nat} {cur : Array Value} (hb : Box w g 3 cur) (hB : B ≤ g) (z : Nat) (x : Int) : St B wb g9 g12 o1 o2 v1 v2 L1 L2 A3 n1 c3 A2 n2 c2 (w.setCell ⟨g, z, none⟩ (.int .i64 x)) :=
  have hk := Kp.boxset hb hB z (.int .i64 x)
  ⟨h.KB.trans hk.below, h.b9.kp hk (by decide), h.b12.kp hk (by decide), h.s1.kp hk (by decide) (by decide), h.s2.kp hk (by decide) (by decide), h.l.put z x, h.o.put z x⟩
end
/-- all that is known while the slabs are overwritten -/
structure Sa (B : Nat) (wb : World) (ga : Nat) (o1 o2 : Int) (v1 v2 : Value) (L1 L2 : List Ca) (w : World) : Prop where
  KB : Below B wb w
  ba : Box w ga 24 #[.int .i64 o1, v1, .int .i64 o2, v2]
  s1 : SlR B w v1 L1
  s2 : SlR B w v2 L2
section
variable {B : Nat} {wb w : World} {ga : Nat} {o1 o2 : Int} {v1 v2 : Value} {L1 L2 : List Ca}
theorem Sa.put4 (h : Sa B wb ga o1 o2 v1 v2 L1 L2 w) {g : Nat} {cur : Array Value} (hb : Box w g 4 cur) (hB : B ≤ g) (j : Nat) (b : Bool) : Sa B wb ga o1 o2 v1 v2 L1 L2 (w.setCell ⟨g, j, none⟩ (.bool b)) :=
  have hk := Kp.boxset hb hB j (.bool b)
  ⟨h.KB.trans hk.below, h.ba.kp hk (by decide), h.s1.put4 hb j b, h.s2.put4 hb j b⟩
theorem Sa.put52 (h : Sa B wb ga o1 o2 v1 v2 L1 L2 w) {g : Nat} {cur : Array Value} (hb : Box w g 52 cur) (hB : B ≤ g) (k : Nat) (z : Int) : Sa B wb ga o1 o2 v1 v2 L1 L2 (w.setCell ⟨g, k * 2, none⟩ (.int .i64 z)) :=
  have hk := Kp.boxset hb hB (k * 2) (.int .i64 z)
  ⟨h.KB.trans hk.below, h.ba.kp hk (by decide), h.s1.put52 hb k z, h.s2.put52 hb k z⟩
theorem Sa.below (h : Sa B wb ga o1 o2 v1 v2 L1 L2 w) {w' : World} (hs : B ≤ w.heap.size) (hb : Below w.heap.size w w') : Sa B wb ga o1 o2 v1 v2 L1 L2 w' :=
  ⟨h.KB.trans (hb.mono hs), h.ba.below hb, h.s1.below hb, h.s2.below hb⟩
end
/-- what can be read and written at slab k -/
theorem SlR.slab {B : Nat} {w : World} {A : Option Addr} {c n : Nat} {L : List Ca} (h : SlR B w (.slice A n c) L) {k : Nat} (hk : k < L.length) : ∃ g, A = some ⟨g, 0, none⟩ ∧ B ≤ g ∧ (∃ cur, Box w g 52 cur) ∧ (∃ z, w.cell? ⟨g, k * 2, none⟩ = some (.int .i64 z)) ∧ w.frozen? ⟨g, k * 2, none⟩ = false ∧ ∃ Af cf, w.cell? ⟨g, k * 2 + 1, none⟩ = some (.slice Af (cAt L k).2.length cf) ∧ (cAt L k).2.length ≤ cf ∧
    ∀ j, j < (cAt L k).2.length → ∃ gf, Af = some ⟨gf, 0, none⟩ ∧ B ≤ gf ∧ (∃ cur', Box w gf 4 cur') ∧ (∃ b, w.cell? ⟨gf, j, none⟩ = some (.bool b)) ∧ w.frozen? ⟨gf, j, none⟩ = false := by
  obtain ⟨A', c', e, hc, h⟩ := h
  injection e with e1 e3 e2
  subst e1 e2
  obtain ⟨g, eA, hB, cur, hx, hk2⟩ := h (by rintro rfl; simp at hk)
  obtain ⟨⟨z, hz⟩, Af, cf, e1, e2, h2⟩ := hk2 k hk
  refine ⟨g, eA, hB, ⟨cur, hx⟩, ⟨z, by rw [hx.cell]; exact hz⟩, hx.frozen _, Af, cf, by rw [hx.cell]; exact e1, e2, fun j hj => ?_⟩
  obtain ⟨gf, eAf, hBf, cur', hx', hjj⟩ := h2 (by intro e; rw [e] at hj; exact absurd hj (Nat.not_lt_zero _))
  obtain ⟨b, hb⟩ := hjj j hj
  exact ⟨gf, eAf, hBf, ⟨cur', hx'⟩, ⟨b, by rw [hx'.cell]; exact hb⟩, hx'.frozen _⟩
end Go.Proofs.Ytncjicggolmofaa.Sb
