import Derived.Test.YtnegigcjeoenmaaRf2
import Derived.Laws.CopyRow
import Derived.Lib.SliceRun
import Derived.Maps.AppendAt
namespace Go.Proofs.Ytnegigcjeoenmaa.Dv
open Go Go.RowKit
set_option linter.unusedVariables false
theorem info5 : (Try.prog.info? 5).map (fun i => (i.zero, i.size, i.bytes)) = some (some (.int .u8 0), 1, 1) := by kernel_rfl
theorem info35 : (Try.prog.info? 35).map (fun i => (i.zero, i.size, i.bytes)) = some (some (.slice none 0 0), 1, 24) := by kernel_rfl
theorem info64 : (Try.prog.info? 64).map (fun i => (i.zero, i.size, i.bytes)) = some (some (.agg #[.int .i64 0, .slice none 0 0]), 2, 32) := by kernel_rfl
theorem info39 : (Try.prog.info? 39).map (fun i => (i.zero, i.size, i.bytes)) = some (some (.agg #[.int .i64 0, .int .i64 0, .int .i64 0, .slice none 0 0]), 4, 48) := by kernel_rfl
theorem own_row5 (w : World) : (w.alloc (.cells #[] 5)).ownsRow w.heap.size 5 1 (.slice (some ⟨w.heap.size, 0, none⟩) 0 0) 0 [] :=
  World.ownsRow_made w #[] 0 (Nat.le_refl _) (Nat.zero_le _) (by simp)
theorem add_at' (b off k : Nat) : (⟨b, off, none⟩ : Addr).add k = ⟨b, off + k, none⟩ := by
  unfold Addr.add
  by_cases h : k = 0 <;> simp [h]
theorem row_grown {base n size : Nat} {t : TypeId} {v : Value} {xs : List Value} {w w' : World} (h : w.ownsRow base t size v n xs) (hg : w.grownBy w' v.ownBlock) (hs : base ≤ w.heap.size) : Below base w w' :=
  (Kp.grown (B := base) h hg (Nat.le_refl _) hs).below
theorem bs_news {w : World} {a : Addr} {l : By} (hr : Bs w (some a) l) (j : Nat) (u : Value) (hu : (l.map bc)[j]? = some u) : w.cell? (a.add j) = some u := by
  have hj : j < l.length := by
    rcases Nat.lt_or_ge j l.length with h | h
    · exact h
    · rw [List.getElem?_eq_none (by rw [List.length_map]; exact h)] at hu; cases hu
  obtain ⟨b, off, e, hb, hc⟩ := hr (by rintro rfl; simp at hj)
  injection e with e
  subst e
  rw [add_at', hc j hj]
  rw [List.getElem?_map, List.getElem?_eq_getElem hj] at hu
  injection hu with hu
  subst hu
  unfold bc
  rw [List.getD_eq_getElem?_getD, List.getElem?_eq_getElem hj]; rfl
theorem bc_one (l : By) : ∀ u ∈ l.map bc, u.oneCell' = true := by
  intro u hu
  obtain ⟨z, _, rfl⟩ := List.mem_map.1 hu
  rfl
/-- what a call that hands back bytes of its own leaves -/
def ByR (l : By) (w : World) (e : Ending) (w' : World) : Prop := ∃ v, e = .returned v ∧ OwnBy w' v l ∧ Below w.heap.size w w'
theorem clone_some (a : Addr) (l : By) (c : Nat) (w : World) (hr : Bs w (some a) l) (hn : l.length ≤ 1000) : Calls Try.prog 45 #[.slice (some a) l.length c] w (ByR l w) := by
  obtain ⟨i0, hi0, hz0, hz1, hz2⟩ := info_parts info5
  have HR := hide (hr.below (bal (brefl w) (.cells #[] 5)))
  clear hr
  have q35 : ∀ (w : World) (a : Option Addr) (n c n' c' : Nat), (binOp .eql 35 (.slice a n c) (.slice none n' c')).run Try.prog w = .ok (.bool a.isNone) w := fun w a n c n' c' => Lib.run_eql_slice_nil w _ _ a n c n' c' Try.underlying35
  go_enter Try.func45, Try.ntmps45
  go_wp2_with (at_builtin; refine wpList_append_own _ rfl (.tmp 5) (.tmp 6) _ rfl w.heap.size 5 i0 _ 1 1 Try.underlying35 hi0 hz0 hz1 hz2 rfl (by omega) (.slice (some ⟨w.heap.size, 0, none⟩) 0 0) 0 [] rfl (own_row5 w) a l.length c (l.map bc) rfl (by simp) (fun j u hu => bs_news HR.out j u hu) (bc_one _) (by simp only [maxLen]; omega) (by omega) (by simp) ?_; intro v1 w1 hown1 hg1 hat1; obtain ⟨A1, n1, rfl, _⟩ := row_form hown1; have HB := hide (show Below w.heap.size w w1 from (bal (brefl w) _).trans (row_grown (own_row5 w) hg1 (by simp))); have HM := hide hown1; clear hown1 hg1 hat1)
  go_wp2
  go_ret
  rw [Nat.zero_add, List.nil_append] at HM
  exact ⟨_, rfl, OwnBy.of_row HM.out, HB.out⟩
theorem clone_nil (c : Nat) (w : World) : Calls Try.prog 45 #[.slice none 0 c] w (ByR [] w) := by
  have q35 : ∀ (w : World) (a : Option Addr) (n c n' c' : Nat), (binOp .eql 35 (.slice a n c) (.slice none n' c')).run Try.prog w = .ok (.bool a.isNone) w := fun w a n c n' c' => Lib.run_eql_slice_nil w _ _ a n c n' c' Try.underlying35
  go_enter Try.func45, Try.ntmps45
  go_wp2
  go_ret
  exact ⟨_, rfl, OwnBy.nil _, brefl _⟩
theorem clone_any (v : Value) (l : By) (w : World) (hr : IsBs w v l) (hn : l.length ≤ 1000) : Calls Try.prog 45 #[v] w (ByR l w) := by
  obtain ⟨A, c, rfl, hc, hb⟩ := hr
  rcases A with _ | a
  · have hL : l = [] := by
      rcases l with _ | ⟨x, xs⟩
      · rfl
      · obtain ⟨b, off, e, _⟩ := hb (by simp)
        cases e
    subst hL
    exact clone_nil c w
  · exact clone_some a l c w hb hn
theorem getD_take_snoc (l : By) (k : Nat) (h : k < l.length) : l.take (k + 1) = l.take k ++ [l.getD k 0] := by
  rw [List.take_succ_eq_append_getElem h, List.getD_eq_getElem?_getD, List.getElem?_eq_getElem h]; rfl
set_option maxHeartbeats 1000000 in
/-- the reference's copy of bytes -/
theorem rbytes_any (v : Value) (l : By) (w : World) (hr : IsBs w v l) (hn : l.length ≤ 1000) : Calls Try.prog 48 #[v] w (ByR l w) := by
  obtain ⟨A, c, rfl, hc, hb⟩ := hr
  obtain ⟨i0, hi0, hz0, hz1, hz2⟩ := info_parts info5
  have HR := hide hb
  clear hb
  go_enter Try.func48, Try.ntmps48
  go_wp2
  go_loopw [3, 4] (fun o i wr => ∃ k : Nat, k ≤ l.length ∧ i = .int .i64 k ∧ Hid (wr.ownsRow w.heap.size 5 1 o k ((l.take k).map bc)) ∧ Hid (Below w.heap.size w wr)) (fun _ i _ => l.length - (intOf i).toNat)
  case atStart => exact ⟨0, Nat.zero_le _, rfl, hide ⟨by simp, .inl ⟨rfl, rfl⟩⟩, hide (brefl _)⟩
  case round =>
    obtain ⟨k, hk, rfl, HO, K⟩ := hrel
    by_cases hlt : k < l.length
    · obtain ⟨b, off, rfl, hbl, c0⟩ := HR.out.cells K.out hlt
      obtain ⟨z, hz⟩ : ∃ z, z = l.getD k 0 := ⟨_, rfl⟩
      have TS := hide (show l.take (k + 1) = l.take k ++ [z] by rw [hz]; exact getD_take_snoc l k hlt)
      rw [← hz] at c0
      clear hz
      obtain ⟨A1, n1, rfl, _⟩ := row_form HO.out
      have O1 := hide (row_below HO.out (bal (brefl wr) (.cells #[.int .u8 z] 5)))
      have K1 := hide (bal K.out (.cells #[.int .u8 z] 5))
      have NW := hide (show ∀ j u, [Value.int .u8 z][j]? = some u → (wr.alloc (.cells #[.int .u8 z] 5)).cell? ((⟨wr.heap.size, 0, none⟩ : Addr).add j) = some u from by
        intro j u hu
        rw [add_at', Nat.zero_add, (Box.new wr 5 #[.int .u8 z]).cell]
        simpa using hu)
      go_wp2_with (at_builtin; refine wpList_append_own _ rfl (.tmp 11) (.tmp 16) _ rfl w.heap.size 5 i0 _ 1 1 Try.underlying35 hi0 hz0 hz1 hz2 rfl (by omega) (.slice A1 k n1) k _ rfl O1.out ⟨wr.heap.size, 0, none⟩ 1 1 [.int .u8 z] rfl rfl NW.out (by intro u hu; simp at hu; subst hu; rfl) (by simp only [maxLen]; omega) (by omega) K1.out.size ?_; intro v1 w1 hown1 hg1 hat1; have HB := hide (K1.out.trans (row_grown O1.out hg1 K1.out.size)); have HM := hide hown1; clear hown1 hg1 hat1)
      go_wp2
      go_roundw
      case rel => exact ⟨k + 1, by omega, by go_num, hide (by rw [TS.out, List.map_append]; exact HM.out), HB⟩
      case measure => simp [intOf]; omega
    · obtain rfl : k = l.length := by omega
      go_wp2
      go_ret
      obtain ⟨A1, n1, rfl, _⟩ := row_form HO.out
      exact ⟨_, rfl, OwnBy.of_row (by have := HO.out; rw [List.take_length] at this; exact this), K.out⟩
theorem step_append_own {P : Program} {w : World} {ops : Array Oper} {o : Oper} {a : Act} {K : Act → World → Prop} {Q : Exit → Act → World → Prop} {E : Prop} (hgd : o.guard = none) (s x : Operand) (t : TypeId)
    (ho : o.op = .call { callee := .builtin .append, args := #[s, x], argTypes := #[t, t] })
    (base : Nat) (e : TypeId) (i : TypeInfo) (z : Value) (size bytes : Nat) (ht : P.underlying t = some (.slice e)) (hi : P.info? e = some i) (hz : i.zero = some z)
    (hsize : i.size = size) (hby : i.bytes = bytes) (hzs : z.cells.size = size) (hsz : 0 < size)
    (v : Value) (n : Nat) (xs : List Value) (hs : a.eval s = v) (hown : w.ownsRow base e size v n xs)
    (ad : Addr) (m c : Nat) (news : List Value) (hx : a.eval x = .slice (some ad) m c) (hl : news.length = m * size) (hnews : ∀ j u, news[j]? = some u → w.cell? (ad.add j) = some u) (h1 : ∀ u ∈ news, u.oneCell' = true)
    (h63 : n + m ≤ maxLen) (hbytes : (n + m) * bytes ≤ 140737488355328) (hbase : base ≤ w.heap.size)
    (h : ∀ v' w', w'.ownsRow base e size v' (n + m) (xs ++ news) → w.grownBy w' v.ownBlock → K (a.put o.dst v') w') :
    if Region.wanted o (yielded ops a.tmps) = true then Oper.wp P o a w K Q else E := by
  have hw : Region.wanted o (yielded ops a.tmps) = true := by simp [Region.wanted, hgd]
  rw [if_pos hw]
  exact wp_append_own w s x t ho base e i z size bytes ht hi hz hsize hby hzs hsz v n xs hs hown ad m c news hx hl hnews h1 h63 hbytes hbase fun v' w' h2 h3 _ => h v' w' h2 h3
-- PUSHES
theorem OwnBy.one {w : World} {v : Value} {l : By} (h : OwnBy w v l) : v.oneCell' = true := by
  obtain ⟨A, c, rfl, _⟩ := h; rfl
theorem kp_grown {B n size : Nat} {T : TypeId} {v : Value} {xs : List Value} {w w' : World} (h : w.ownsRow B T size v n xs) (hg : w.grownBy w' v.ownBlock) (hs : B ≤ w.heap.size) : Kp B T w w' := Kp.grown h hg (Nat.le_refl _) hs
theorem OwnB.push {B n : Nat} {w w' : World} {v v' u : Value} {l : By} {R : List PB} (ho : ∀ r ∈ R, OwnBy w r.2 r.1) (hu : OwnBy w u l) (hn : R.length = n) (hrow : w.ownsRow B 35 1 v n (cB R)) (hown : w'.ownsRow B 35 1 v' (n + 1) (cB R ++ [u])) (hk : Kp B 35 w w') :
    OwnB B w' v' (R.map Prod.fst ++ [l]) :=
  ⟨R ++ [(l, u)], by simp, by rw [cB_append]; rw [show (R.map Prod.fst ++ [l]).length = n + 1 by simp [hn]]; exact hown, fun r hr => by
    rcases List.mem_append.1 hr with h | h
    · exact (ho r h).kp hk (by decide)
    · rw [List.mem_singleton.1 h]; exact hu.kp hk (by decide)⟩
theorem OwnC.push {B n : Nat} {w w' : World} {v' u : Value} {z : Int} {l : By} {R : List PC} (ho : ∀ r ∈ R, OwnBy w r.2.2 r.2.1) (hu : OwnBy w u l) (hn : R.length = n) (hown : w'.ownsRow B 64 2 v' (n + 1) (cC R ++ [.int .i64 z, u])) (hk : Kp B 64 w w') :
    OwnC B w' v' (R.map pcC ++ [(z, l)]) :=
  ⟨R ++ [(z, l, u)], by simp [pcC], by rw [cC_append]; rw [show (R.map pcC ++ [(z, l)]).length = n + 1 by simp [hn]]; exact hown, fun r hr => by
    rcases List.mem_append.1 hr with h | h
    · exact (ho r h).kp hk (by decide)
    · rw [List.mem_singleton.1 h]; exact hu.kp hk (by decide)⟩
theorem OwnQ.push {B n : Nat} {w w' : World} {v' u : Value} {z0 z1 z2 : Int} {l : By} {R : List PQ} (ho : ∀ r ∈ R, OwnBy w r.2.2.2.2 r.2.2.2.1) (hu : OwnBy w u l) (hn : R.length = n) (hown : w'.ownsRow B 39 4 v' (n + 1) (cQ R ++ [.int .i64 z0, .int .i64 z1, .int .i64 z2, u])) (hk : Kp B 39 w w') :
    OwnQ B w' v' (R.map pqQ ++ [(z0, z1, z2, l)]) :=
  ⟨R ++ [(z0, z1, z2, l, u)], by simp [pqQ], by rw [cQ_append]; rw [show (R.map pqQ ++ [(z0, z1, z2, l)]).length = n + 1 by simp [hn]]; exact hown, fun r hr => by
    rcases List.mem_append.1 hr with h | h
    · exact (ho r h).kp hk (by decide)
    · rw [List.mem_singleton.1 h]; exact hu.kp hk (by decide)⟩
end Go.Proofs.Ytnegigcjeoenmaa.Dv
