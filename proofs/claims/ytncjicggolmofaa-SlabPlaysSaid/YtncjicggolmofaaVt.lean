import Derived.Test.YtncjicggolmofaaVs
import Derived.Test.YtncjicggolmofaaS1
import Derived.Maps.AppendAt
import Derived.Maps.OwnIn
namespace Go.Proofs.Ytncjicggolmofaa.Sb
open Go Go.RowKit Go.Shelf Go.Sort
set_option linter.unusedVariables false
set_option linter.unusedSimpArgs false
theorem Nc_grown {W W' : World} {row : Option Nat} (hg : W.grownBy W' row) (hr : ∀ r, row = some r → ∃ o : Obj, W.heap[r]? = some o ∧ o.isCells = false) (k : Nat) (cs : Array Value) (t : TypeId) (h : W.heap[k]? = some (.cells cs t (0, 0))) : W'.heap[k]? = some (.cells cs t (0, 0)) :=
  (hg.block k (blk_lt h) (fun e => by
    obtain ⟨o, ho, hc⟩ := hr k e.symm
    rw [h] at ho; injection ho with ho; subst ho; cases hc)).trans h
theorem row_nc {W W' : World} {base n size : Nat} {t : TypeId} {v : Value} {xs : List Value} (h : W.ownsRow base t size v n xs) (hn : ∀ (k : Nat) (cs : Array Value) (t : TypeId), W.heap[k]? = some (.cells cs t (0, 0)) → W'.heap[k]? = some (.cells cs t (0, 0))) : W'.ownsRow base t size v n xs := by
  obtain ⟨hl, h | ⟨g, cap, cur, e, hg, hh, r⟩⟩ := h
  · exact ⟨hl, .inl h⟩
  · exact ⟨hl, .inr ⟨g, cap, cur, e, hg, hn _ _ _ hh, r⟩⟩
theorem own_ne_box {w : World} {base n size g : Nat} {t t2 : TypeId} {v : Value} {xs : List Value} {cs : Array Value} (h : w.ownsRow base t size v n xs) (hX : Box w g t2 cs) (hne : t ≠ t2) : v.ownBlock ≠ some g := by
  obtain ⟨_, ⟨rfl, _⟩ | ⟨k, cap, cur, rfl, _, hh, _⟩⟩ := h
  · exact fun e => by cases e
  · intro e
    have : k = g := by simpa [Value.ownBlock] using e
    exact Box.ne (t := t) hh hX hne this
/-- what AppendSeq holds between two rounds -/
def AsI (w : World) (pre : Is) (W : World) : Prop := ∃ A c, Box W w.heap.size 35 #[.slice A pre.length c] ∧ OwI w.heap.size W (.slice A pre.length c) pre ∧ (A = none ↔ pre = []) ∧ Below w.heap.size w W
set_option maxRecDepth 100000 in
set_option maxHeartbeats 4000000 in
theorem aps_any (n B c : Nat) (hn : 3 ≤ n) (A : Option Addr) (fs : Is) (w : World) (hreach : fs.length ≤ 1000) (hq : Bi w A fs) (hB : Box w B 35 #[.slice A fs.length c]) :
    CallsIn Fence.wide n Try.prog 61 #[.slice none 0 0, .func (.func 54) #[] #[.pointer (some ⟨B, 0, none⟩)]] w fun e w' => ∃ A2 c2, e = .returned (.slice A2 fs.length c2) ∧ OwI w.heap.size w' (.slice A2 fs.length c2) fs ∧ Below w.heap.size w w' := by
  have Q := hide hq
  have HB := hide hB
  have K := hide (bal (brefl w) (.cells #[.slice none 0 0] 35))
  have X := hide (Box.new w 35 #[.slice none 0 0])
  clear hq hB
  refine callsIn_of_wp_marks Try.func61 rfl trivial ?_ rfl
  simp only [Try.ntmps61, List.size_toArray, List.length_cons, List.length_nil, Nat.reduceAdd, Nat.reduceSub, Array.replicate_succ, Array.replicate_zero, List.push_toArray, List.append_toArray, List.nil_append, List.cons_append]
  gi_wp2
  refine wpIn_rangeFunc_ownG rfl (by omega) (gf := 54) (lb := #[.pointer (some ⟨B, 0, none⟩)]) rfl trivial (enters_of Try.func54 (by kernel_rfl) rfl)
    (vals_stops _ B w.heap.size c (by omega) A fs w _ (by omega) Q.out HB.out rfl K.out) (fun h k => h.trans k) (belowK_b K.out.size) (Below.refl _ _) (fun _ => rfl)
    (AsI w) (fun _ _ _ => False) ?own (fun _ _ _ _ _ hs _ _ => hs) ?start (fun x => { tmps := #[Value.slice none 0 0, Value.func (Fn.func 54) #[] #[Value.pointer (some ⟨B, 0, none⟩)], Value.pointer (some ⟨w.heap.size, 0, none⟩), undef, Value.slice none 0 0, Value.int .i64 x, Value.func (Fn.func 54) #[] #[Value.pointer (some ⟨B, 0, none⟩)], Value.int .i64 x, undef, undef, undef, undef, undef], defers := [] }) ?assign ?body ?done ?stop
  case own =>
    rintro pre W W' row ⟨A1, c1, h1, h2, h3, h4⟩ hg hr
    have hc := Nc_grown hg (fun r e => (hr r e).2)
    exact ⟨A1, c1, hc _ _ _ h1, row_nc h2 hc, h3, h4.grown hg h4.size (fun r e => Nat.le_trans K.out.size (hr r e).1)⟩
  case start => exact ⟨none, 0, X.out, ow_nil _ _, by simp, K.out⟩
  case assign =>
    intro l x W K hK
    gi_wp2_with (rw [Oper.semAt_eq _ _ _ (fun c h => by cases h)]; go_simp; try go_bits)
    exact hK
  case body =>
    rintro l pre x wr ⟨A1, c1, h1, h2, h3, h4⟩ hlen
    obtain ⟨i0, hi0, hz0, hz1, hz2⟩ := info_parts info3
    have s1 := cell_box1 h1
    have M := bal (brefl wr) (.cells #[.int .i64 x] 3)
    have OA := hide (row_below h2 M)
    have NB := hide (cell_one_new wr (.int .i64 x) 3)
    have XA := hide (h1.below M)
    have SA := hide (show w.heap.size ≤ (wr.alloc (.cells #[.int .i64 x] 3)).heap.size by rw [alloc_size']; have := h4.size; omega)
    have KA := hide (btrans h4 M)
    have KO := hide (KeepsOthers.alloc wr (.cells #[.int .i64 x] 3))
    have hp : pre.length ≤ 1000 := by omega
    have H4 := hide h4.size
    obtain ⟨m, hm⟩ : ∃ m, m = pre.length := ⟨_, rfl⟩
    rw [← hm] at s1 OA XA hp
    have HM := hide hm
    clear h1 h2 h3 h4 hlen hm
    gi_wp2_with (first
      | (gi_at_builtin; refine wpListIn_append_own_at _ rfl (.tmp 8) (.tmp 10) 35 rfl w.heap.size 3 i0 _ 1 8 Try.underlying35 hi0 hz0 hz1 hz2 rfl (by omega) (.slice A1 m c1) m (pre.map ic) rfl OA.out ⟨wr.heap.size, 0, none⟩ 1 1 [.int .i64 x] rfl rfl NB.out (by intro u hu; rw [List.mem_singleton.1 hu]; rfl) (by simp only [maxLen]; omega) (by omega) SA.out ?_
         intro v4 w4 hown4 hg4 hnil4 hat4
         obtain ⟨A4, cp4, ev4, _⟩ := row_form hown4
         subst ev4
         have X4 := hide (XA.out.kp (Kp.grown OA.out hg4 (Nat.le_refl _) SA.out) (by decide))
         have s4 := cell_box1 X4.out
         have f4 := X4.out.frozen 0)
      | (rw [Oper.semAt_eq _ _ _ (fun c h => by cases h)]; go_simp; try go_bits))
    have e1 : (pre ++ [x]).length = m + 1 := by rw [List.length_append, HM.out]; rfl
    have B4 := below_grown OA.out hg4 SA.out
    have K4 := KA.out.trans B4
    refine ⟨((KO.out.trans (KeepsOthers.of_grownBy hg4 fun j o ej hj => ?_)).trans (KeepsOthers.setCell _ _ _)).from _, (((M.mono (Nat.le_trans (Nat.le_of_eq rfl) ?_)).trans B4).setCell (p := ⟨w.heap.size, 0, none⟩) (Nat.le_refl _) _), A4, cp4, ?_, ?_, ?_, bset K4 (p := ⟨w.heap.size, 0, none⟩) (Nat.le_refl _) _⟩
    · obtain ⟨_, ⟨e1, _⟩ | ⟨g, cap, cur, e1, _, hh, _⟩⟩ := OA.out
      · rw [e1] at ej; cases ej
      · rw [e1] at ej
        have : g = j := by simpa [Value.ownBlock] using ej
        subst this
        rw [hj] at hh; injection hh with hh; subst hh; rfl
    · have := SA.out
      have := H4.out
      omega
    · rw [e1]; exact X4.out.put 0 _
    · unfold OwI
      rw [e1, List.map_append]
      exact row_far hown4 (own_ne_box hown4 X4.out (by decide)) _
    · constructor
      · rintro rfl
        obtain ⟨_, ⟨_, h⟩ | ⟨_, _, _, h, _⟩⟩ := hown4
        · exact absurd h (by omega)
        · cases h
      · intro h; exact absurd h (by simp)
  case done =>
    rintro D xs W hD rfl ⟨A1, c1, h1, h2, h3, h4⟩ hd
    have s1 := cell_box1 h1
    have H2 := hide h2
    have H4 := hide h4
    clear h1 h2 h3 h4
    gi_wp2_with (rw [Oper.semAt_eq _ _ _ (fun c h => by cases h)]; go_simp; try go_bits)
    refine ⟨by simp, .inl ⟨_, _, rfl, run_takeDeferred hd, ?_⟩⟩
    have hn := Nc_grown (grownBy_putObj' W D (.deferred none)) (fun r e => by cases e; exact ⟨_, hd, rfl⟩)
    exact ⟨_, results_tmp rfl _ _ _, A1, c1, rfl, row_nc H2.out hn, H4.out.trans (belowK_b (w := w.alloc (.cells #[.slice none 0 0] 35)) K.out.size _ D _ _ hD hd rfl rfl)⟩
  case stop => rintro D cc pre W hD _ h _; exact h.elim
set_option maxRecDepth 100000 in
set_option maxHeartbeats 2000000 in
theorem col_any (n B c : Nat) (hn : 4 ≤ n) (A : Option Addr) (fs : Is) (w : World) (hreach : fs.length ≤ 1000) (hq : Bi w A fs) (hB : Box w B 35 #[.slice A fs.length c]) :
    CallsIn Fence.wide n Try.prog 52 #[.func (.func 54) #[] #[.pointer (some ⟨B, 0, none⟩)]] w fun e w' => ∃ A2 c2, e = .returned (.slice A2 fs.length c2) ∧ OwI w.heap.size w' (.slice A2 fs.length c2) fs ∧ Below w.heap.size w w' := by
  have hf : Fence.wide.fn 61 := trivial
  have C := hide (aps_any (n - 1) B c (by omega) A fs w hreach hq hB)
  clear hq hB
  refine callsIn_of_wp Try.func52 rfl trivial ?_ rfl
  simp only [Try.ntmps52, List.size_toArray, List.length_cons, List.length_nil, Nat.reduceAdd, Nat.reduceSub, Array.replicate_succ, Array.replicate_zero, List.push_toArray, List.append_toArray, List.nil_append, List.cons_append]
  gi_wp2_with fail
  refine ⟨fun _ => by omega, C.out.mono ?_⟩
  rintro e w' ⟨A2, c2, rfl, h, hb⟩
  gi_wp2
  go_ret
  exact ⟨A2, c2, rfl, h, hb⟩
/-- the sorted row -/
def srt (l : Is) : Is := l.mergeSort fun x y => decide (x ≤ y)
theorem srt_len (l : Is) : (srt l).length = l.length := by unfold srt; exact List.length_mergeSort ..
set_option maxRecDepth 100000 in
set_option maxHeartbeats 2000000 in
theorem sorted_in (n B c : Nat) (hn : 5 ≤ n) (A : Option Addr) (fs : Is) (w : World) (hreach : fs.length ≤ 1000) (hq : Bi w A fs) (hB : Box w B 35 #[.slice A fs.length c]) :
    CallsIn Fence.wide n Try.prog 42 #[.func (.func 54) #[] #[.pointer (some ⟨B, 0, none⟩)]] w fun e w' => ∃ A2 c2, e = .returned (.slice A2 (srt fs).length c2) ∧ OwI w.heap.size w' (.slice A2 (srt fs).length c2) (srt fs) ∧ Below w.heap.size w w' := by
  have hf : Fence.wide.fn 52 := trivial
  have hf2 : Fence.wide.fn 53 := trivial
  have C := hide (col_any (n - 1) B c (by omega) A fs w hreach hq hB)
  clear hq hB
  refine callsIn_of_wp Try.func42 rfl trivial ?_ rfl
  simp only [Try.ntmps42, List.size_toArray, List.length_cons, List.length_nil, Nat.reduceAdd, Nat.reduceSub, Array.replicate_succ, Array.replicate_zero, List.push_toArray, List.append_toArray, List.nil_append, List.cons_append]
  gi_wp2_with fail
  refine ⟨fun _ => by omega, C.out.mono ?_⟩
  rintro e w' ⟨A2, c2, rfl, h, hb⟩
  rcases h.2 with ⟨e0, hz⟩ | ⟨gb, cap, cur, e0, hbase, hgb, r1, r2, r3, r4⟩
  · obtain rfl : fs = [] := List.eq_nil_of_length_eq_zero hz
    injection e0 with e1 _ e2
    subst e1 e2
    have S := hide ((callsIn_wide (n := n - 1)).2 (Try.slices_Sort_int_none none 0 w'))
    gi_wp2_with fail
    refine ⟨fun _ => by omega, S.out.mono ?_⟩
    rintro e w2 ⟨rfl, rfl⟩
    gi_wp2
    go_ret
    have e0 : srt [] = [] := by simp [srt]
    rw [e0]
    exact ⟨_, _, rfl, ow_nil _ _, hb⟩
  · injection e0 with e1 _ e2
    subst e1 e2
    have hH := holds_of_blockI (ss := fs) hgb (show _ = fs.map ic by rw [Nat.mul_one] at r4; exact r4)
    have hgl := blk_lt hgb
    have S := hide ((callsIn_wide (n := n - 1)).2 (Try.slices_Sort_int gb 0 c2 fs w' hH hgl (by omega)))
    gi_wp2_with fail
    refine ⟨fun _ => by omega, S.out.mono ?_⟩
    rintro e w2 ⟨rfl, q, os, rfl⟩
    gi_wp2
    go_ret
    rw [srt_len]
    refine ⟨_, _, rfl, ?_, hb.grown (grownBy_sortedI _) hb.size (fun j hj => by cases hj; exact hbase)⟩
    have := ownsRow_sortedI (n := q) (os := os) (srt_len fs) hbase hgb r1 r2 r3
    unfold OwI
    rw [srt_len]
    exact this
theorem sorted_any (B c : Nat) (A : Option Addr) (fs : Is) (w : World) (hreach : fs.length ≤ 1000) (hq : Bi w A fs) (hB : Box w B 35 #[.slice A fs.length c]) :
    Calls Try.prog 42 #[.func (.func 54) #[] #[.pointer (some ⟨B, 0, none⟩)]] w fun e w' => ∃ A2 c2, e = .returned (.slice A2 (srt fs).length c2) ∧ OwI w.heap.size w' (.slice A2 (srt fs).length c2) (srt fs) ∧ Below w.heap.size w w' :=
  callsIn_wide.1 (sorted_in 5 B c (Nat.le_refl _) A fs w hreach hq hB)
end Go.Proofs.Ytncjicggolmofaa.Sb
