import Derived.Test.YtinoddpdfknkbabBg
/-
  DERIVED. slices.Backward: the iterator over a slice, from its end.
-/
namespace Go.Proofs.Ytinoddpdfknkbab.Pc
open Go Go.RowKit Go.Shelf
set_option linter.unusedVariables false
attribute [local go_sem] Oper.semAt_some
/-- what comes in round k: the index and the element -/
def bwp (l : Is) (k : Nat) : Int × Int := ((l.length : Int) - k - 1, l.getD (l.length - 1 - k) 0)
def bws (l : Is) (k : Nat) : List (Int × Int) := (List.range k).map (bwp l)
theorem bws_succ (l : Is) (k : Nat) : bws l (k + 1) = bws l k ++ [bwp l k] := by simp [bws, List.range_succ]
theorem bws_len (l : Is) (k : Nat) : (bws l k).length = k := by simp [bws]
theorem bws_snd (l : Is) : ∀ k, k ≤ l.length → (bws l k).map Prod.snd = (l.drop (l.length - k)).reverse
  | 0, _ => by simp [bws]
  | k + 1, h => by
    rw [bws_succ, List.map_append, bws_snd l k (by omega)]
    have e : l.length - k = (l.length - (k + 1)) + 1 := by omega
    have e2 : l.length - 1 - k = l.length - (k + 1) := by omega
    rw [e, drop_at (show l.length - (k + 1) < l.length by omega), List.reverse_cons]
    simp [bwp, e2]
/-- what a round keeps: all below n₀, and the box that holds the slice -/
def KpS (n₀ Bs : Nat) (W W' : World) : Prop := Below n₀ W W' ∧ ∀ cs, Box W Bs 34 cs → Box W' Bs 34 cs
theorem KpS.t {n₀ Bs : Nat} {A B C : World} (h : KpS n₀ Bs A B) (k : KpS n₀ Bs B C) : KpS n₀ Bs A C := ⟨h.1.trans k.1, fun cs hc => k.2 cs (h.2 cs hc)⟩
theorem KpS.b {n₀ Bs : Nat} {w : World} (hn : n₀ ≤ w.heap.size) (W : World) (l : Nat) (o o' : Obj) (hl : w.heap.size ≤ l) (h : W.heap[l]? = some o) (ho : o.isCells = false) (hw : o.isWalk = false) : KpS n₀ Bs W (W.putObj l o') :=
  ⟨belowK_b hn W l o o' hl h ho hw, fun cs hc => by
    have hne : Bs ≠ l := by
      rintro rfl
      unfold Box at hc
      rw [hc] at h; injection h with h; subst h; cases ho
    unfold Box at hc ⊢
    exact (World.putObj_heap_other hne).trans hc⟩
set_option maxRecDepth 100000 in
set_option maxHeartbeats 2000000 in
theorem bw1_in (n l Bs n₀ c : Nat) (hn : 1 ≤ n) (A : Option Addr) (fs : Is) (w0 : World) (hreach : fs.length ≤ 100000) (hq : Bi w0 A fs) (hn₀ : n₀ = w0.heap.size) (J Jx : List (Int × Int) → World → Prop)
    (hY : ∀ pre x W, J pre W → pre.length < fs.length → YieldAt Fence.wide (n - 1) Try.prog l #[.int .i64 x.1, .int .i64 x.2] W fun e W' =>
      (e = .returned (.bool true) ∧ J (pre ++ [x]) W' ∧ KpS n₀ Bs W W') ∨ (e = .returned (.bool false) ∧ Jx (pre ++ [x]) W'))
    (W : World) (hb : Below n₀ w0 W) (hBs : Box W Bs 34 #[.slice A fs.length c]) (h0 : J [] W) :
    CallsIn Fence.wide n Try.prog 41 #[.func (.yield l) #[] #[], .pointer (some ⟨Bs, 0, none⟩)] W fun e W' => (∃ v, e = .returned v) ∧
      ((∃ ys, ys = bws fs fs.length ∧ J ys W') ∨ (∃ pre, True ∧ Jx pre W')) := by
  have s1 := cell_box1 hBs
  have HB := hide hBs
  have Q := hide hq
  have HBW := hide hb
  have HN := hide hn₀
  clear hBs hq hb hn₀
  refine callsIn_of_wp Try.func41 rfl trivial ?_ rfl
  simp only [Try.ntmps41, List.size_toArray, List.length_cons, List.length_nil, Nat.reduceAdd, Nat.reduceSub, Array.replicate_succ, Array.replicate_zero, List.push_toArray, List.append_toArray, List.nil_append, List.cons_append]
  gi_wp2
  clear s1
  gi_loopw [3] (fun i wr => ∃ (k : Nat) (i0 : Int), k ≤ fs.length ∧ i = .int .i64 i0 ∧ i0 = (fs.length : Int) - k - 1 ∧ J (bws fs k) wr ∧ Hid (Below n₀ w0 wr) ∧ Hid (Box wr Bs 34 #[.slice A fs.length c])) (fun i _ => (intOf i + 1).toNat)
  case atStart => exact ⟨0, _, Nat.zero_le _, rfl, by simp, h0, HBW, HB⟩
  case round =>
    obtain ⟨k, i0, hk, rfl, hi0, hJs, K, X⟩ := hrel
    by_cases hlt : k < fs.length
    · obtain ⟨p, hp⟩ : ∃ p, p = fs.length - 1 - k := ⟨_, rfl⟩
      have hpl : p < fs.length := by omega
      obtain rfl : i0 = (p : Int) := by omega
      obtain ⟨fn, tmps, assign, body, hy, hR⟩ := hY _ (bwp fs k) wr hJs (by rw [bws_len]; exact hlt)
      have hb1 : (bwp fs k).1 = (p : Int) := by unfold bwp; show (fs.length : Int) - k - 1 = p; omega
      have hb2 : (bwp fs k).2 = fs.getD p 0 := by unfold bwp; rw [hp]
      rw [hb1, hb2] at hy
      obtain ⟨b2, o2, rfl, hl2, x2⟩ := Q.out.cells (HN.out ▸ K.out) hpl
      have s1 := cell_box1 X.out
      have hp0 : (0 : Int) ≤ (p : Int) := by omega
      generalize fs.getD p 0 = z at *
      have RR := hide hR
      have HPI := hide (And.intro hi0 (And.intro hp (And.intro hb1 hb2)))
      clear hi0 hp hb1 hb2 hR
      gi_wp2
      refine RR.out.mono ?_
      rintro e W3 (⟨rfl, hJ3, hk3⟩ | ⟨rfl, hJx3⟩)
      · gi_wp2
        go_roundw
        case rel => exact ⟨k + 1, _, by omega, rfl, by have := HPI.out.1; omega, by rw [bws_succ]; exact hJ3, hide (K.out.trans hk3.1), hide (hk3.2 _ X.out)⟩
        case measure => simp [intOf]
      · gi_wp2
        refine bodyPost_ret (results_none rfl _ _ _) rfl ?_
        exact ⟨⟨_, rfl⟩, .inr ⟨_, trivial, hJx3⟩⟩
    · obtain rfl : k = fs.length := by omega
      have hneg : i0 < 0 := by omega
      have hd : decide (0 ≤ i0) = false := decide_eq_false (by omega)
      clear hi0
      gi_wp2
      go_end0
      exact ⟨⟨_, rfl⟩, .inl ⟨_, rfl, hJs⟩⟩
theorem bw_any (A : Option Addr) (m c : Nat) (w : World) : Calls Try.prog 40 #[.slice A m c] w fun e w' => e = .returned (.func (.func 41) #[] #[.pointer (some ⟨w.heap.size, 0, none⟩)]) ∧ w.alloc (.cells #[.slice A m c] 34) = w' := by
  go_enter Try.func40, Try.ntmps40
  go_wp2
  go_ret
  exact ⟨rfl, rfl⟩
theorem bw_stops (n Bs n₀ c : Nat) (hn : 1 ≤ n) (A : Option Addr) (fs : Is) (w0 w : World) (hreach : fs.length ≤ 100000) (hq : Bi w0 A fs) (hn₀ : n₀ = w0.heap.size) (hb : Below n₀ w0 w) (hBs : Box w Bs 34 #[.slice A fs.length c]) :
    SeqStopsK Fence.wide n Try.prog 41 #[.pointer (some ⟨Bs, 0, none⟩)] (fun x : Int × Int => #[Value.int .i64 x.1, Value.int .i64 x.2]) (KpS n₀ Bs) (fun ys => ys = bws fs fs.length) (fun _ => True) fs.length w := fun l J Jx W hW _ _ hY h0 =>
  bw1_in n l Bs n₀ c hn A fs w0 hreach hq hn₀ J Jx hY W (hb.trans (hW.mono (by rw [hn₀]; rw [hn₀] at hb; exact hb.size))) (hBs.below hW) h0
end Go.Proofs.Ytinoddpdfknkbab.Pc
