import Derived.Test.YtclkflnonckajaaBg
/-
  DERIVED. slices.Backward over accounts: the iterator, from the last account.
-/
namespace Go.Proofs.Ytclkflnonckajaa.Ac
open Go Go.RowKit Go.Shelf
set_option linter.unusedVariables false
attribute [local go_sem] Oper.semAt_some
theorem cell_box1 {w : World} {g : Nat} {t : TypeId} {v : Value} (h : Box w g t #[v]) : w.cell? ⟨g, 0, none⟩ = some v := h.cell 0
/-- the accounts that have come behind k rounds: from the last one down -/
def bws (N : Nat) (h : 0 < N) (k : Nat) : List (Fin N) := (List.range k).map fun r => ⟨N - 1 - r, by omega⟩
theorem bws_succ (N : Nat) (h : 0 < N) (k : Nat) : bws N h (k + 1) = bws N h k ++ [⟨N - 1 - k, by omega⟩] := by simp [bws, List.range_succ]
theorem bws_len (N : Nat) (h : 0 < N) (k : Nat) : (bws N h k).length = k := by simp [bws]
/-- what a round keeps: all below n₀, and the box that holds the slice -/
def KpS (n₀ Bs : Nat) (W W' : World) : Prop := Below n₀ W W' ∧ ∀ cs, Box W Bs 22 cs → Box W' Bs 22 cs
theorem KpS.t {n₀ Bs : Nat} {A B C : World} (h : KpS n₀ Bs A B) (k : KpS n₀ Bs B C) : KpS n₀ Bs A C := ⟨h.1.trans k.1, fun cs hc => k.2 cs (h.2 cs hc)⟩
theorem KpS.r {n₀ Bs : Nat} (A : World) : KpS n₀ Bs A A := ⟨Below.refl _ _, fun cs hc => hc⟩
theorem KpS.b {n₀ Bs : Nat} {w : World} (hn : n₀ ≤ w.heap.size) (W : World) (l : Nat) (o o' : Obj) (hl : w.heap.size ≤ l) (h : W.heap[l]? = some o) (ho : o.isCells = false) (hw : o.isWalk = false) : KpS n₀ Bs W (W.putObj l o') :=
  ⟨belowK_b hn W l o o' hl h ho hw, fun cs hc => by
    have hne : Bs ≠ l := by
      rintro rfl
      unfold Box at hc
      rw [hc] at h; injection h with h; subst h; cases ho
    unfold Box at hc ⊢
    exact (World.putObj_heap_other hne).trans hc⟩
set_option maxRecDepth 100000 in
set_option maxHeartbeats 2000000 in
theorem bw1_in (n l Bs n₀ c : Nat) (hn : 1 ≤ n) (A : Option Addr) (L : List A5) (hL : 0 < L.length) (w0 : World) (hreach : L.length ≤ 100000) (hq : As w0 A L) (hn₀ : n₀ = w0.heap.size) (J Jx : List (Fin L.length) → World → Prop)
    (hY : ∀ pre x W, J pre W → pre.length < L.length → YieldAt Fence.wide (n - 1) Try.prog l #[.int .i64 ((x.val : Nat) : Int), acV (aAt L x.val)] W fun e W' =>
      (e = .returned (.bool true) ∧ J (pre ++ [x]) W' ∧ KpS n₀ Bs W W') ∨ (e = .returned (.bool false) ∧ Jx (pre ++ [x]) W'))
    (W : World) (hb : Below n₀ w0 W) (hBs : Box W Bs 22 #[.slice A L.length c]) (h0 : J [] W) :
    CallsIn Fence.wide n Try.prog 90 #[.func (.yield l) #[] #[], .pointer (some ⟨Bs, 0, none⟩)] W fun e W' => (∃ v, e = .returned v) ∧
      ((∃ ys, ys = bws L.length hL L.length ∧ J ys W') ∨ (∃ pre, True ∧ Jx pre W')) := by
  have s1 := cell_box1 hBs
  have HB := hide hBs
  have Q := hide hq
  have HBW := hide hb
  have HN := hide hn₀
  clear hBs hq hb hn₀
  refine callsIn_of_wp Try.func90 rfl trivial ?_ rfl
  simp only [Try.ntmps90, List.size_toArray, List.length_cons, List.length_nil, Nat.reduceAdd, Nat.reduceSub, Array.replicate_succ, Array.replicate_zero, List.push_toArray, List.append_toArray, List.nil_append, List.cons_append]
  gi_wp2
  clear s1
  gi_loopw [3] (fun i wr => ∃ (k : Nat) (i0 : Int), k ≤ L.length ∧ i = .int .i64 i0 ∧ i0 = (L.length : Int) - k - 1 ∧ J (bws L.length hL k) wr ∧ Hid (Below n₀ w0 wr) ∧ Hid (Box wr Bs 22 #[.slice A L.length c])) (fun i _ => (intOf i + 1).toNat)
  case atStart => exact ⟨0, _, Nat.zero_le _, rfl, by simp, h0, HBW, HB⟩
  case round =>
    obtain ⟨k, i0, hk, rfl, hi0, hJs, K, X⟩ := hrel
    by_cases hlt : k < L.length
    · obtain ⟨p, hp⟩ : ∃ p, p = L.length - 1 - k := ⟨_, rfl⟩
      have hpl : p < L.length := by omega
      obtain rfl : i0 = (p : Int) := by omega
      obtain ⟨fn, tmps, assign, body, hy, hR⟩ := hY _ (⟨p, hpl⟩ : Fin L.length) wr hJs (by rw [bws_len]; exact hlt)
      have HNX := hide (show bws L.length hL (k + 1) = bws L.length hL k ++ [(⟨p, hpl⟩ : Fin L.length)] by rw [bws_succ]; congr 1; subst hp; rfl)
      obtain ⟨b2, o2, rfl, hl2, y0, y1, y2, y3, y4⟩ := Q.out.cells (HN.out ▸ K.out) hpl
      have s1 := cell_box1 X.out
      have hp0 : (0 : Int) ≤ (p : Int) := by omega
      have hpl2 : (p : Int) < (L.length : Int) := by omega
      unfold acV at hy
      unfold pa at y0; unfold us at y1; unfold mn at y2; unfold lo at y3; unfold mx at y4
      simp only at hy
      generalize (aAt L p).pa = a0 at *
      generalize (aAt L p).us = a1 at *
      generalize (aAt L p).mn = a2 at *
      generalize (aAt L p).lo = a3 at *
      generalize (aAt L p).mx = a4 at *
      have RR := hide hR
      have HPI := hide (And.intro hi0 hp)
      clear hi0 hp hR
      gi_wp2
      refine RR.out.mono ?_
      rintro e W3 (⟨rfl, hJ3, hk3⟩ | ⟨rfl, hJx3⟩)
      · gi_wp2
        go_roundw
        case rel => exact ⟨k + 1, _, by omega, rfl, by have := HPI.out.1; omega, by rw [HNX.out]; exact hJ3, hide (K.out.trans hk3.1), hide (hk3.2 _ X.out)⟩
        case measure => simp [intOf]
      · gi_wp2
        refine bodyPost_ret (results_none rfl _ _ _) rfl ?_
        exact ⟨⟨_, rfl⟩, .inr ⟨_, trivial, hJx3⟩⟩
    · obtain rfl : k = L.length := by omega
      have hneg : i0 < 0 := by omega
      have hd : decide (0 ≤ i0) = false := decide_eq_false (by omega)
      clear hi0
      gi_wp2
      go_end0
      exact ⟨⟨_, rfl⟩, .inl ⟨_, rfl, hJs⟩⟩
theorem bw_any (A : Option Addr) (m c : Nat) (w : World) : Calls Try.prog 83 #[.slice A m c] w fun e w' => e = .returned (.func (.func 90) #[] #[.pointer (some ⟨w.heap.size, 0, none⟩)]) ∧ w.alloc (.cells #[.slice A m c] 22) = w' := by
  go_enter Try.func83, Try.ntmps83
  go_wp2
  go_ret
  exact ⟨rfl, rfl⟩
theorem bw_stops (n Bs n₀ c : Nat) (hn : 1 ≤ n) (A : Option Addr) (L : List A5) (hL : 0 < L.length) (w0 w : World) (hreach : L.length ≤ 100000) (hq : As w0 A L) (hn₀ : n₀ = w0.heap.size) (hb : Below n₀ w0 w) (hBs : Box w Bs 22 #[.slice A L.length c]) :
    SeqStopsK Fence.wide n Try.prog 90 #[.pointer (some ⟨Bs, 0, none⟩)] (fun x : Fin L.length => #[Value.int .i64 ((x.val : Nat) : Int), acV (aAt L x.val)]) (KpS n₀ Bs) (fun ys => ys = bws L.length hL L.length) (fun _ => True) L.length w := fun l J Jx W hW _ _ hY h0 =>
  bw1_in n l Bs n₀ c hn A L hL w0 hreach hq hn₀ J Jx hY W (hb.trans (hW.mono (by rw [hn₀]; rw [hn₀] at hb; exact hb.size))) (hBs.below hW) h0
end Go.Proofs.Ytclkflnonckajaa.Ac
