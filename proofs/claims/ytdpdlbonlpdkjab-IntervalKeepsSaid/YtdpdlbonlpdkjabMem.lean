import Derived.Test.YtdpdlbonlpdkjabRows
import Derived.Test.YtdpdlbonlpdkjabMath
import Derived.Test.YtdpdlbonlpdkjabMerge0
import Derived.WalkKit
import Derived.WalkSpells
import Derived.WalkLawsBesides
import Derived.LoopTactic
import Derived.Deep.QuietTactic
import Derived.BigQuiet
import Derived.Outline
import Derived.Below
import Derived.Deep.RegionHeld3
import Derived.Deep.OwnRows
import Derived.Laws.OwnMore
namespace Go.Proofs.Ytdpdlbonlpdkjab.Iv
open Go Go.RowKit
set_option linter.unusedVariables false
theorem hide {p : Prop} (h : p) : Hid p := h
theorem ret_int {k : IntKind} {a b : Int} (h : a = b) : Ending.returned (.int k a) = .returned (.int k b) := by rw [h]
theorem ret_bool {a b : Bool} (h : a = b) : Ending.returned (.bool a) = .returned (.bool b) := by rw [h]
theorem bcell {W w1 : World} (hb : Below W.heap.size W w1) : (∀ b o, b < W.heap.size → w1.cell? ⟨b, o, none⟩ = W.cell? ⟨b, o, none⟩) ∧ (∀ b o, b < W.heap.size → w1.frozen? ⟨b, o, none⟩ = W.frozen? ⟨b, o, none⟩) :=
  ⟨fun b o h => hb.cell (p := ⟨b, o, none⟩) h, fun b o h => hb.frozen (p := ⟨b, o, none⟩) h⟩
theorem bal {a w : World} (h : Below a.heap.size a w) (o : Obj) : Below a.heap.size a (w.alloc o) := h.alloc h.size o
theorem bset {a w : World} (h : Below a.heap.size a w) {p : Addr} (hp : a.heap.size ≤ p.block) (v : Value) : Below a.heap.size a (w.setCell p v) := h.setCell hp v
theorem brefl (a : World) : Below a.heap.size a a := Below.refl _ _
theorem btrans {a b c : World} (h : Below a.heap.size a b) (k : Below b.heap.size b c) : Below a.heap.size a c := h.trans (k.mono h.size)
theorem below_drewN {B : Nat} {a w : World} (h : Below B a w) (n : Nat) : Below B a (w.drewN n) := ⟨h.os, h.tape, h.output, h.size, h.block⟩
/-- A slice that reads as a list of intervals, nil let in. -/
def Iv (w : World) (A : Option Addr) (L : IL) : Prop :=
  L ≠ [] → ∃ b off, A = some ⟨b, off, none⟩ ∧ b < w.heap.size ∧ ∀ k, k < L.length → w.cell? ⟨b, off + k * 2, none⟩ = some (.int .i64 (pairAt L k).1) ∧ w.cell? ⟨b, off + k * 2 + 1, none⟩ = some (.int .i64 (pairAt L k).2)
theorem Iv.below {w w' : World} {A : Option Addr} {L : IL} (h : Iv w A L) (hb : Below w.heap.size w w') : Iv w' A L := fun hn => by
  obtain ⟨b, off, e, hlt, hc⟩ := h hn
  exact ⟨b, off, e, Nat.lt_of_lt_of_le hlt hb.size, fun k hk => ⟨(hb.cell (p := ⟨b, off + k * 2, none⟩) hlt).trans (hc k hk).1, (hb.cell (p := ⟨b, off + k * 2 + 1, none⟩) hlt).trans (hc k hk).2⟩⟩
theorem edge_any (A : Option Addr) (L : IL) (c i : Nat) (w : World) (hr : Iv w A L) (hn : L.length ≤ 3000) (hi : i < 2 * L.length) :
    Calls Try.prog 53 #[.slice A L.length c, .int .i64 i] w fun e w' => e = .returned (.int .i64 (edg L i)) ∧ w = w' := by
  obtain ⟨b, off, rfl, hb, hc⟩ := hr (by intro e; simp [e] at hi)
  obtain ⟨c0, c1⟩ := hc (i / 2) (by omega)
  have hd : ((i : Int) / 2).toNat = i / 2 := by omega
  have hg : (i : Int) / 2 < (L.length : Int) := by omega
  have hz : (0 : Int) ≤ (i : Int) / 2 := by omega
  have hlt : i / 2 < L.length := by omega
  clear hc hr
  by_cases hp : i % 2 = 0
  · have e1 : edg L i = (pairAt L (i / 2)).1 := by unfold edg; rw [← edges_even]; congr 1; omega
    have h1 : ((i : Int) % 2 == 0) = true := by rw [beq_iff_eq]; omega
    rw [e1]
    generalize (pairAt L (i / 2)).1 = x at *
    generalize L.length = n at *
    clear e1 c1
    go_enter Try.func53, Try.ntmps53
    go_wp2
    go_ret
    exact ⟨rfl, rfl⟩
  · have e1 : edg L i = (pairAt L (i / 2)).2 := by unfold edg; rw [← edges_odd]; congr 1; omega
    have h1 : ((i : Int) % 2 == 0) = false := by rw [beq_eq_false_iff_ne]; omega
    rw [e1]
    generalize (pairAt L (i / 2)).2 = x at *
    generalize L.length = n at *
    clear e1 c0
    go_enter Try.func53, Try.ntmps53
    go_wp2
    go_ret
    exact ⟨rfl, rfl⟩
theorem near_any (A B : Option Addr) (L M : IL) (c d i j : Nat) (w : World) (hr : Iv w A L) (hs : Iv w B M) (hn : L.length ≤ 3000) (hm : M.length ≤ 3000) (hi : i ≤ 2 * L.length) (hj : j ≤ 2 * M.length) (hij : i < 2 * L.length ∨ j < 2 * M.length) :
    Calls Try.prog 52 #[.slice A L.length c, .int .i64 i, .slice B M.length d, .int .i64 j] w fun e w' => e = .returned (.int .i64 (nearE L M i j)) ∧ w = w' := by
  have H1 := hide (fun h => edge_any A L c i w hr hn h)
  have H2 := hide (fun h => edge_any B M d j w hs hm h)
  have HL : ((2 : Int) * L.length) = ((2 * L.length : Nat) : Int) := by omega
  clear hr hs
  by_cases cj : j = 2 * M.length
  · have hi' : i < 2 * L.length := by omega
    have e1 : nearE L M i j = edg L i := by unfold nearE; rw [if_pos cj]
    have t1 : ((j : Int) == 2 * (M.length : Int)) = true := by rw [beq_iff_eq]; omega
    rw [e1]
    clear cj e1 HL H2
    go_enter Try.func52, Try.ntmps52
    go_wp2_with (go_at_call 53; refine (H1.out hi').mono ?_; rintro e w' ⟨rfl, rfl⟩)
    go_ret
    exact ⟨rfl, rfl⟩
  · have t1 : ((j : Int) == 2 * (M.length : Int)) = false := by rw [beq_eq_false_iff_ne]; omega
    have hj' : j < 2 * M.length := by omega
    by_cases ci : i = 2 * L.length
    · have e1 : nearE L M i j = edg M j := by unfold nearE; rw [if_neg cj, if_pos ci]
      have t2 : ((i : Int) == 2 * (L.length : Int)) = true := by rw [beq_iff_eq]; omega
      rw [e1]
      clear ci cj e1 HL H1
      go_enter Try.func52, Try.ntmps52
      go_wp2_with (go_at_call 53; refine (H2.out hj').mono ?_; rintro e w' ⟨rfl, rfl⟩)
      go_ret
      exact ⟨rfl, rfl⟩
    · have e1 : nearE L M i j = min (edg L i) (edg M j) := by unfold nearE; rw [if_neg cj, if_neg ci]
      have t2 : ((i : Int) == 2 * (L.length : Int)) = false := by rw [beq_eq_false_iff_ne]; omega
      have hi' : i < 2 * L.length := by omega
      rw [e1]
      clear ci cj e1 HL
      go_enter Try.func52, Try.ntmps52
      go_wp2_with fail
      refine (H1.out hi').mono ?_
      rintro e w' ⟨rfl, rfl⟩
      go_wp2_with fail
      refine (H2.out hj').mono ?_
      rintro e w' ⟨rfl, rfl⟩
      go_wp2_with fail
      all_goals
        go_ret
        exact ⟨ret_int (by omega), rfl⟩
theorem either_any (x y : Bool) (w : World) : Calls Try.prog 41 #[.bool x, .bool y] w fun e w' => e = .returned (.bool (x || y)) ∧ w = w' := by
  cases x <;> cases y
  all_goals
    go_enter Try.func41, Try.ntmps41
    go_wp2
    go_ret
    exact ⟨rfl, rfl⟩
theorem both_any (x y : Bool) (w : World) : Calls Try.prog 42 #[.bool x, .bool y] w fun e w' => e = .returned (.bool (x && y)) ∧ w = w' := by
  cases x <;> cases y
  all_goals
    go_enter Try.func42, Try.ntmps42
    go_wp2
    go_ret
    exact ⟨rfl, rfl⟩
theorem onlyFirst_any (x y : Bool) (w : World) : Calls Try.prog 43 #[.bool x, .bool y] w fun e w' => e = .returned (.bool (x && !y)) ∧ w = w' := by
  cases x <;> cases y
  all_goals
    go_enter Try.func43, Try.ntmps43
    go_wp2
    go_ret
    exact ⟨rfl, rfl⟩
theorem list_some (f t : Int) (w : World) (h : f ≠ t) :
    Calls Try.prog 48 #[.agg #[.int .i64 f, .int .i64 t]] w fun e w' => ∃ A c, e = .returned (.slice A 1 c) ∧ Iv w' A [(f, t)] ∧ Below w.heap.size w w' := by
  have h1 : (f == t) = false := by simpa using h
  clear h
  go_enter Try.func48, Try.ntmps48
  go_wp2
  go_ret
  refine ⟨_, _, rfl, fun _ => ⟨_, _, rfl, ?_, fun k hk => ?_⟩, ?_⟩
  · simp
  · obtain rfl : k = 0 := by simpa using hk
    simp [go_sem, pairAt]
  · exact bal (bal (brefl _) _) _
theorem list_none (f : Int) (w : World) :
    Calls Try.prog 48 #[.agg #[.int .i64 f, .int .i64 f]] w fun e w' => e = .returned (.slice none 0 0) ∧ Below w.heap.size w w' := by
  go_enter Try.func48, Try.ntmps48
  go_wp2
  go_ret
  exact ⟨rfl, bal (brefl _) _⟩
end Go.Proofs.Ytdpdlbonlpdkjab.Iv
