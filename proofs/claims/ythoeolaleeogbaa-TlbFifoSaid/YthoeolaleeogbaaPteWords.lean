import Derived.Test.YthoeolaleeogbaaRows
import Derived.Test.YthoeolaleeogbaaPteBits
import Derived.WalkKit
import Derived.WalkSpells
import Derived.WalkLawsBesides
import Derived.LoopTactic
import Derived.Deep.QuietTactic
import Derived.BigQuiet
import Derived.Outline
import Derived.Below
import Derived.Deep.RegionHeld3
import Derived.Laws.StructEq
namespace Go.Proofs.Ythoeolaleeogbaa.Pt
open Go Go.RowKit
set_option linter.unusedVariables false
theorem hide {p : Prop} (h : p) : Hid p := h
theorem ret_int {k : IntKind} {a b : Int} (h : a = b) : Ending.returned (.int k a) = .returned (.int k b) := by rw [h]
theorem ret_bool {a b : Bool} (h : a = b) : Ending.returned (.bool a) = .returned (.bool b) := by rw [h]
theorem ret_pair {k l : IntKind} {a b c d : Int} (h : a = b) (g : c = d) : Ending.returned (.tuple #[.int k a, .int l c]) = .returned (.tuple #[.int k b, .int l d]) := by rw [h, g]
theorem bal {a w : World} (h : Below a.heap.size a w) (o : Obj) : Below a.heap.size a (w.alloc o) := h.alloc h.size o
theorem bset {a w : World} (h : Below a.heap.size a w) {p : Addr} (hp : a.heap.size ≤ p.block) (v : Value) : Below a.heap.size a (w.setCell p v) := h.setCell hp v
theorem brefl (a : World) : Below a.heap.size a a := Below.refl _ _
theorem btrans {a b c : World} (h : Below a.heap.size a b) (k : Below b.heap.size b c) : Below a.heap.size a c := h.trans (k.mono h.size)
theorem bcell {W w1 : World} (hb : Below W.heap.size W w1) : (∀ b o, b < W.heap.size → w1.cell? ⟨b, o, none⟩ = W.cell? ⟨b, o, none⟩) ∧ (∀ b o, b < W.heap.size → w1.frozen? ⟨b, o, none⟩ = W.frozen? ⟨b, o, none⟩) :=
  ⟨fun b o h => hb.cell (p := ⟨b, o, none⟩) h, fun b o h => hb.frozen (p := ⟨b, o, none⟩) h⟩
theorem below_drewN {B : Nat} {a w : World} (h : Below B a w) (n : Nat) : Below B a (w.drewN n) := ⟨h.os, h.tape, h.output, h.size, h.block⟩
theorem quiet_left {P : Program} {f : FuncId} {args : Array Value} {w : World} {n : Nat} {v : Value}
    (h : Calls P f args (w.drewN n) fun e w' => e = .returned v ∧ w.drewN n = w') : Calls P f args (w.drewN n) fun e w'' => e = .returned v ∧ ∃ m, w'' = w.drewN m :=
  h.mono fun _ _ ⟨he, hm⟩ => ⟨he, n, hm.symm⟩
/-- an entry as a value -/
def ev (k n : Int) (wr ac di hu : Bool) : Value := .agg #[.int .i64 k, .int .i64 n, .bool wr, .bool ac, .bool di, .bool hu]
theorem flag_any (b : Bool) (m : Int) (w : World) : Calls Try.prog 68 #[.bool b, .int .u64 m] w fun e w' => e = .returned (.int .u64 (b2 b * m)) ∧ w = w' := by
  cases b
  · go_enter Try.func68, Try.ntmps68
    go_wp2
    go_ret
    exact ⟨ret_int (by simp [b2]), rfl⟩
  · go_enter Try.func68, Try.ntmps68
    go_wp2
    go_ret
    exact ⟨ret_int (by simp [b2]), rfl⟩
theorem bit_any (b : Bool) (m : Int) (w : World) : Calls Try.prog 67 #[.bool b, .int .u64 m] w fun e w' => e = .returned (.int .u64 (b2 b * m)) ∧ w = w' := by
  cases b
  · go_enter Try.func67, Try.ntmps67
    go_wp2
    go_ret
    exact ⟨ret_int (by simp [b2]), rfl⟩
  · go_enter Try.func67, Try.ntmps67
    go_wp2
    go_ret
    exact ⟨ret_int (by simp [b2]), rfl⟩
theorem kind_any (k : Int) (w : World) : Calls Try.prog 62 #[.int .i64 k] w fun e w' => e = .returned (.bool (decide (0 ≤ k ∧ k ≤ 4))) ∧ w = w' := by
  go_enter Try.func62, Try.ntmps62
  go_wp2
  all_goals go_ret
  all_goals exact ⟨ret_bool (by rw [Bool.eq_iff_iff]; simp <;> omega), rfl⟩
theorem last_any (k n : Int) (wr ac di hu : Bool) (w : World) :
    Calls Try.prog 63 #[.agg #[.int .i64 k, .int .i64 n, .bool wr, .bool ac, .bool di, .bool hu]] w fun e w' => e = .returned (.int .i64 (last k hu)) ∧ Below w.heap.size w w' := by
  unfold last
  by_cases h : k = 1
  · subst h
    cases hu
    · go_enter Try.func63, Try.ntmps63
      go_wp2
      go_ret
      exact ⟨ret_int (by simp), bal (brefl _) _⟩
    · go_enter Try.func63, Try.ntmps63
      go_wp2
      go_ret
      exact ⟨ret_int (by simp), bal (brefl _) _⟩
  · have hk : (k == 1) = false := by simpa using h
    go_enter Try.func63, Try.ntmps63
    go_wp2
    go_ret
    exact ⟨ret_int (by simp), bal (brefl _) _⟩
theorem suits_any (k n : Int) (wr ac di hu : Bool) (w : World) (hk : 0 ≤ k ∧ k ≤ 4) :
    Calls Try.prog 64 #[.agg #[.int .i64 k, .int .i64 n, .bool wr, .bool ac, .bool di, .bool hu]] w fun e w' => e = .returned (.bool (suits k n wr ac di hu)) ∧ Below w.heap.size w w' := by
  by_cases h0 : k = 0
  · subst h0
    go_enter Try.func64, Try.ntmps64
    go_wp2
    all_goals go_ret
    all_goals exact ⟨ret_bool (by simp_all [suits]), bal (brefl _) _⟩
  by_cases h1 : k = 1
  · subst h1
    go_enter Try.func64, Try.ntmps64
    go_wp2
    all_goals go_ret
    all_goals exact ⟨ret_bool (by simp_all [suits]), bal (brefl _) _⟩
  by_cases h2 : k = 2
  · subst h2
    go_enter Try.func64, Try.ntmps64
    go_wp2
    all_goals go_ret
    all_goals exact ⟨ret_bool (by simp_all [suits]), bal (brefl _) _⟩
  by_cases h3 : k = 3
  · subst h3
    go_enter Try.func64, Try.ntmps64
    go_wp2
    all_goals go_ret
    all_goals exact ⟨ret_bool (by simp_all [suits]), bal (brefl _) _⟩
  by_cases h4 : k = 4
  · subst h4
    go_enter Try.func64, Try.ntmps64
    go_wp2
    all_goals go_ret
    all_goals exact ⟨ret_bool (by simp_all [suits]), bal (brefl _) _⟩
  exfalso; omega
theorem form_any (k n : Int) (wr ac di hu : Bool) (w : World) (hk : 0 ≤ k ∧ k ≤ 4) :
    Calls Try.prog 66 #[.agg #[.int .i64 k, .int .i64 n, .bool wr, .bool ac, .bool di, .bool hu]] w fun e w' => e = .returned (.bool (suits k n wr ac di hu)) ∧ Below w.heap.size w w' := by
  by_cases h0 : k = 0
  · subst h0
    go_enter Try.func66, Try.ntmps66
    go_wp2
    all_goals go_ret
    all_goals exact ⟨ret_bool (by simp_all [suits]), bal (brefl _) _⟩
  by_cases h1 : k = 1
  · subst h1
    go_enter Try.func66, Try.ntmps66
    go_wp2
    all_goals go_ret
    all_goals exact ⟨ret_bool (by simp_all [suits]), bal (brefl _) _⟩
  by_cases h2 : k = 2
  · subst h2
    go_enter Try.func66, Try.ntmps66
    go_wp2
    all_goals go_ret
    all_goals exact ⟨ret_bool (by simp_all [suits]), bal (brefl _) _⟩
  by_cases h3 : k = 3
  · subst h3
    go_enter Try.func66, Try.ntmps66
    go_wp2
    all_goals go_ret
    all_goals exact ⟨ret_bool (by simp_all [suits]), bal (brefl _) _⟩
  by_cases h4 : k = 4
  · subst h4
    go_enter Try.func66, Try.ntmps66
    go_wp2
    all_goals go_ret
    all_goals exact ⟨ret_bool (by simp_all [suits]), bal (brefl _) _⟩
  exfalso; omega
end Go.Proofs.Ythoeolaleeogbaa.Pt
