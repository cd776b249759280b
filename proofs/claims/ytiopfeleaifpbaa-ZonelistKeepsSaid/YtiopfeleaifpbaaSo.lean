import Derived.Test.YtiopfeleaifpbaaSh
import Derived.Test.YtiopfeleaifpbaaZx
import Derived.Sort.OwnSortedInts
import Derived.Shelf.SlicesE.Kit
namespace Go.Proofs.Ytiopfeleaifpbaa.Bd
open Go Go.RowKit Go.Sort Go.Lib
set_option linter.unusedVariables false
theorem one_fin (n : Nat) : OneCell (fun x : Fin n => Value.int .i64 ((x.val : Nat) : Int)) := fun x => rfl

/-- what the comparator answers is all that the sort needs: fewer than 20 elements are sorted by insertion -/
theorem ins_any {α : Type} [Inhabited α] (enc : α → Value) (hO : OneCell enc) (cf : α → α → Int) (g : Nat) (cb : Array Value) (blk off cap a b : Nat) (d : Array α) (w : World)
    (eg : ∀ args w, (callFunc g args).run Try.prog w = .ok (.enter g args) w) (hcmp : CmpReads Try.prog g cb enc cf blk off d.size w) (hH : Holds enc w blk off d) (hab : a ≤ b) (hb : b ≤ d.size) (hsz : d.size < 4611686018427387904) :
    Calls Try.prog 47 #[.slice (some ⟨blk, off, none⟩) d.size cap, .int .i64 a, .int .i64 b, .func (.func g) #[] cb] w fun e w' =>
      e = .returned (.tuple #[]) ∧ ∃ n, w' = (putRow enc w blk off (Sort.insertionSort (ltOf cf) d a b)).drewN n :=
  Any.insertionSortCmpFunc_one Try.isort enc hO cf g cb blk off cap a b d w eg hcmp hH hab hb hsz
theorem stab_any {α : Type} [Inhabited α] (enc : α → Value) (hO : OneCell enc) (cf : α → α → Int) (g : Nat) (cb : Array Value) (blk off cap : Nat) (d : Array α) (w : World)
    (eg : ∀ args w, (callFunc g args).run Try.prog w = .ok (.enter g args) w) (hcmp : CmpReads Try.prog g cb enc cf blk off d.size w) (hH : Holds enc w blk off d) (hsz : d.size < 20) :
    Calls Try.prog 44 #[.slice (some ⟨blk, off, none⟩) d.size cap, .int .i64 d.size, .func (.func g) #[] cb] w fun e w' =>
      e = .returned (.tuple #[]) ∧ ∃ n, w' = (putRow enc w blk off (Sort.insertionSort (ltOf cf) d 0 d.size)).drewN n := by
  have C := hide (ins_any enc hO cf g cb blk off cap 0 d.size d w eg hcmp hH (Nat.zero_le _) (Nat.le_refl _) (by omega))
  have hs : ¬ (20 : Int) ≤ (d.size : Int) := by omega
  have hs2 : ¬ (20 : Int) < (d.size : Int) := by omega
  clear hcmp hH
  generalize (Sort.insertionSort (ltOf cf) d 0 d.size) = r at *
  generalize d.size = n at *
  go_enter Try.func44, Try.ntmps44
  go_wp2
  refine wp_loop_rounds 1 ?_
  rw [rounds_succ]
  go_wp2_with (go_at_call 47; refine C.out.mono ?_; rintro e w' ⟨rfl, k, rfl⟩)
  refine wp_loop_rounds 1 ?_
  rw [rounds_succ]
  go_wp2
  go_end0
  exact ⟨rfl, _, rfl⟩
theorem sort_any {α : Type} [Inhabited α] (enc : α → Value) (hO : OneCell enc) (cf : α → α → Int) (g : Nat) (cb : Array Value) (blk off cap : Nat) (d : Array α) (w : World)
    (eg : ∀ args w, (callFunc g args).run Try.prog w = .ok (.enter g args) w) (hcmp : CmpReads Try.prog g cb enc cf blk off d.size w) (hH : Holds enc w blk off d) (hsz : d.size < 20) :
    Calls Try.prog 27 #[.slice (some ⟨blk, off, none⟩) d.size cap, .func (.func g) #[] cb] w fun e w' =>
      e = .returned (.tuple #[]) ∧ ∃ n, w' = (putRow enc w blk off (Sort.insertionSort (ltOf cf) d 0 d.size)).drewN n := by
  have C := hide (stab_any enc hO cf g cb blk off cap d w eg hcmp hH hsz)
  clear hcmp hH
  generalize (Sort.insertionSort (ltOf cf) d 0 d.size) = r at *
  generalize d.size = n at *
  go_enter Try.func27, Try.ntmps27
  go_wp2_with (go_at_call 44; refine C.out.mono ?_; rintro e w' ⟨rfl, k, rfl⟩)
  go_end0
  exact ⟨rfl, _, rfl⟩
/-- an empty slice -/
theorem ins_none (A : Option Addr) (cap : Nat) (f : Value) (w : World) : Calls Try.prog 47 #[.slice A 0 cap, .int .i64 0, .int .i64 0, f] w fun e w' => e = .returned (.tuple #[]) ∧ w = w' := by
  go_enter Try.func47, Try.ntmps47
  go_wp2
  refine wp_loop_rounds 1 ?_
  rw [rounds_succ]
  go_wp2
  go_end0
  exact ⟨rfl, rfl⟩
theorem sort_none (A : Option Addr) (cap g : Nat) (cb : Array Value) (w : World) : Calls Try.prog 27 #[.slice A 0 cap, .func (.func g) #[] cb] w fun e w' => e = .returned (.tuple #[]) ∧ w = w' := by
  have S : Calls Try.prog 44 #[.slice A 0 cap, .int .i64 0, .func (.func g) #[] cb] w fun e w' => e = .returned (.tuple #[]) ∧ w = w' := by
    go_enter Try.func44, Try.ntmps44
    go_wp2
    refine wp_loop_rounds 1 ?_
    rw [rounds_succ]
    go_wp2_with (go_at_call 47; refine (ins_none _ _ _ _).mono ?_; rintro e w' ⟨rfl, rfl⟩)
    refine wp_loop_rounds 1 ?_
    rw [rounds_succ]
    go_wp2
    go_end0
    exact ⟨rfl, rfl⟩
  have C := hide S
  clear S
  go_enter Try.func27, Try.ntmps27
  go_wp2_with (go_at_call 44; refine C.out.mono ?_; rintro e w' ⟨rfl, rfl⟩)
  go_end0
  exact ⟨rfl, rfl⟩
end Go.Proofs.Ytiopfeleaifpbaa.Bd
