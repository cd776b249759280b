import Derived.Test.YtiopfeleaifpbaaKz
namespace Go.Proofs.Ytiopfeleaifpbaa.Bd
open Go Go.RowKit Go.Sort Go.Lib
set_option linter.unusedVariables false
set_option linter.unusedSimpArgs false
theorem quiet_more {P : Program} {f : FuncId} {args : Array Value} {w : World} {n : Nat} {v : Value}
    (h : Calls P f args (w.drewN n) fun e w' => e = .returned v ∧ ∃ q, w' = (w.drewN n).drewN q) : Calls P f args (w.drewN n) fun e w'' => e = .returned v ∧ ∃ m, w'' = w.drewN m :=
  h.mono fun _ _ ⟨he, q, hm⟩ => ⟨he, n + q, by rw [hm, World.drewN_drewN]⟩
theorem Zs.drew {w : World} {A : Option Addr} {Z : List Zo} (h : Zs w A Z) (n : Nat) : Zs (w.drewN n) A Z := h.below (below_drewN (brefl _) n)
theorem Bi.drew {w : World} {A : Option Addr} {l : Is} (h : Bi w A l) (n : Nat) : Bi (w.drewN n) A l := h.below (below_drewN (brefl _) n)
/-- of two zones, which one is tried first -/
def cO (Z : List Zo) (l : Is) (i j : Nat) : Int := c3 (ky Z l i) (ky Z l j)
set_option maxHeartbeats 4000000 in
theorem cmpo_any (g13 g8 g3 : Nat) (A AZ : Option Addr) (c cp : Nat) (l : Is) (Z : List Zo) (i j : Nat) (hi : i < Z.length) (hj : j < Z.length) (w : World) (X13 : w.cell? ⟨g13, 0, none⟩ = some (.func (.func 32) #[] #[.pointer (some ⟨g8, 0, none⟩), .pointer (some ⟨g3, 0, none⟩)]))
    (X8 : w.cell? ⟨g8, 0, none⟩ = some (.slice A l.length c)) (X3 : w.cell? ⟨g3, 0, none⟩ = some (.slice AZ Z.length cp))
    (hl : Bi w A l) (hr : Zs w AZ Z) (h1 : l.length ≤ 1000) (h2 : Z.length ≤ 1000) : Calls Try.prog 34 #[.int .i64 (i : Int), .int .i64 (j : Int), .pointer (some ⟨g13, 0, none⟩)] w fun e w' => e = .returned (.int .i64 (cO Z l i j)) ∧ ∃ q, w' = w.drewN q := by
  have KK := hide (fun (z : Nat) (hz : z < Z.length) n => key_any g8 g3 A AZ c cp l Z z hz (w.drewN n) X8 X3 (hl.drew n) (hr.drew n) h1 h2)
  have HI := hide hi
  have HJ := hide hj
  have C := hide (fun a b w => cmp_any a b w)
  have E := hide (show cO Z l i j = c3 (ky Z l i) (ky Z l j) from rfl)
  have eg : ∀ args w, (callFunc 32 args).run Try.prog w = .ok (.enter 32 args) w := Go.Proofs.enters_of Try.func32 (by kernel_rfl) rfl
  clear X8 X3 hl hr h1 h2 hi hj
  go_enter Try.func34, Try.ntmps34
  go_wp2
  go_quiet (first
    | (go_at_call 29; exact quiet_left (C.out _ _ _))
    | (go_at_call 32; exact quiet_more (KK.out _ (by first | exact HI.out | exact HJ.out) _)))
  go_wp2
  go_ret
  exact ⟨ret_int E.out.symm, _, rfl⟩
end Go.Proofs.Ytiopfeleaifpbaa.Bd
