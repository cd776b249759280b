import Derived.Test.YtclkflnonckajaaQ5
import Derived.RangeFuncNested
import Derived.RangeFuncBound
import Derived.RangeFuncCalls
import Derived.RangeFuncLeaves
import Derived.RangeFuncBox
import Derived.Shelf.RegionOpen
import Derived.TacticsInMore
import Derived.LoopNIn
import Derived.LoopIn
/-
  DERIVED. A region that draws its order, in whatever fence: where no operation calls a function, it is walked as outside.
-/
namespace Go.Proofs.Ytclkflnonckajaa.Ac
open Go Go.RowKit
set_option linter.unusedVariables false
/-- an operation that calls nothing, whatever its operands -/
def Tame (P : Program) (o : Oper) : Prop :=
  (∀ c, o.op ≠ .defer c) ∧ (∀ ρ w, o.about P w ρ = none) ∧ ∀ ρ w w', (∀ f args, (execOp ρ o).run P w ≠ .ok (.enter f args) w') ∧ (∀ r args, (execOp ρ o).run P w ≠ .ok (.row r args) w')
theorem run_v {P : Program} {s : Sem Value} {w w' : World} : (∀ f args, (do let x ← s; pure (Next.value x) : Sem Next).run P w ≠ .ok (.enter f args) w') ∧ (∀ r args, (do let x ← s; pure (Next.value x) : Sem Next).run P w ≠ .ok (.row r args) w') := by
  constructor <;> (intro f args h; simp only [Sem.run_bind] at h; cases e : s.run P w <;> rw [e] at h <;> simp [Result.andThen] at h)
theorem run_u {P : Program} {s : Sem Unit} {w w' : World} : (∀ f args, (do s; pure Next.skip : Sem Next).run P w ≠ .ok (.enter f args) w') ∧ (∀ r args, (do s; pure Next.skip : Sem Next).run P w ≠ .ok (.row r args) w') := by
  constructor <;> (intro f args h; simp only [Sem.run_bind] at h; cases e : s.run P w <;> rw [e] at h <;> simp [Result.andThen] at h)
section
variable {P : Program} {o : Oper}
theorem Tame.fieldAddr {t : TypeId} {x : Operand} {f : Nat} (h : o.op = .fieldAddr t x f) : Tame P o :=
  ⟨(fun c e => by rw [h] at e; cases e), fun ρ w => by simp [Oper.about, h], fun ρ w w' => by unfold execOp; simp only [h]; exact run_v⟩
theorem Tame.load {t : TypeId} {x : Operand} (h : o.op = .load t x) : Tame P o :=
  ⟨(fun c e => by rw [h] at e; cases e), fun ρ w => by simp [Oper.about, h], fun ρ w w' => by unfold execOp; simp only [h]; exact run_v⟩
theorem Tame.indexAddr {t : TypeId} {x y : Operand} (h : o.op = .indexAddr t x y) : Tame P o :=
  ⟨(fun c e => by rw [h] at e; cases e), fun ρ w => by simp [Oper.about, h], fun ρ w w' => by unfold execOp; simp only [h]; exact run_v⟩
theorem Tame.binOp {b : BinOp} {t u : TypeId} {x y : Operand} (h : o.op = .binOp b t x y u) : Tame P o :=
  ⟨(fun c e => by rw [h] at e; cases e), fun ρ w => by simp [Oper.about, h], fun ρ w w' => by unfold execOp; simp only [h]; exact run_v⟩
theorem Tame.buildSlice {t : TypeId} {n : Nat} {ps : Array (Nat × Operand)} (h : o.op = .buildSlice t n ps) : Tame P o :=
  ⟨(fun c e => by rw [h] at e; cases e), fun ρ w => by simp [Oper.about, h], fun ρ w w' => by unfold execOp; simp only [h]; exact run_v⟩
theorem Tame.store {t : TypeId} {x y : Operand} (h : o.op = .store t x y) : Tame P o :=
  ⟨(fun c e => by rw [h] at e; cases e), fun ρ w => by simp [Oper.about, h], fun ρ w w' => by unfold execOp; simp only [h]; exact run_u⟩
theorem Tame.move {x : Operand} (h : o.op = .move x) : Tame P o :=
  ⟨(fun c e => by rw [h] at e; cases e), fun ρ w => by simp [Oper.about, h], fun ρ w w' => by unfold execOp; simp only [h]; simp [Sem.run_pure]⟩
theorem Tame.append {s x : Operand} {t : TypeId} (h : o.op = .call { callee := .builtin .append, args := #[s, x], argTypes := #[t, t] }) : Tame P o :=
  ⟨(fun c e => by rw [h] at e; cases e), fun ρ w => by simp [Oper.about, h, resolve, Target.leads, Sem.run_pure], fun ρ w w' => by
    unfold execOp
    simp only [h, resolve, invoke, builtin, Sem.run_bind, Sem.run_pure, Result.andThen_ok]
    constructor <;> (intro f args hh; revert hh; cases e : Sem.run P (Builtin.append_ #[t, t] o.type (Array.map ρ #[s, x])) w <;> simp [Result.andThen])⟩
end
section
variable {F : Fence} {n : Nat} {P : Program} {ops : Array Oper} {Q : Exit → Act → World → Prop} {md : Region.Mode}
theorem wpIn_of_tame {o : Oper} {a : Act} {w : World} {K K' : Act → World → Prop} (ht : Tame P o) (hk : ∀ a w, K a w → K' a w) (h : o.wp P a w K Q) : o.wpIn F n P a w K' Q := by
  obtain ⟨hd, ha, hr⟩ := ht
  refine ⟨(fun f hf => by rw [ha] at hf; cases hf), ?_⟩
  rw [Oper.semAt_eq _ _ _ hd]
  unfold Oper.wp at h
  cases e : (execOp a.eval o).run P w with
  | ok x w' =>
    rw [e] at h
    cases x with
    | value v => exact hk _ _ h
    | skip => exact hk _ _ h
    | defer d => exact hk _ _ h
    | enter f args => exact absurd e ((hr _ _ _).1 f args)
    | row r args => exact absurd e ((hr _ _ _).2 r args)
    | _ => exact h.elim
  | halt x w' =>
    rw [e] at h
    cases x <;> exact h
theorem wpAnyIn_of_tame (ht : ∀ (i : Nat) (o : Oper), ops[i]? = some o → Tame P o) (hno : ¬ LetsOut Q) : ∀ (fuel : Nat) (listed : Array Bool) (a : Act) (w : World), wpAny P md ops Q fuel listed a w → wpAnyIn F n P md ops Q fuel listed a w
  | 0, _, _, _, h => h
  | fuel + 1, listed, a, w, h => ⟨h.1, fun i hi => by
    have h2 := h.2 i hi
    unfold wpOp at h2
    unfold wpOpIn
    cases e : ops[i]? with
    | none => rw [e] at h2; exact wpAnyIn_of_tame ht hno fuel _ a w h2
    | some o =>
      rw [e] at h2
      dsimp only at h2 ⊢
      by_cases hw : Region.wanted o (yielded ops a.tmps) = true
      · rw [if_pos hw] at h2 ⊢
        rcases h2 with h2 | h2
        · exact wpIn_of_tame (ht i o e) (fun a w hh => wpAnyIn_of_tame ht hno fuel _ a w hh) h2
        · exact absurd h2.2 hno
      · rw [if_neg hw] at h2 ⊢
        exact ⟨fun f hf => (by rw [(ht i o e).2.1] at hf; cases hf), wpAnyIn_of_tame ht hno fuel _ _ _ h2⟩⟩
/-- a region that draws, in a fence -/
theorem wpIn_region_tame {id : Nat} {a : Act} {w : World} (S : World → Prop) (hm : P.follows .mixedOrders = true) (ht : ∀ (i : Nat) (o : Oper), ops[i]? = some o → Tame P o) (hno : ¬ LetsOut Q)
    (h : wpAnyH P .any ops Q S ops.size (Array.replicate ops.size false) a w.drew) : (Code.region id ops true).wpIn F n P Q a w :=
  wpIn_region_any hm (wpAnyIn_of_tame ht hno _ _ _ _ (wpAny_of_held _ _ _ _ h))
end
end Go.Proofs.Ytclkflnonckajaa.Ac
