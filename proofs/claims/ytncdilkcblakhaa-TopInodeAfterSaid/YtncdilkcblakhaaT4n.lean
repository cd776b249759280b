import Derived.Test.YtncdilkcblakhaaT4m
namespace Go.Proofs.Ytncdilkcblakhaa.In
open Go Go.RowKit
set_option linter.unusedVariables false
theorem nwE_three : Dv.nwE 2 [bfr, zro, zro] = 0 := by
  unfold Dv.nwE Dv.dbE
  rw [if_pos (by decide)]
  refine Dv.blE_ok fun j hj => ?_
  have h : j = 0 ∨ j = 1 ∨ j = 2 := by simp at hj; omega
  unfold Dv.noP
  rcases h with rfl | rfl | rfl <;> rfl
theorem nwD_three (pg : By) : Dv.nwD 2 [bfr, zro, zro] = DS 0 0 [] pg := rfl
theorem zro_bs {W : World} {a : Nat} (h : Bk W a z32) : Dv.IsBs W (.slice (some ⟨a, 0, none⟩) 32 32) zro := ⟨some ⟨a, 0, none⟩, 32, rfl, Nat.le_refl _, by
  have := h.bs 32
  exact this⟩
theorem new3_any (A1 : Option Addr) (c1 a b g : Nat) (pg : By) (W : World) (h1 : Dv.OwnBy W (.slice A1 32 c1) bfr) (ha : Bk W a z32) (hb : Bk W b z32) (hx : Box W g 23 #[.slice A1 32 c1, .slice (some ⟨a, 0, none⟩) 32 32, .slice (some ⟨b, 0, none⟩) 32 32]) : Calls Try.prog 29 #[.int .i64 2, .slice (some ⟨g, 0, none⟩) 3 3] W (Dv.DvR2 (DS 0 0 [] pg) 0 W) := by
  have hr : Dv.RdB W (some ⟨g, 0, none⟩) [bfr, zro, zro] := fun _ => by
    refine ⟨g, 0, rfl, hx.lt, fun k hk => ?_⟩
    have h : k = 0 ∨ k = 1 ∨ k = 2 := by simp at hk; omega
    rcases h with rfl | rfl | rfl
    · exact ⟨_, hx.cell 0, h1.is⟩
    · exact ⟨_, hx.cell 1, zro_bs ha⟩
    · exact ⟨_, hx.cell 2, zro_bs hb⟩
  have := Dv.new_any 2 (some ⟨g, 0, none⟩) [bfr, zro, zro] 3 W hr (Nat.le_refl _) (by decide)
  rw [nwE_three, if_pos rfl, nwD_three pg] at this
  exact this
theorem new3_at {D0 : Dv.Dev} {pg : By} (hD : D0 = DS 0 0 [] pg) (A1 : Option Addr) (c1 a b g : Nat) (W : World) (h1 : Dv.OwnBy W (.slice A1 32 c1) bfr) (ha : Bk W a z32) (hb : Bk W b z32) (hx : Box W g 23 #[.slice A1 32 c1, .slice (some ⟨a, 0, none⟩) 32 32, .slice (some ⟨b, 0, none⟩) 32 32]) : Calls Try.prog 29 #[.int .i64 2, .slice (some ⟨g, 0, none⟩) 3 3] W (Dv.DvR2 D0 0 W) := by
  subst hD
  exact new3_any A1 c1 a b g pg W h1 ha hb hx
end Go.Proofs.Ytncdilkcblakhaa.In
