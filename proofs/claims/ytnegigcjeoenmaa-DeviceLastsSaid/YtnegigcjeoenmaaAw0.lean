import Derived.Test.YtnegigcjeoenmaaCm1
import Derived.Test.YtnegigcjeoenmaaCs1
import Derived.Test.YtnegigcjeoenmaaBl1
namespace Go.Proofs.Ytnegigcjeoenmaa.Dv
open Go Go.RowKit
set_option linter.unusedVariables false
def L2 : List By := List.replicate 2 (pg 0)
def A0 : Dev := nwD 2 L2
def A1 : Dev := sbD A0 2 1 (pg 1)
def A2 : Dev := ⟨2, 1, L2, [(1, pg 1)], []⟩
def A3 : Dev := crD A2 [true]
theorem e_nw : nwE 2 L2 = 0 := by kernel_rfl
theorem e_sb : sbE A0 2 1 (pg 1).length = 0 := by kernel_rfl
theorem e_c1 : chk A1 = 0 := by kernel_rfl
theorem e_c2 : chk A2 = 0 := by kernel_rfl
theorem e_c3 : chk A3 = 0 := by kernel_rfl
theorem e_hit : hitP A1.ca 1 = false := by kernel_rfl
theorem e_cap : caP A1.ca 1 = A1.ca.length := by kernel_rfl
theorem e_q : qAt A1.qu 0 = (0, 2, 1, pg 1) := by kernel_rfl
theorem e_ql : A1.qu.length = 1 := by kernel_rfl
theorem e_a2 : (⟨A1.dep, A1.nxt, A1.bl, A1.ca ++ [(1, pg 1)], A1.qu.take 0 ++ A1.qu.drop (0 + 1)⟩ : Dev) = A2 := by kernel_rfl
theorem e_ct : ctD A2 1 = pg 1 := by kernel_rfl
theorem e_du : duD A2 1 = pg 0 := by kernel_rfl
theorem e_ch : chD A2 = 1 := by kernel_rfl
theorem e_d3 : duD A3 1 = pg 1 := by kernel_rfl
theorem big2 {D : Dev} (h1 : D.bl.length ≤ 2) (h2 : D.ca.length ≤ 1) (h3 : D.qu.length ≤ 1) (h4 : ∀ b ∈ D.bl, b.length = 32) (h5 : ∀ c ∈ D.ca, c.2.length = 32) (h6 : ∀ q ∈ D.qu, q.2.2.2.length = 32) : Big D :=
  ⟨by omega, by omega, by omega, fun b hb => by have := h4 b hb; omega, fun b hb => by have := h5 b hb; omega, fun b hb => by have := h6 b hb; omega⟩
theorem big_0 : Big A0 := big2 (by decide) (by decide) (by decide) (by decide) (by decide) (by decide)
theorem big_1 : Big A1 := big2 (by decide) (by decide) (by decide) (by decide) (by decide) (by decide)
theorem big_2 : Big A2 := big2 (by decide) (by decide) (by decide) (by decide) (by decide) (by decide)
theorem big_3 : Big A3 := big2 (by decide) (by decide) (by decide) (by decide) (by decide) (by decide)
end Go.Proofs.Ytnegigcjeoenmaa.Dv
