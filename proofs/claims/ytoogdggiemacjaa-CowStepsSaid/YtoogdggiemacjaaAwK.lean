import Derived.Test.YtoogdggiemacjaaF18

import Derived.Test.YtoogdggiemacjaaF18
import Derived.Test.YtoogdggiemacjaaF12
import Derived.Test.YtoogdggiemacjaaF10
namespace Go.Proofs.Ytoogdggiemacjaa.Cw
open Go Go.RowKit
set_option linter.unusedVariables false
set_option linter.unusedSimpArgs false
def K0 : Cow := ⟨2, [(true, [(-1, false), (-1, false)])], [(0, 0), (0, 0), (0, 0)], 0⟩
def K1 : Cow := ⟨2, [(true, [(-1, false), (0, true)])], [(1, 7), (0, 0), (0, 0)], 0⟩
def K2 : Cow := ⟨2, [(true, [(-1, false), (0, false)]), (true, [(-1, false), (0, false)])], [(2, 7), (0, 0), (0, 0)], 0⟩
def K3 : Cow := ⟨2, [(true, [(-1, false), (0, false)]), (true, [(-1, false), (1, true)])], [(1, 7), (1, 8), (0, 0)], 1⟩
def K4 : Cow := ⟨2, [(true, [(-1, false), (0, true)]), (true, [(-1, false), (1, true)])], [(1, 9), (1, 8), (0, 0)], 1⟩
def K5 : Cow := ⟨2, [(true, [(-1, false), (0, true)]), (true, [(2, true), (1, true)])], [(1, 9), (1, 8), (1, 5)], 1⟩
def K7 : Cow := ⟨2, [(true, [(-1, false), (0, true)]), (false, [])], [(1, 9), (0, 0), (0, 0)], 1⟩
def K8 : Cow := ⟨2, [(true, [(1, true), (0, true)]), (false, [])], [(1, 9), (1, 6), (0, 0)], 1⟩
theorem kk_n0 : nwG 3 2 = (K0, 0) := by kernel_rfl
theorem kk_w1 : wrG1 K0 0 1 7 = (K1, 0) := by kernel_rfl
theorem kk_k2_ : fkG K1 0 = (K2, 1, 0) := by kernel_rfl
theorem kk_w3 : wrG1 K2 1 1 8 = (K3, 0) := by kernel_rfl
theorem kk_r1 : rdV K3 0 1 = 7 := by kernel_rfl
theorem kk_r2 : rdV K3 1 1 = 8 := by kernel_rfl
theorem kk_p1 : cpE K3 0 1 = 0 := by kernel_rfl
theorem kk_p2 : cpE K3 1 1 = 0 := by kernel_rfl
theorem kk_w4 : wrG1 K3 0 1 9 = (K4, 0) := by kernel_rfl
theorem kk_w5 : wrG1 K4 1 0 5 = (K5, 0) := by kernel_rfl
theorem kk_w6 : wrG1 K5 0 0 6 = (zeroM, 16) := by kernel_rfl
theorem kk_x7 : exG K5 1 = K7 := by kernel_rfl
theorem kk_c7 : csE K5 1 = 0 := by kernel_rfl
theorem kk_w8 : wrG1 K7 0 0 6 = (K8, 0) := by kernel_rfl
theorem kk_u2 : usE K2 = 1 := by kernel_rfl
theorem kk_u5 : usE K5 = 3 := by kernel_rfl
theorem kk_c8 : chE K8 = 0 := by kernel_rfl
end Go.Proofs.Ytoogdggiemacjaa.Cw
