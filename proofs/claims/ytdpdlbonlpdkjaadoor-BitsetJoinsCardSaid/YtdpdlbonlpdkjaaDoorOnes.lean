import Derived.Test.YtdpdlbonlpdkjaaDoorFind
import Derived.Test.YtdpdlbonlpdkjaaDoorMath4
import Derived.Laws.BitsLemmas
namespace Go.Proofs.YtdpdlbonlpdkjaaDoor.Bs
open Go Go.RowKit
set_option linter.unusedVariables false
theorem wrap64u (n : Nat) (h : n < 2 ^ 64) : IntKind.u64.wrap (n : Int) = (n : Int) := by
  have hw : ∀ n : Int, IntKind.u64.wrap n = n % 18446744073709551616 := fun n => by simp [IntKind.wrap, IntKind.bits, IntKind.signed]
  rw [hw]; omega
theorem andq (x k m : Nat) (hx : x < 2 ^ 64) (hm : m < 2 ^ 64) : bits .and .u64 ((x : Int) / (k : Int)) (m : Int) = ((x / k &&& m : Nat) : Int) := by
  rw [← Int.natCast_ediv]
  exact u64_and_nat _ _ (Nat.lt_of_le_of_lt (Nat.div_le_self _ _) (by omega)) (by omega)
theorem step1 (x : Nat) (hx : x < 2 ^ 64) : IntKind.u64.wrap (bits .and .u64 ((x : Int) / 2) 6148914691236517205 + bits .and .u64 (x : Int) 6148914691236517205) = ((f1 8 x : Nat) : Int) ∧ f1 8 x < 2 ^ 64 := by
  have hM : M 85 8 = 6148914691236517205 := by decide
  have h1 := andq x 2 6148914691236517205 hx (by omega)
  have h2 := u64_and_nat x 6148914691236517205 (by omega) (by omega)
  have hl1 : x / 2 &&& 6148914691236517205 ≤ 6148914691236517205 := Nat.and_le_right
  have hl2 : x &&& 6148914691236517205 ≤ 6148914691236517205 := Nat.and_le_right
  have hb : f1 8 x < 2 ^ 64 := by unfold f1; rw [hM]; omega
  refine ⟨?_, hb⟩
  rw [show (2 : Int) = ((2 : Nat) : Int) from rfl, show (6148914691236517205 : Int) = ((6148914691236517205 : Nat) : Int) from rfl, h1, h2, ← Int.natCast_add]
  have : (x / 2 &&& 6148914691236517205) + (x &&& 6148914691236517205) = f1 8 x := by unfold f1; rw [hM]
  rw [this]
  exact wrap64u _ hb
theorem step2 (x : Nat) (hx : x < 2 ^ 64) : IntKind.u64.wrap (bits .and .u64 ((x : Int) / 4) 3689348814741910323 + bits .and .u64 (x : Int) 3689348814741910323) = ((f2 8 x : Nat) : Int) ∧ f2 8 x < 2 ^ 63 := by
  have hM : M 51 8 = 3689348814741910323 := by decide
  have h1 := andq x 4 3689348814741910323 hx (by omega)
  have h2 := u64_and_nat x 3689348814741910323 (by omega) (by omega)
  have hl1 : x / 4 &&& 3689348814741910323 ≤ 3689348814741910323 := Nat.and_le_right
  have hl2 : x &&& 3689348814741910323 ≤ 3689348814741910323 := Nat.and_le_right
  have hb : f2 8 x < 2 ^ 63 := by unfold f2; rw [hM]; omega
  refine ⟨?_, hb⟩
  rw [show (4 : Int) = ((4 : Nat) : Int) from rfl, show (3689348814741910323 : Int) = ((3689348814741910323 : Nat) : Int) from rfl, h1, h2, ← Int.natCast_add]
  have : (x / 4 &&& 3689348814741910323) + (x &&& 3689348814741910323) = f2 8 x := by unfold f2; rw [hM]
  rw [this]
  exact wrap64u _ (by omega)
theorem step3 (x : Nat) (hx : x < 2 ^ 63) : bits .and .u64 (IntKind.u64.wrap ((x : Int) / 16 + (x : Int))) 1085102592571150095 = ((f3 8 x : Nat) : Int) := by
  have hM : M 15 8 = 1085102592571150095 := by decide
  have h1 : ((x : Int) / 16 + (x : Int)) = ((x / 16 + x : Nat) : Int) := by omega
  rw [h1, wrap64u _ (by omega), show (1085102592571150095 : Int) = ((1085102592571150095 : Nat) : Int) from rfl, u64_and_nat _ _ (by omega) (by omega)]
  unfold f3
  rw [hM]
theorem stepk (x k : Nat) (hx : x + x / k < 2 ^ 64) : IntKind.u64.wrap ((x : Int) + (x : Int) / (k : Int)) = ((x + x / k : Nat) : Int) := by
  rw [← Int.natCast_ediv, ← Int.natCast_add]
  exact wrap64u _ hx
theorem step7 (g : Nat) (hg : g < 2 ^ 63) : bits .and .i64 (g : Int) 127 = ((g % 128 : Nat) : Int) := by
  have h := bits_mask .i64 63 (by decide) (fun n h0 h1 => by rw [IntKind.wrap_i64]; omega) 7 (by decide) (g : Int) (by omega) (by omega)
  have e : ((2 : Int) ^ 7 - 1) = 127 := by decide
  have e2 : ((2 : Int) ^ 7) = 128 := by decide
  rw [e, e2] at h
  rw [h]
  omega
theorem ones_any (x : Nat) (hx : x < 2 ^ 64) (w : World) :
    Calls Tryd.prog 44 #[.int .u64 (x : Int)] w fun e w' => e = .returned (.int .i64 (pc 64 x : Nat)) ∧ w = w' := by
  obtain ⟨e1, b1⟩ := step1 x hx
  obtain ⟨e2, b2⟩ := step2 (f1 8 x) b1
  have e3 := step3 (f2 8 (f1 8 x)) b2
  have hF : f3 8 (f2 8 (f1 8 x)) = F 8 x := rfl
  rw [hF] at e3
  obtain ⟨p1, p2, p3, p4, p5, p6⟩ := tail_ok x _ _ _ _ rfl rfl rfl rfl
  rw [← p1]
  generalize f1 8 x = a at *
  generalize f2 8 a = b at *
  generalize F 8 x = c at *
  have e4 := stepk c 256 (by omega)
  generalize c + c / 256 = d at *
  have e5 := stepk d 65536 (by omega)
  generalize d + d / 65536 = f at *
  have e6 := stepk f 4294967296 (by omega)
  generalize f + f / 4294967296 = g at *
  have e7 := step7 g p6
  generalize g % 128 = r at *
  have e4' : IntKind.u64.wrap ((c : Int) + (c : Int) / 256) = (d : Int) := e4
  have e5' : IntKind.u64.wrap ((d : Int) + (d : Int) / 65536) = (f : Int) := e5
  have e6' : IntKind.u64.wrap ((f : Int) + (f : Int) / 4294967296) = (g : Int) := e6
  have bg : g ≤ 9223372036854775807 := by omega
  clear e4 e5 e6 p1 p2 p3 p4 p5 p6 b1 b2 hF hx
  go_enter Tryd.func44, Tryd.ntmps44
  go_wp2
  go_ret
  exact ⟨ret_int rfl, rfl⟩
end Go.Proofs.YtdpdlbonlpdkjaaDoor.Bs
