import Derived.Test.YtdpdlbonlpdkjaaDoorCount
import Derived.Test.YtdpdlbonlpdkjaaDoorMath5
import Derived.Deep.RegionLaw
namespace Go.Proofs.YtdpdlbonlpdkjaaDoor.Bs
open Go Go.RowKit
set_option linter.unusedVariables false
theorem gset {a w : World} {g : Nat} (h : a.grownBy w (some g)) (j : Nat) (u : Value) : a.grownBy (w.setCell ⟨g, j, none⟩ u) (some g) :=
  ⟨h.os, h.tape, h.output, by simpa [World.setCell] using h.size, fun k hk hne => (Below.heap_setCell w ⟨g, j, none⟩ u k (by rintro rfl; exact hne rfl)).trans (h.block k hk hne)⟩
theorem galloc {a w : World} {r : Option Nat} (h : a.grownBy w r) (o : Obj) : a.grownBy (w.alloc o) r :=
  ⟨h.os, h.tape, h.output, Nat.le_trans h.size (by simp), fun k hk hne => (Below.heap_alloc w o k (Nat.lt_of_lt_of_le hk h.size)).trans (h.block k hk hne)⟩
theorem gdrew {a w : World} {r : Option Nat} (h : a.grownBy w r) : a.grownBy w.drew r := ⟨h.os, h.tape, h.output, h.size, h.block⟩
theorem gdrewN {a w : World} {r : Option Nat} (h : a.grownBy w r) (n : Nat) : a.grownBy (w.drewN n) r := ⟨h.os, h.tape, h.output, h.size, h.block⟩
theorem gtrans {a b c : World} {g : Nat} (h : a.grownBy b (some g)) (k : b.grownBy c (some g)) : a.grownBy c (some g) :=
  ⟨k.os.trans h.os, k.tape.trans h.tape, k.output.trans h.output, Nat.le_trans h.size k.size, fun i hi hne => (k.block i (Nat.lt_of_lt_of_le hi h.size) hne).trans (h.block i hi hne)⟩
theorem grefl (w : World) (r : Option Nat) : w.grownBy w r := ⟨rfl, rfl, rfl, Nat.le_refl _, fun _ _ _ => rfl⟩
theorem gbelow {a w : World} {g B : Nat} (h : a.grownBy w (some g)) (hB : B ≤ g) (hs : B ≤ a.heap.size) : Below B a w :=
  ⟨h.os, h.tape, h.output, h.size, fun k hk => h.block k (by omega) (by intro e; injection e with e; omega)⟩
theorem wrap_pow (j : Nat) (hj : j < 64) : IntKind.u64.wrap (2 ^ j) = ((2 ^ j : Nat) : Int) := by
  have h2 : 2 ^ j < 2 ^ 64 := Nat.pow_lt_pow_right (by omega) hj
  have e : ((2 : Int) ^ j) = ((2 ^ j : Nat) : Int) := by rw [Int.natCast_pow]; rfl
  rw [e]; exact wrap64u _ h2
theorem put_any (s : Int) (n i : Nat) (g c : Nat) (zs : List Nat) (on : Bool) (w : World) (ho : Own w g zs) (hz : ∀ x ∈ zs, x < 2 ^ 64) (hi : i / 64 < zs.length) (hn : n = zs.length) (hn2 : n ≤ 64) :
    Calls Tryd.prog 37 #[.agg #[.int .i64 s, .slice (some ⟨g, 0, none⟩) n c], .int .i64 (i : Int), .bool on] w fun e w' => e = .returned (.tuple #[]) ∧ Own w' g (zs.set (i / 64) (putW on (zs.getD (i / 64) 0) (i % 64))) ∧ w.grownBy w' (some g) := by
  have hx := getD_lt hz (i / 64)
  have e1 := ho.cell _ _ (getD_of hi)
  have e2 := ho.free (i / 64)
  have hg := ho.lt
  have hj : i % 64 < 64 := by omega
  have h2 : 2 ^ (i % 64) < 2 ^ 64 := Nat.pow_lt_pow_right (by omega) hj
  have hwr := wrap_pow (i % 64) hj
  have b1 := u64_or_nat (zs.getD (i / 64) 0) (2 ^ (i % 64)) (by omega) (by omega)
  have b2 := u64_andNot_nat (zs.getD (i / 64) 0) (2 ^ (i % 64)) (by omega) (by omega)
  have HO := hide ho
  have hin : i / 64 < n := by omega
  have B1 := hide b1
  have B2 := hide b2
  have HW := hide hwr
  clear ho b1 b2 hwr hn hz h2
  obtain ⟨x, hxe⟩ : ∃ x, x = zs.getD (i / 64) 0 := ⟨_, rfl⟩
  rw [← hxe] at e1 hx
  have HX := hide hxe
  clear hxe
  cases on
  · go_enter Tryd.func37, Tryd.ntmps37
    go_wp2
    go_region
    go_end0
    refine ⟨rfl, ?_, gdrew (galloc (gset (grefl _ _) _ _) _)⟩
    have hh := (HO.out.set_ (i / 64) (putW false (zs.getD (i / 64) 0) (i % 64))).alloc (.cells #[.int .i64 s, .slice (some ⟨g, 0, none⟩) n c] 24)
    rw [HW.out, HX.out, B2.out]
    exact hh.drew
  · go_enter Tryd.func37, Tryd.ntmps37
    go_wp2
    go_region
    go_end0
    refine ⟨rfl, ?_, gdrew (galloc (gset (grefl _ _) _ _) _)⟩
    have hh := (HO.out.set_ (i / 64) (putW true (zs.getD (i / 64) 0) (i % 64))).alloc (.cells #[.int .i64 s, .slice (some ⟨g, 0, none⟩) n c] 24)
    rw [HW.out, HX.out, B1.out]
    exact hh.drew
end Go.Proofs.YtdpdlbonlpdkjaaDoor.Bs
