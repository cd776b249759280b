import Derived.Test.YtclkflnonckajaaQ9
import Derived.Test.YtclkflnonckajaaQ3
import Derived.Test.YtclkflnonckajaaQ5
namespace Go.Proofs.Ytclkflnonckajaa.Ac
open Go Go.RowKit
set_option linter.unusedVariables false
set_option linter.unusedSimpArgs false
def L4 : List A5 := [⟨-1, 10, 0, 0, 20⟩, ⟨0, 6, 4, 0, 20⟩, ⟨0, 4, 4, 0, 20⟩, ⟨1, 5, 3, 0, 20⟩]
theorem x_ch : chE L4 = 0 := by kernel_rfl
theorem x_e : eR L4 = [10, 4, 4, 3] := by kernel_rfl
theorem x_o : ocX L4 7 = 0 ∧ ocE L4 7 = 0 := ⟨by kernel_rfl, by kernel_rfl⟩
theorem x_n : nR L4 [0, 0, 0, 2] = [2, 2, 0, 2] := by kernel_rfl
theorem x_g1 : gR L4 [0, 0, 0, 0] 2 (-1) false = true := by kernel_rfl
theorem x_g2 : gR L4 [0, 0, 0, 0] 2 2 false = false := by kernel_rfl
theorem x_g3 : gR L4 [0, 0, 0, 0] 3 (-1) false = false := by kernel_rfl
theorem x_p : opR L4 [0, 0, 0, 0] (-1) = 1 := by kernel_rfl
theorem bi4 {w : World} {A : Option Addr} {a b d f : Int} (h : Bi w A [a, b, d, f]) : ∃ q o, A = some ⟨q, o, none⟩ ∧ ∀ w', Below w.heap.size w w' → w'.cell? ⟨q, o, none⟩ = some (.int .i64 a) ∧ w'.cell? ⟨q, o + 1, none⟩ = some (.int .i64 b) ∧ w'.cell? ⟨q, o + 2, none⟩ = some (.int .i64 d) ∧ w'.cell? ⟨q, o + 3, none⟩ = some (.int .i64 f) := by
  obtain ⟨q, o, e, hq, hc⟩ := h (by simp)
  exact ⟨q, o, e, fun w' hb => ⟨(hb.cell (p := ⟨q, o, none⟩) hq).trans (hc 0 (by simp)), (hb.cell (p := ⟨q, o + 1, none⟩) hq).trans (hc 1 (by simp)), (hb.cell (p := ⟨q, o + 2, none⟩) hq).trans (hc 2 (by simp)), (hb.cell (p := ⟨q, o + 3, none⟩) hq).trans (hc 3 (by simp))⟩⟩
theorem four_any (w : World) : Calls Try.prog 71 #[] w fun e w' => ∃ g, e = .returned (.slice (some ⟨g, 0, none⟩) 4 4) ∧ As w' (some ⟨g, 0, none⟩) L4 ∧ Below w.heap.size w w' := by
  have X := hide (as_row (L := L4) (Box.new w 42 (acs L4).toArray))
  have K := hide (bal (brefl w) (.cells (acs L4).toArray 42))
  go_enter Try.func71, Try.ntmps71
  go_wp2
  go_ret
  exact ⟨_, rfl, X.out, K.out⟩
set_option maxRecDepth 100000 in
set_option maxHeartbeats 8000000 in
theorem awakep_any (w : World) : Calls Try.prog 37 #[] w fun e w' => e = .returned (.bool true) ∧ Below w.heap.size w w' := by
  have K := hide (brefl w)
  go_enter Try.func37, Try.ntmps37
  go_wp2_with fail
  refine (four_any _).mono ?_
  rintro e w0 ⟨g, rfl, hA, hb⟩
  replace K := hide hb
  have HR := hide (fun w' (h : Below w0.heap.size w0 w') => hA.below h)
  have K0 := hide (brefl w0)
  clear hA hb
  have hmk : ∀ w, (Instr.makeSlice 26 (.int .i64 4) (.int .i64 4)).run Try.prog w = .ok (.slice (some ⟨w.heap.size, 0, none⟩) 4 4) (w.alloc (.cells (madeCells #[.int .i64 0] 4) 3)) := fun w => makeN w 4 (by omega)
  have Z := hide (show Bi (w0.alloc (.cells (madeCells #[.int .i64 0] 4) 3)) (some ⟨w0.heap.size, 0, none⟩) [0, 0, 0, 0] from (RI.made w0 4 (fun _ => 0) (fun x _ => rfl)).bi)
  have M := bal (brefl w0) (.cells (madeCells #[.int .i64 0] 4) 3)
  replace K0 := hide (btrans K0.out M)
  replace K := hide (btrans K.out K0.out)
  have HR2 := hide (fun w' (h : Below (w0.alloc (.cells (madeCells #[.int .i64 0] 4) 3)).heap.size (w0.alloc (.cells (madeCells #[.int .i64 0] 4) 3)) w') => HR.out w' (btrans K0.out h))
  obtain ⟨gz, hgz⟩ : ∃ gz, gz = w0.heap.size := ⟨_, rfl⟩
  go_upto_region 3 with fail
  try rw [← hgz] at Z ⊢
  generalize w0.alloc (.cells (madeCells #[.int .i64 0] 4) 3) = w1 at *
  have K1 := hide (brefl w1)
  clear hmk HR K0 M hgz
  have EA := hide (fun w' (h : Below w1.heap.size w1 w') => eff_any (some ⟨g, 0, none⟩) 4 L4 w' (HR2.out _ h) (by decide) (by decide))
  unfold EfR at EA
  rw [x_e, x_ch] at EA
  have OA := hide (fun w' (h : Below w1.heap.size w1 w') => oc_any (some ⟨g, 0, none⟩) 4 L4 7 w' (HR2.out _ h) (by decide) (by decide))
  rw [x_o.1, x_o.2] at OA
  have NA := hide (fun w' (h : Below w1.heap.size w1 w') A (hv : Bi w' A [0, 0, 0, 2]) => inn_any (some ⟨g, 0, none⟩) A 4 4 L4 [0, 0, 0, 2] w' (HR2.out _ h) hv (by decide) (by decide) (by decide))
  unfold BiR at NA
  rw [x_n] at NA
  have GA := hide (fun w' (h : Below w1.heap.size w1 w') => guard_any (some ⟨g, 0, none⟩) (some ⟨gz, 0, none⟩) 4 4 L4 [0, 0, 0, 0] 2 (-1) false w' (HR2.out _ h) (Z.out.below h) (by decide) (by decide) (by decide))
  rw [x_g1] at GA
  have GB := hide (fun w' (h : Below w1.heap.size w1 w') => guard_any (some ⟨g, 0, none⟩) (some ⟨gz, 0, none⟩) 4 4 L4 [0, 0, 0, 0] 2 2 false w' (HR2.out _ h) (Z.out.below h) (by decide) (by decide) (by decide))
  rw [x_g2] at GB
  have GC := hide (fun w' (h : Below w1.heap.size w1 w') => guard_any (some ⟨g, 0, none⟩) (some ⟨gz, 0, none⟩) 4 4 L4 [0, 0, 0, 0] 3 (-1) false w' (HR2.out _ h) (Z.out.below h) (by decide) (by decide) (by decide))
  rw [x_g3] at GC
  have PA := hide (fun w' (h : Below w1.heap.size w1 w') => open_any (some ⟨g, 0, none⟩) (some ⟨gz, 0, none⟩) 4 4 L4 [0, 0, 0, 0] (-1) w' (HR2.out _ h) (Z.out.below h) (by decide) (by decide) (by decide))
  rw [x_p] at PA
  have e3 : L4.length = 4 := rfl
  rw [e3] at EA OA NA GA GB GC PA
  have e4 : ∀ a b c d : Int, [a, b, c, d].length = 4 := fun _ _ _ _ => rfl
  rw [e4] at NA GA GB GC PA
  simp only [e4] at EA NA
  clear HR2 Z e3
  go_wp2_with fail
  refine (EA.out _ K1.out).mono ?_
  rintro e w2 ⟨A2, c2, rfl, hO, hb⟩
  obtain ⟨q2, o2, rfl, P4⟩ := bi4 hO
  have P := hide P4
  replace K1 := hide (btrans K1.out hb)
  have K2 := hide (brefl w2)
  clear hb hO P4 EA
  go_wp2_with fail
  refine (OA.out _ K1.out).mono ?_
  rintro e w3 ⟨rfl, hb⟩
  replace K1 := hide (btrans K1.out hb)
  replace K2 := hide (btrans K2.out hb)
  clear hb OA
  obtain ⟨p0, p1, p2, p3⟩ := P.out _ K2.out
  clear P K2
  have Y := hide (Box.new w3 3 #[.int .i64 0, .int .i64 0, .int .i64 0, .int .i64 2])
  have K3 := hide (bal (brefl w3) (.cells #[.int .i64 0, .int .i64 0, .int .i64 0, .int .i64 2] 3))
  go_upto_region 7 with fail
  clear p0 p1 p2 p3
  go_wp2_with fail
  generalize w3.alloc (.cells #[.int .i64 0, .int .i64 0, .int .i64 0, .int .i64 2] 3) = w4 at *
  have YB : Bi w4 (some ⟨w3.heap.size, 0, none⟩) [0, 0, 0, 2] := fun _ => ⟨w3.heap.size, 0, rfl, Y.out.lt, fun k hk => by
    rw [Nat.zero_add, Y.out.cell]
    match k, hk with
    | 0, _ => rfl
    | 1, _ => rfl
    | 2, _ => rfl
    | 3, _ => rfl⟩
  replace K1 := hide (btrans K1.out K3.out)
  refine (NA.out _ K1.out _ YB).mono ?_
  rintro e w5 ⟨A5, c5, rfl, hO, hb⟩
  obtain ⟨q5, o5, rfl, P5⟩ := bi4 hO
  replace K1 := hide (btrans K1.out hb)
  obtain ⟨p0, p1, p2, p3⟩ := P5 _ (brefl w5)
  clear hb hO P5 NA YB Y K3
  go_wp2_with fail
  refine (GA.out _ K1.out).mono ?_
  rintro e w6 ⟨rfl, hb⟩
  replace K1 := hide (btrans K1.out hb)
  clear hb GA p0 p1 p2 p3
  go_wp2_with fail
  refine (GB.out _ K1.out).mono ?_
  rintro e w7 ⟨rfl, hb⟩
  replace K1 := hide (btrans K1.out hb)
  clear hb GB
  go_wp2_with fail
  refine (GC.out _ K1.out).mono ?_
  rintro e w8 ⟨rfl, hb⟩
  replace K1 := hide (btrans K1.out hb)
  clear hb GC
  go_wp2_with fail
  refine (PA.out _ K1.out).mono ?_
  rintro e w9 ⟨rfl, hb⟩
  replace K1 := hide (btrans K1.out hb)
  clear hb PA
  replace K := hide (btrans K.out K1.out)
  go_wp2
  go_ret
  exact ⟨rfl, K.out⟩
end Go.Proofs.Ytclkflnonckajaa.Ac
