import Derived.Test.YtiopfeleaifpbabW4
import Derived.Deep.RegionWith
namespace Go.Proofs.Ytiopfeleaifpbab.Bd
open Go Go.RowKit
set_option linter.unusedVariables false
set_option maxHeartbeats 4000000 in
theorem allow_any (A : Option Addr) (cp : Nat) (l : Is) (m : Mk) (o x : Int) (w : World) (hr : Bi w A l) (hc : l.length ≤ cp) (hn : l.length ≤ 9223372036854775807) : Calls Try.prog 19 #[.slice A l.length cp, .agg #[.int .i64 m.lo, .int .i64 m.md, .int .i64 m.hi], .int .i64 o, .int .i64 x] w fun e w' => e = .returned (.bool (decide (alwP l m o x))) ∧ Below w.heap.size w w' := by
  have FL := hide (fun w1 => flo_any m x w1)
  have IL := hide (fun w1 (hb : Below w.heap.size w w1) => islist_any A cp l w1 (hr.below hb) hc hn)
  have FF := hide (fun (f : Nat) w1 (hb : Below w.heap.size w w1) (hv : valL l) (hf : f ≤ 4) => ffrom_any A cp l f w1 (hr.below hb) hc hn hv hf)
  have AB := hide (fun (hv : valL l) (f : Nat) => abN_bd hv f 5 (Nat.le_refl _))
  obtain ⟨res, hres⟩ : ∃ r, r = decide (alwP l m o x) := ⟨_, rfl⟩
  rw [← hres]
  have HRes := hide hres
  clear hr hres
  have FB := flM_bd (m := m) (x := x)
  have HD := hide (show alwP l m o x ↔ 0 ≤ flM m x ∧ valL l ∧ 0 ≤ o ∧ o ≤ 4 ∧ ∀ j : Nat, j ≤ 4 → (j : Int) ≤ o → flM m x / 2 ^ j ≤ ab l j - 2 ^ o.toNat from Iff.rfl)
  generalize flM m x = fl at *
  obtain ⟨a, b, c⟩ := m
  show Calls Try.prog 19 #[.slice A l.length cp, .agg #[.int .i64 a, .int .i64 b, .int .i64 c], .int .i64 o, .int .i64 x] w _
  obtain ⟨g, hg⟩ : ∃ g, g = w.heap.size := ⟨_, rfl⟩
  obtain ⟨W0, hW0⟩ : ∃ W0, W0 = w.alloc (.cells #[.int .i64 a, .int .i64 b, .int .i64 c] 23) := ⟨_, rfl⟩
  have X := hide (show Box W0 g 23 #[.int .i64 a, .int .i64 b, .int .i64 c] by rw [hW0, hg]; exact Box.new w 23 _)
  have K := hide (show Below w.heap.size w W0 by rw [hW0]; exact bal (brefl w) _)
  have x0 : W0.cell? ⟨g, 0, none⟩ = some (.int .i64 a) := X.out.cell 0
  have x1 : W0.cell? ⟨g, 1, none⟩ = some (.int .i64 b) := X.out.cell 1
  have x2 : W0.cell? ⟨g, 2, none⟩ = some (.int .i64 c) := X.out.cell 2
  by_cases hf : 0 ≤ fl
  · have hf1 : ¬ fl < 0 := by omega
    by_cases hv : valL l
    · have dv := decide_eq_true hv
      by_cases h0 : 0 ≤ o
      · have h01 : ¬ o < 0 := by omega
        by_cases h4 : o ≤ 4
        · have h41 : ¬ 4 < o := by omega
          have HV := hide hv
          obtain ⟨k, rfl⟩ : ∃ k : Nat, o = k := ⟨o.toNat, by omega⟩
          have hk4 : k ≤ 4 := by omega
          obtain ⟨p1, p2⟩ := pw_le (k := k) (by omega)
          clear hv
          go_enter Try.func19, Try.ntmps19
          go_upto_region 1 with fail
          rw [← hW0, ← hg]
          clear hW0 hg
          go_wp2_with (first | (go_at_call 15; refine (FL.out _).mono ?_; rintro e w1 ⟨rfl, hb⟩; replace K := hide (btrans K.out hb); clear hb x0 x1 x2) | (go_at_call 29; refine (IL.out _ K.out).mono ?_; rintro e w2 ⟨rfl, rfl⟩))
          go_loopw [10] (fun a wr => ∃ f : Nat, f ≤ k + 1 ∧ a = .int .i64 f ∧ Hid (Below w.heap.size w wr) ∧ Hid (∀ j : Nat, j < f → fl / 2 ^ j ≤ ab l j - 2 ^ k)) (fun a _ => 6 - (intOf a).toNat)
          case atStart => exact ⟨0, by omega, rfl, K, hide (fun j h => by omega)⟩
          case round =>
            clear K
            obtain ⟨f, hf5, rfl, K, N⟩ := hrel
            by_cases hlt : f ≤ k
            · have hlt2 : (f : Int) ≤ (k : Int) := by omega
              have hf0 : (0 : Int) ≤ (f : Int) := by omega
              have F1 := hide (fun w1 (hb : Below w.heap.size w w1) => FF.out f w1 hb HV.out (by omega))
              have bd := AB.out HV.out f
              have N2 := hide (show ∀ (h : fl / 2 ^ f ≤ ab l f - 2 ^ k) (j : Nat), j < f + 1 → fl / 2 ^ j ≤ ab l j - 2 ^ k from fun h j hj => by
                by_cases e : j = f
                · rw [e]; exact h
                · exact N.out j (by omega))
              have N3 := hide (show ¬ (fl / 2 ^ f ≤ ab l f - 2 ^ k) → decide (alwP l ⟨a, b, c⟩ k x) = false from fun h => decide_eq_false fun v => h (by have := (HD.out.1 v).2.2.2.2 f (by omega) hlt2; rwa [Int.toNat_natCast] at this))
              have bd : 0 ≤ ab l f ∧ ab l f ≤ 400000 := by unfold ab; omega
              generalize ab l f = z at *
              have hw : IntKind.i64.wrap ((2 : Int) ^ k) = 2 ^ k := IntWalk.i64_in _ (by omega)
              have hw2 : IntKind.i64.wrap (z - (2 : Int) ^ k) = z - 2 ^ k := IntWalk.i64_in _ (by omega)
              have KD := hide (show Below w.heap.size w wr.drew from below_drewN K.out 1)
              go_wp2
              go_region_with (go_at_call 30; refine (F1.out _ (by first | exact K.out | exact KD.out)).mono ?_; rintro e w' ⟨rfl, rfl⟩)
              clear N HD
              by_cases hcmp : fl / 2 ^ f ≤ z - 2 ^ k
              · have hcm2 : ¬ z - 2 ^ k < fl / 2 ^ f := by omega
                go_wp2
                go_roundw
                case rel => exact ⟨f + 1, by omega, by go_num, KD, hide (N2.out hcmp)⟩
                case measure => simp [intOf]; omega
              · have hcm2 : z - 2 ^ k < fl / 2 ^ f := by omega
                have EE := hide (N3.out (by omega))
                go_wp2
                go_ret
                exact ⟨ret_bool (by rw [HRes.out, EE.out]), KD.out⟩
            · have EE := hide (show decide (alwP l ⟨a, b, c⟩ k x) = true from decide_eq_true (HD.out.2 ⟨hf, HV.out, h0, h4, fun j _ hj => by rw [Int.toNat_natCast]; exact N.out j (by omega)⟩))
              have hlt2 : ¬ (f : Int) ≤ (k : Int) := by omega
              go_wp2
              go_ret
              exact ⟨ret_bool (by rw [HRes.out, EE.out]), K.out⟩
        · have EE := hide (show decide (alwP l ⟨a, b, c⟩ o x) = false from decide_eq_false fun v => h4 (HD.out.1 v).2.2.2.1)
          have h41 : 4 < o := by omega
          clear HD AB FF
          go_enter Try.func19, Try.ntmps19
          go_upto_region 1 with fail
          rw [← hW0, ← hg]
          clear hW0 hg
          go_wp2_with (first | (go_at_call 15; refine (FL.out _).mono ?_; rintro e w1 ⟨rfl, hb⟩; replace K := hide (btrans K.out hb); clear hb x0 x1 x2) | (go_at_call 29; refine (IL.out _ K.out).mono ?_; rintro e w2 ⟨rfl, rfl⟩))
          go_ret
          exact ⟨ret_bool (by rw [HRes.out, EE.out]), K.out⟩
      · have EE := hide (show decide (alwP l ⟨a, b, c⟩ o x) = false from decide_eq_false fun v => h0 (HD.out.1 v).2.2.1)
        have h01 : o < 0 := by omega
        clear HD AB FF
        go_enter Try.func19, Try.ntmps19
        go_upto_region 1 with fail
        rw [← hW0, ← hg]
        clear hW0 hg
        go_wp2_with (first | (go_at_call 15; refine (FL.out _).mono ?_; rintro e w1 ⟨rfl, hb⟩; replace K := hide (btrans K.out hb); clear hb x0 x1 x2) | (go_at_call 29; refine (IL.out _ K.out).mono ?_; rintro e w2 ⟨rfl, rfl⟩))
        go_ret
        exact ⟨ret_bool (by rw [HRes.out, EE.out]), K.out⟩
    · have EE := hide (show decide (alwP l ⟨a, b, c⟩ o x) = false from decide_eq_false fun v => hv (HD.out.1 v).2.1)
      have dv := decide_eq_false hv
      clear hv
      clear HD AB FF
      go_enter Try.func19, Try.ntmps19
      go_upto_region 1 with fail
      rw [← hW0, ← hg]
      clear hW0 hg
      go_wp2_with (first | (go_at_call 15; refine (FL.out _).mono ?_; rintro e w1 ⟨rfl, hb⟩; replace K := hide (btrans K.out hb); clear hb x0 x1 x2) | (go_at_call 29; refine (IL.out _ K.out).mono ?_; rintro e w2 ⟨rfl, rfl⟩))
      go_ret
      exact ⟨ret_bool (by rw [HRes.out, EE.out]), K.out⟩
  · have EE := hide (show decide (alwP l ⟨a, b, c⟩ o x) = false from decide_eq_false fun v => hf (HD.out.1 v).1)
    have hf1 : fl < 0 := by omega
    clear HD AB FF
    go_enter Try.func19, Try.ntmps19
    go_upto_region 1 with fail
    rw [← hW0, ← hg]
    clear hW0 hg
    go_wp2_with (first | (go_at_call 15; refine (FL.out _).mono ?_; rintro e w1 ⟨rfl, hb⟩; replace K := hide (btrans K.out hb); clear hb x0 x1 x2) | (go_at_call 29; refine (IL.out _ K.out).mono ?_; rintro e w2 ⟨rfl, rfl⟩))
    go_ret
    exact ⟨ret_bool (by rw [HRes.out, EE.out]), K.out⟩
end Go.Proofs.Ytiopfeleaifpbab.Bd
