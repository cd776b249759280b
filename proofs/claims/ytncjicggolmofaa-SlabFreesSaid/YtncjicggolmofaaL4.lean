import Derived.Test.YtncjicggolmofaaL3
import Derived.Test.YtncjicggolmofaaW3
namespace Go.Proofs.Ytncjicggolmofaa.Sb
open Go Go.RowKit
set_option linter.unusedVariables false
set_option linter.unusedSimpArgs false
theorem fC_mem {S : Sc} {o : Int} {n : Nat} (h : ∀ c ∈ S.sl, c.2.length ≤ n) : ∀ c ∈ fC S o, c.2.length ≤ n := fun c hc => by
  unfold fC at hc
  rcases List.mem_or_eq_of_mem_set hc with hc | rfl
  · exact h c hc
  · show ((us S (fI S o)).set _ _).length ≤ n
    rw [List.length_set]
    by_cases hk : fI S o < S.sl.length
    · exact h _ (cAt_mem hk)
    · unfold us cAt
      rw [List.getD_eq_getElem?_getD, List.getElem?_eq_none (by omega)]
      exact Nat.zero_le _
theorem fL_bd {S : Sc} {o : Int} {n m : Nat} (h : ∀ c ∈ S.sl, c.2.length ≤ n) (hm : S.sl.length ≤ m) : (fL S o).length ≤ m ∧ ∀ c ∈ fL S o, c.2.length ≤ n := by
  unfold fL
  split
  · split
    · refine ⟨by rw [List.length_append, List.length_take, List.length_drop]; omega, fun c hc => ?_⟩
      rcases List.mem_append.1 hc with hc | hc
      · exact h c (List.mem_of_mem_take hc)
      · exact h c (List.mem_of_mem_drop hc)
    · refine ⟨?_, fC_mem h⟩
      unfold fC
      rw [List.length_set]; exact hm
  · exact ⟨Nat.zero_le _, fun c hc => by cases hc⟩
set_option maxRecDepth 100000 in
set_option maxHeartbeats 16000000 in
theorem law_frees (A : Option Addr) (cp : Nat) (S : Sc) (n : Int) (w : World) (hr : RdC w A S.sl) (hn : S.sl.length ≤ 9223372036854775807) (hln : ∀ k, k < S.sl.length → (us S k).length ≤ 9223372036854775807) (hnr : n ≤ 9223372036854775807 ∧ -9223372036854775808 ≤ n) : Calls Try.prog 6 #[.agg #[.int .i64 S.ob, .slice A S.sl.length cp], .int .i64 n] w fun e w' => e = .returned (.bool true) ∧ Below w.heap.size w w' := by
  have AWK := hide (fun w => awake_any w)
  have K := hide (bal (brefl w) (.cells #[.int .i64 S.ob, .slice A S.sl.length cp] 24))
  have X := hide (Box.new w 24 #[.int .i64 S.ob, .slice A S.sl.length cp])
  have FW := hide (fun w' (h : Below w.heap.size w w') => few_any A cp S w' (hr.below h) hn)
  obtain ⟨g2, hg2⟩ : ∃ g, g = w.heap.size := ⟨_, rfl⟩
  have HG2 := hide hg2
  rw [← hg2] at X
  clear hg2
  have HR := hide (fun w' (h : Below w.heap.size w w') => hr.below h)
  clear hr
  go_enter Try.func6, Try.ntmps6
  go_upto_region 1 with fail
  rw [← HG2.out]
  generalize (w.alloc (.cells #[.int .i64 S.ob, .slice A S.sl.length cp] 24)) = w1 at *
  obtain ⟨x0, x1⟩ : w1.cell? ⟨g2, 0, none⟩ = some (.int .i64 S.ob) ∧ w1.cell? ⟨g2, 1, none⟩ = some (.slice A S.sl.length cp) := ⟨X.out.cell 0, X.out.cell 1⟩
  go_wp2_with fail
  refine (FW.out _ K.out).mono ?_
  rintro e w2 ⟨rfl, hb⟩
  replace K := hide (btrans K.out hb)
  replace X := hide (X.out.below hb)
  clear hb x0 x1 FW
  cases hf : fw S
  · go_wp2_with fail
    refine (AWK.out _).mono ?_
    rintro e w9 ⟨rfl, hb⟩
    replace K := hide (btrans K.out hb)
    clear hb
    go_wp2
    go_ret
    exact ⟨rfl, K.out⟩
  have hfw : S.sl.length ≤ 20 ∧ ∀ k, k < S.sl.length → (us S k).length ≤ 40 := of_decide_eq_true hf
  have FR := hide (fun w' (h : Below w.heap.size w w') => free_any A cp S n w' (HR.out w' h) (by omega) (fun k hk => by have := hfw.2 k hk; omega) hnr.2 hnr.1)
  have RF := hide (fun w' (h : Below w.heap.size w w') => rfree_any A cp S n w' (HR.out w' h) (by omega) (fun k hk => by have := hfw.2 k hk; omega) hnr.2 hnr.1)
  have BD := hide (fL_bd (S := S) (o := n) (n := 40) (m := 20) (fun c hc => by
    obtain ⟨j, hj, rfl⟩ := List.mem_iff_getElem.1 hc
    have := hfw.2 j hj
    unfold us at this
    rw [cAt_get hj] at this
    exact this) hfw.1)
  have SM := hide (fun A1 c1 A2 c2 W (h1 : RdC W A1 (fL S n)) (h2 : RdC W A2 (fL S n)) => (show Calls Try.prog 18 #[.agg #[.int .i64 (fO S n), .slice A1 (fL S n).length c1], .agg #[.int .i64 (fO S n), .slice A2 (fL S n).length c2]] W fun e w' => e = .returned (.bool true) ∧ Below W.heap.size W w' from
    (same_any A1 A2 c1 c2 ⟨fO S n, fL S n⟩ ⟨fO S n, fL S n⟩ W h1 h2 (by have := BD.out.1; show (fL S n).length ≤ _; omega) (by have := BD.out.1; show (fL S n).length ≤ _; omega) (fun k hk => by have := BD.out.2 _ (cAt_mem hk); show (cAt (fL S n) k).2.length ≤ _; omega) (fun k hk => by have := BD.out.2 _ (cAt_mem hk); show (cAt (fL S n) k).2.length ≤ _; omega)).mono (fun e w' h => ⟨by rw [h.1, decide_eq_true ⟨rfl, rfl⟩], h.2⟩)))
  clear hfw BD
  generalize fO S n = fo at *
  generalize fF S n = ff at *
  generalize fE S n = fe at *
  obtain ⟨fl, hfl⟩ : ∃ l, l = fL S n := ⟨_, rfl⟩
  rw [← hfl] at FR RF SM
  obtain ⟨ln, hln'⟩ : ∃ m, m = fl.length := ⟨_, rfl⟩
  rw [← hln'] at SM
  have HLN := hide hln'
  clear hfl hln'
  obtain ⟨x0, x1⟩ : w2.cell? ⟨g2, 0, none⟩ = some (.int .i64 S.ob) ∧ w2.cell? ⟨g2, 1, none⟩ = some (.slice A S.sl.length cp) := ⟨X.out.cell 0, X.out.cell 1⟩
  go_wp2_with fail
  refine (FR.out _ K.out).mono ?_
  rintro e w3 ⟨v, rfl, hD, hb⟩
  obtain ⟨A3, c3, ev, _⟩ := hD.c.form
  subst ev
  rw [← HLN.out] at hD ⊢
  have R3 := hide (show RdC w3 A3 fl from hD.c.rd)
  replace K := hide (btrans K.out hb)
  replace X := hide (X.out.below hb)
  clear hb x0 x1 hD FR
  have M := bal (brefl w3) (.cells #[.int .i64 fo, .slice A3 ln c3] 24)
  have X5 := hide (Box.new w3 24 #[.int .i64 fo, .slice A3 ln c3])
  replace K := hide (btrans K.out M)
  replace X := hide (X.out.below M)
  replace R3 := hide (R3.out.below M)
  clear M
  go_upto_region 4 with fail
  obtain ⟨g5, hg5⟩ : ∃ g, g = w3.heap.size := ⟨_, rfl⟩
  rw [← hg5] at X5 ⊢
  clear hg5
  generalize w3.alloc (.cells #[.int .i64 fo, .slice A3 ln c3] 24) = w4 at *
  obtain ⟨x0, x1⟩ : w4.cell? ⟨g2, 0, none⟩ = some (.int .i64 S.ob) ∧ w4.cell? ⟨g2, 1, none⟩ = some (.slice A S.sl.length cp) := ⟨X.out.cell 0, X.out.cell 1⟩
  go_wp2_with fail
  refine (RF.out _ K.out).mono ?_
  rintro e w6 ⟨v, rfl, hD, hb⟩
  obtain ⟨A6, c6, ev, _⟩ := hD.form
  subst ev
  rw [← HLN.out] at hD ⊢
  have R6 := hide (show RdC w6 A6 fl from hD.rd)
  replace K := hide (btrans K.out hb)
  replace X5 := hide (X5.out.below hb)
  replace R3 := hide (R3.out.below hb)
  clear hb x0 x1 hD RF X
  have M := bal (brefl w6) (.cells #[.int .i64 fo, .slice A6 ln c6] 24)
  have X8 := hide (Box.new w6 24 #[.int .i64 fo, .slice A6 ln c6])
  replace K := hide (btrans K.out M)
  replace X5 := hide (X5.out.below M)
  replace R3 := hide (R3.out.below M)
  replace R6 := hide (R6.out.below M)
  clear M
  go_upto_region 5 with fail
  obtain ⟨g8, hg8⟩ : ∃ g, g = w6.heap.size := ⟨_, rfl⟩
  rw [← hg8] at X8 ⊢
  clear hg8
  generalize w6.alloc (.cells #[.int .i64 fo, .slice A6 ln c6] 24) = w7 at *
  obtain ⟨x0, x1⟩ : w7.cell? ⟨g5, 0, none⟩ = some (.int .i64 fo) ∧ w7.cell? ⟨g5, 1, none⟩ = some (.slice A3 ln c3) := ⟨X5.out.cell 0, X5.out.cell 1⟩
  obtain ⟨y0, y1⟩ : w7.cell? ⟨g8, 0, none⟩ = some (.int .i64 fo) ∧ w7.cell? ⟨g8, 1, none⟩ = some (.slice A6 ln c6) := ⟨X8.out.cell 0, X8.out.cell 1⟩
  go_wp2_with fail
  refine (SM.out A3 c3 A6 c6 _ R3.out R6.out).mono ?_
  rintro e w8 ⟨rfl, hb⟩
  replace K := hide (btrans K.out hb)
  clear hb x0 x1 y0 y1
  go_wp2_with fail
  refine (AWK.out _).mono ?_
  rintro e w9 ⟨rfl, hb⟩
  replace K := hide (btrans K.out hb)
  clear hb
  go_wp2
  go_ret
  exact ⟨rfl, K.out⟩
end Go.Proofs.Ytncjicggolmofaa.Sb
