import Derived.Test.YtinoddpdfknkbabMp
import Derived.Carry
namespace Go.Proofs.Ytinoddpdfknkbab.Pc
open Go Go.RowKit
set_option linter.unusedVariables false
/-- a store into the set -/
theorem MapS.put {w' : World} {b n : Nat} {S : Is} {f : Int} {D : DataW Unit} (hf : fr f = true)
    (hD : (∀ f : Int, fr f = true → D.atKey (.int .i64 f) (.lit (.bool false)) = .lit (.bool (decide (f ∈ S)))) ∧ (∀ f : Int, fr f = true → Maps.has D (.int .i64 f) = decide (f ∈ S)) ∧ Maps.size D = dd S)
    (hT : Maps.Tidy D) (h : w'.ownsMap Try.prog 3 (plainElem Try.prog 4) b (n + 1) (D.put (.int .i64 f) (.lit (.bool true)))) : MapS w' b (n + 1) (S ++ [f]) := by
  obtain ⟨h1, h2, h3⟩ := hD
  have hk : WideAt.IsKeyLit (.int .i64 f) := trivial
  refine ⟨_, h, fun g hg => ?_, fun g hg => ?_, ?_⟩
  · by_cases e : g = f
    · subst e
      rw [Maps.atKey_put_same hT.isMap hk]; simp
    · rw [Maps.atKey_put_other (by simpa using e), h1 g hg]; simp [e]
  · by_cases e : g = f
    · subst e
      rw [Maps.has_put_same hT.isMap hk]; simp
    · rw [Maps.has_put_other (by simpa using e), h2 g hg]; simp [e]
  · rw [Maps.size_put hT, h2 f hf, dd_snoc, h3]
    by_cases e : f ∈ S <;> simp [e]
theorem flat_len {m n : Nat} {C : Ls} (h : Sz m n C) : ∀ k, k ≤ C.length → (C.take k).flatten.length ≤ k * n
  | 0, _ => by simp
  | k + 1, hk => by
    rw [flat_snoc (by omega), List.length_append, Nat.add_mul]
    have := flat_len h k (by omega)
    have := h.2 k (by omega)
    omega
set_option maxHeartbeats 2000000 in
/-- the set of the frames of a cache -/
theorem fof_any (v : Value) (C : Ls) (w : World) (h : CaIn w v C) (hS : Sz 1000 1000 C) (hf : ∀ k, k < C.length → ∀ f ∈ lAt C k, fr f = true) :
    Calls Try.prog 36 #[v] w fun e w' => e = .returned (.map (some (w.heap.size + 1))) ∧ Hid (MapS w' (w.heap.size + 1) C.flatten.length C.flatten) ∧ Below w.heap.size w w' := by
  obtain ⟨A, c, rfl, _, r⟩ := h
  obtain ⟨W0, hW0⟩ : ∃ W0, W0 = (w.alloc (.cells #[.slice A C.length c] 24)).alloc (.map #[] 0) := ⟨_, rfl⟩
  have K0 := hide (show Below w.heap.size w W0 by rw [hW0]; exact bal (bal (brefl w) _) _)
  have X := hide (show Box W0 w.heap.size 24 #[.slice A C.length c] by rw [hW0]; exact (Box.new w 24 _).more _)
  have M0 := hide (show MapS W0 (w.heap.size + 1) 0 [] by rw [hW0]; have := MapS.made (w.alloc (.cells #[.slice A C.length c] 24)); rwa [alloc_size'] at this)
  have R := hide r
  have HF := hide hf
  have HL := hide (fun k hk => flat_len hS k hk)
  have HS := hide hS.2
  have ln := hS.1
  have s1 := X.out.cell 0
  simp at s1
  have hmm := @run_makeMap Try.prog
  clear r hS hf
  go_enter Try.func36, Try.ntmps36
  go_upto_region 2 with fail
  rw [← hW0]
  clear hW0 hmm
  go_wp2
  clear s1
  go_loopw [12] (fun i wr => ∃ k : Nat, k ≤ C.length ∧ i = .int .i64 k ∧ Hid (Below w.heap.size w wr) ∧ Hid (MapS wr (w.heap.size + 1) (C.take k).flatten.length (C.take k).flatten)) (fun i _ => C.length - (intOf i).toNat)
  case atStart => exact ⟨0, Nat.zero_le _, rfl, K0, M0⟩
  case round =>
    obtain ⟨k, hk, rfl, K, M⟩ := hrel
    by_cases hlt : k < C.length
    · obtain ⟨b1, o1, u1, rfl, hl1, x1, hv1⟩ := R.out.cells0 K.out hlt
      obtain ⟨D1, d1, rfl, _, q1⟩ := hv1
      have lk := HS.out k hlt
      have FS := hide (flat_snoc hlt)
      have HF1 := hide (HF.out k hlt)
      have hT : (C.take k).flatten.length ≤ 1000000 := by have := HL.out k hk; omega
      generalize lAt C k = l at *
      generalize (C.take k).flatten = P at *
      have Q := hide q1
      have KW := hide K.out
      have M1 := hide (show MapS wr (w.heap.size + 1) (P.length + 0) (P ++ l.take 0) by simpa using M.out)
      clear q1 K M
      go_wp2
      clear x1
      go_loopw [18] (fun i wr2 => ∃ j : Nat, j ≤ l.length ∧ i = .int .i64 j ∧ Hid (Below w.heap.size w wr2) ∧ Hid (MapS wr2 (w.heap.size + 1) (P.length + j) (P ++ l.take j))) (fun i _ => l.length - (intOf i).toNat)
      case atStart => exact ⟨0, Nat.zero_le _, rfl, KW, M1⟩
      case round =>
        obtain ⟨j, hj, rfl, K2, M2⟩ := hrel
        by_cases hlt2 : j < l.length
        · obtain ⟨b2, o2, rfl, hl2, x2⟩ := Q.out.cells K2.out hlt2
          have hfr := HF1.out _ (getD_mem hlt2)
          have TS := hide (getD_snoc hlt2)
          generalize l.getD j 0 = z at *
          have hkey := Maps.keyOf_int_mk Try.underlying3 (fr_wf hfr)
          obtain ⟨D, hown, hD⟩ := M2.out
          have HT := hide (hown.tidy kint)
          have HD := hide hD
          have HO := hide hown
          have HFR := hide hfr
          clear hD hown hfr
          have hn63 : P.length + j < maxLen := by simp only [maxLen]; omega
          have hB63 : w.heap.size ≤ w.heap.size + 1 := by omega
          go_wp2_with (at_mapUpdate; refine wpList_mapUpdate_own (H := Unit) _ rfl _ _ _ 52 rfl 3 4 kint Try.underlying52 (plainElem Try.prog 4) (w.heap.size + 1) (P.length + j) D rfl HO.out hn63 _ _ _ rfl rfl hkey _ [] (plainElem_bool Try.underlying4 true) ?_; intro w1 hown1 hg1)
          have MP := hide (MapS.put HFR.out HD.out HT.out hown1)
          have KP := hide (K2.out.grown hg1 K2.out.size (fun k e => by cases e; exact hB63))
          clear hown1 hg1
          go_wp2
          go_roundw
          case rel => exact ⟨j + 1, by omega, by go_num, KP, hide (by rw [TS.out, ← List.append_assoc]; exact MP.out)⟩
          case measure => simp [intOf]; omega
        · obtain rfl : j = l.length := by omega
          go_wp2
          go_roundw
          case rel => exact ⟨k + 1, by omega, by go_num, K2, hide (by rw [FS.out, List.length_append]; have := M2.out; rwa [List.take_length] at this)⟩
          case measure => simp [intOf]; omega
    · obtain rfl : k = C.length := by omega
      have M1 := hide (show MapS wr (w.heap.size + 1) C.flatten.length C.flatten by have := M.out; rwa [List.take_length] at this)
      clear M
      go_wp2
      go_ret
      exact ⟨rfl, M1, K.out⟩
end Go.Proofs.Ytinoddpdfknkbab.Pc
