import Derived.Test.YtinoddpdfknkbabPt0
namespace Go.Proofs.Ytinoddpdfknkbab.Pc
open Go Go.RowKit
set_option linter.unusedVariables false
theorem drop_at {l : Is} {k : Nat} (h : k < l.length) : l.drop k = l.getD k 0 :: l.drop (k + 1) := by
  rw [List.drop_eq_getElem_cons h, List.getD_eq_getElem?_getD, List.getElem?_eq_getElem h]; rfl
theorem nwE_out {S r : Is} {f : Int} (h : fr f = false) : nwE S (f :: r) = 2 := by unfold nwE; rw [if_pos h]
theorem nwE_old {S r : Is} {f : Int} (h : fr f = true) (hm : f ∈ S) : nwE S (f :: r) = 7 := by unfold nwE; rw [if_neg (by rw [h]; decide), if_pos hm]
theorem nwE_on {S r : Is} {f : Int} (h : fr f = true) (hm : f ∉ S) : nwE S (f :: r) = nwE (S ++ [f]) r := by rw [nwE, if_neg (by rw [h]; decide), if_neg hm]
set_option maxHeartbeats 2000000 in
theorem cn_any (v : Value) (C : Ls) (A2 : Option Addr) (c2 : Nat) (fs : Is) (w : World) (h : CaIn w v C) (hS : Sz 1000 1000 C) (hf : ∀ k, k < C.length → ∀ f ∈ lAt C k, fr f = true) (hq : Bi w A2 fs) (hn : fs.length ≤ 1000) :
    Calls Try.prog 39 #[v, .slice A2 fs.length c2] w fun e w' => e = .returned (.int .i64 (nwE C.flatten fs)) ∧ Below w.heap.size w w' := by
  have hI := h
  obtain ⟨A, c, rfl, hc, r⟩ := h
  have K0 := hide (bal (brefl w) (.cells #[.slice A C.length c] 24))
  have X := hide (Box.new w 24 #[.slice A C.length c])
  have FO := hide (fof_any _ C _ (hI.below K0.out) hS hf)
  have HL := flat_len hS C.length (Nat.le_refl _)
  rw [List.take_length] at HL
  have hFl : C.flatten.length ≤ 1000000 := by have := hS.1; have := Nat.mul_le_mul_right 1000 hS.1; omega
  have s1 := cell_box1 X.out
  obtain ⟨er, her⟩ : ∃ er, er = nwE C.flatten fs := ⟨_, rfl⟩
  rw [← her]
  have Q := hide hq
  clear r hS hI hf hq HL
  generalize C.flatten = F at *
  have HE := hide her
  clear her
  go_enter Try.func39, Try.ntmps39
  go_wp2_with fail
  refine FO.out.mono ?_
  rintro e w1 ⟨rfl, M, hb⟩
  have K1 := hide (btrans K0.out hb)
  have HB1 := hide (show w.heap.size ≤ (w.alloc (.cells #[.slice A C.length c] 24)).heap.size + 1 by rw [alloc_size']; omega)
  have M0 := hide (show MapS w1 ((w.alloc (.cells #[.slice A C.length c] 24)).heap.size + 1) (F.length + 0) (F ++ fs.take 0) by simpa using M.out)
  have R0 := hide (show nwE F fs = nwE (F ++ fs.take 0) (fs.drop 0) by simp)
  clear hb M s1
  generalize (w.alloc (.cells #[.slice A C.length c] 24)).heap.size + 1 = mb at *
  go_wp2
  go_loopw [12] (fun i wr => ∃ k : Nat, k ≤ fs.length ∧ i = .int .i64 k ∧ Hid (Below w.heap.size w wr) ∧ Hid (MapS wr mb (F.length + k) (F ++ fs.take k)) ∧ Hid (nwE F fs = nwE (F ++ fs.take k) (fs.drop k))) (fun i _ => fs.length - (intOf i).toNat)
  case atStart => exact ⟨0, Nat.zero_le _, rfl, K1, M0, R0⟩
  case round =>
    clear K1 M0 R0
    obtain ⟨k, hk, rfl, K, M, RE⟩ := hrel
    by_cases hlt : k < fs.length
    · obtain ⟨b2, o2, rfl, hl2, x2⟩ := Q.out.cells K.out hlt
      have TS := hide (getD_snoc hlt)
      have DS := hide (drop_at hlt)
      have C1 := hide (fun w => fr_any (fs.getD k 0) w)
      generalize fs.getD k 0 = z at *
      generalize fs.take k = P at *
      cases hz : fr z
      · obtain rfl : er = 2 := by rw [HE.out, RE.out, DS.out]; exact nwE_out hz
        rw [hz] at C1
        clear hz
        go_wp2_with fail
        refine (C1.out _).mono ?_
        rintro e wf ⟨rfl, rfl⟩
        go_wp2
        go_ret
        exact ⟨rfl, K.out⟩
      · rw [hz] at C1
        have hlk := M.out.look hz
        have HFR := hide hz
        by_cases hm : z ∈ F ++ P
        · obtain rfl : er = 7 := by rw [HE.out, RE.out, DS.out]; exact nwE_old hz hm
          rw [decide_eq_true hm] at hlk
          clear hz hm
          go_wp2_with fail
          refine (C1.out _).mono ?_
          rintro e wf ⟨rfl, rfl⟩
          go_wp2
          go_ret
          exact ⟨rfl, K.out⟩
        · rw [decide_eq_false hm] at hlk
          have RE2 := hide (show nwE F fs = nwE (F ++ fs.take (k + 1)) (fs.drop (k + 1)) by rw [RE.out, DS.out, nwE_on hz hm, TS.out, List.append_assoc])
          have hkey := Maps.keyOf_int_mk Try.underlying3 (fr_wf hz)
          obtain ⟨D, hown, hD⟩ := M.out
          have HT := hide (hown.tidy kint)
          have HD := hide hD
          have HO := hide hown
          have hn63 : F.length + k < maxLen := by simp only [maxLen]; omega
          clear hz hm hD hown
          go_wp2_with fail
          refine (C1.out _).mono ?_
          rintro e wf ⟨rfl, rfl⟩
          go_wp2_with (at_mapUpdate; refine wpList_mapUpdate_own (H := Unit) _ rfl _ _ _ 52 rfl 3 4 kint Try.underlying52 (plainElem Try.prog 4) mb (F.length + k) D rfl HO.out hn63 _ _ _ rfl rfl hkey _ [] (plainElem_bool Try.underlying4 true) ?_; intro w1 hown1 hg1)
          have MP := hide (MapS.put HFR.out HD.out HT.out hown1)
          have KP := hide (K.out.grown hg1 K.out.size (fun k e => by cases e; exact HB1.out))
          clear hown1 hg1
          go_roundw
          case rel => exact ⟨k + 1, by omega, by go_num, KP, hide (by rw [TS.out, ← List.append_assoc]; exact MP.out), RE2⟩
          case measure => simp [intOf]; omega
    · obtain rfl : k = fs.length := by omega
      have HR := hide (show er = 0 by rw [HE.out, RE.out, List.drop_length]; rfl)
      go_wp2
      go_ret
      exact ⟨ret_int HR.out.symm, K.out⟩
end Go.Proofs.Ytinoddpdfknkbab.Pc
