import Derived.Test.YtinoddpdfknkbabRd3
namespace Go.Proofs.Ytinoddpdfknkbab.Pc
open Go Go.RowKit
set_option linter.unusedVariables false
theorem frE_all {C : Ls} (h : ∀ k, k < C.length → ∀ f ∈ lAt C k, fr f = true) : frE C = if decide (dd C.flatten < C.flatten.length) then 7 else 0 := by
  unfold frE
  rw [if_pos (frE_in h), dd_lt]
  by_cases e : C.flatten.Nodup <;> simp [e]
theorem mem_getD {l : Is} {f : Int} (h : f ∈ l) : ∃ k, k < l.length ∧ l.getD k 0 = f := by
  obtain ⟨k, hk, rfl⟩ := List.mem_iff_getElem.1 h
  exact ⟨k, hk, by rw [List.getD_eq_getElem?_getD, List.getElem?_eq_getElem hk]; rfl⟩
set_option maxHeartbeats 2000000 in
theorem cf_any (v : Value) (C : Ls) (w : World) (h : CaIn w v C) (hS : Sz 1000 1000 C) :
    Calls Try.prog 29 #[v] w fun e w' => e = .returned (.int .i64 (frE C)) ∧ Below w.heap.size w w' := by
  have hI := h
  obtain ⟨A, c, rfl, hc, r⟩ := h
  obtain ⟨W0, hW0⟩ : ∃ W0, W0 = (w.alloc (.cells #[.slice A C.length c] 24)) := ⟨_, rfl⟩
  have K0 := hide (show Below w.heap.size w W0 by rw [hW0]; exact bal (brefl w) _)
  have X := hide (show Box W0 w.heap.size 24 #[.slice A C.length c] by rw [hW0]; exact (Box.new w 24 _))
  have R := hide (r.below K0.out)
  have IN := hide (hI.below K0.out)
  have HS := hide hS.2
  have HZ := hide hS
  have HL := hide (fun k hk => flat_len hS k hk)
  have ln := hS.1
  clear r hS hI
  have s1 := X.out.cell 0
  simp at s1
  obtain ⟨er, her⟩ : ∃ er, er = frE C := ⟨_, rfl⟩
  rw [← her]
  have HE := hide her
  clear her
  go_enter Try.func29, Try.ntmps29
  go_upto_region 2 with fail
  rw [← hW0]
  clear hW0
  go_wp2
  clear s1
  go_loop [3, 11] (fun q i => ∃ k : Nat, k ≤ C.length ∧ i = .int .i64 k ∧ q = .int .i64 ((C.take k).flatten.length : Nat) ∧ Hid (∀ j, j < k → ∀ f ∈ lAt C j, fr f = true)) (fun _ i => C.length - (intOf i).toNat)
  case atStart => exact ⟨0, Nat.zero_le _, rfl, rfl, hide (fun j hj => by omega)⟩
  case round =>
    obtain ⟨k, hk, rfl, rfl, HK⟩ := hrel
    have hT : (C.take k).flatten.length ≤ 1000000 := by have := HL.out k hk; omega
    by_cases hlt : k < C.length
    · obtain ⟨b1, o1, u1, rfl, hl1, x1, hv1⟩ := R.out.cells (brefl _) hlt
      obtain ⟨D1, d1, rfl, _, q1⟩ := hv1
      have lk := HS.out k hlt
      have FS := hide (flat_snoc hlt)
      have OUT := hide (fun i hi hf => HE.out.trans (frE_out (C := C) (k := k) (i := i) hlt hi hf))
      have HK2 := hide (fun (hh : ∀ f ∈ lAt C k, fr f = true) => (fun j hj => by
        by_cases e : j = k
        · subst e; exact hh
        · exact HK.out j (by omega) : ∀ j, j < k + 1 → ∀ f ∈ lAt C j, fr f = true))
      generalize lAt C k = l at *
      generalize (C.take k).flatten = P at *
      have Q := hide q1
      clear q1
      go_wp2
      clear x1
      go_loop [17] (fun i => ∃ j : Nat, j ≤ l.length ∧ i = .int .i64 j ∧ Hid (∀ i, i < j → fr (l.getD i 0) = true)) (fun i => l.length - (intOf i).toNat)
      case atStart => exact ⟨0, Nat.zero_le _, rfl, hide (fun j hj => by omega)⟩
      case round =>
        obtain ⟨j, hj, rfl, HJ⟩ := hrel
        by_cases hlt2 : j < l.length
        · obtain ⟨b2, o2, rfl, hl2, x2⟩ := Q.out.cells (brefl _) hlt2
          have HJ2 := hide (fun (hh : fr (l.getD j 0) = true) => (fun i hi => by
            by_cases e : i = j
            · subst e; exact hh
            · exact HJ.out i (by omega) : ∀ i, i < j + 1 → fr (l.getD i 0) = true))
          have OUT2 := hide (fun hf => OUT.out j hlt2 hf)
          have C1 := hide (fun w => fr_any (l.getD j 0) w)
          generalize l.getD j 0 = z at *
          cases hz : fr z
          · obtain rfl : er = 2 := OUT2.out hz
            rw [hz] at C1
            clear hz
            go_wp2_with fail
            refine (C1.out _).mono ?_
            rintro e w1 ⟨rfl, rfl⟩
            go_wp2
            go_ret
            exact ⟨rfl, K0.out⟩
          · rw [hz] at C1
            have HZZ := hide (HJ2.out hz)
            clear hz
            go_wp2_with fail
            refine (C1.out _).mono ?_
            rintro e w1 ⟨rfl, rfl⟩
            go_wp2
            go_round
            case rel => exact ⟨j + 1, by omega, by go_num, HZZ⟩
            case measure => simp [intOf]; omega
        · obtain rfl : j = l.length := by omega
          have HF := hide (HK2.out (fun f hf => by
            obtain ⟨i, hi, rfl⟩ := mem_getD hf
            exact HJ.out i hi))
          have hT2 := HL.out (k + 1) hlt
          rw [FS.out, List.length_append] at hT2
          go_wp2
          go_round
          case rel => exact ⟨k + 1, by omega, by go_num, by rw [FS.out, List.length_append]; go_num, HF⟩
          case measure => simp [intOf]; omega
    · obtain rfl : k = C.length := by omega
      have HT := hide (HE.out.trans (frE_all HK.out))
      rw [List.take_length] at hT ⊢
      have FO := hide (fof_any _ C W0 IN.out HZ.out HK.out)
      have hdd : dd C.flatten ≤ C.flatten.length := by unfold dd; have := (ddr_le C.flatten.reverse).1; rwa [List.length_reverse] at this
      have s1 := X.out.cell 0
      simp at s1
      generalize C.flatten = F at *
      clear IN HK R
      go_wp2_with fail
      refine FO.out.mono ?_
      rintro e w1 ⟨rfl, M, hb⟩
      obtain ⟨D, hown, _, _, hsz⟩ := M.out
      have HO := hide hown
      have HZ2 := hide hsz
      have HB := hide hb
      clear hown hsz hb
      by_cases e : dd F < F.length
      · have hd : decide (Maps.size D < F.length) = true := decide_eq_true (by rw [HZ2.out]; omega)
        have hd2 : decide ((Maps.size D : Int) < (F.length : Int)) = true := decide_eq_true (by rw [HZ2.out]; omega)
        have HR := hide (show er = 7 by rw [HT.out, decide_eq_true e]; rfl)
        clear e HT
        go_wp2_with (at_len; refine wpList_len_own _ rfl _ 52 rfl 3 4 Try.underlying52 _ _ _ D rfl HO.out ?_)
        go_ret
        exact ⟨ret_int HR.out.symm, btrans K0.out HB.out⟩
      · have hd : decide (Maps.size D < F.length) = false := decide_eq_false (by rw [HZ2.out]; omega)
        have hd2 : decide ((Maps.size D : Int) < (F.length : Int)) = false := decide_eq_false (by rw [HZ2.out]; omega)
        have HR := hide (show er = 0 by rw [HT.out, decide_eq_false e]; rfl)
        clear e HT
        go_wp2_with (at_len; refine wpList_len_own _ rfl _ 52 rfl 3 4 Try.underlying52 _ _ _ D rfl HO.out ?_)
        go_ret
        exact ⟨ret_int HR.out.symm, btrans K0.out HB.out⟩
end Go.Proofs.Ytinoddpdfknkbab.Pc
