import Derived.Test.YtinoddpdfknkbabRd5
namespace Go.Proofs.Ytinoddpdfknkbab.Pc
open Go Go.RowKit
set_option linter.unusedVariables false
theorem info4 : (Try.prog.info? 4).map (fun i => (i.zero, i.size, i.bytes)) = some (some (.bool false), 1, 1) := by kernel_rfl
theorem rowIs_below {w w' : World} {g : Nat} {t : TypeId} {n : Nat} {f : Nat → Value} (h : w.rowIs g t n f) (hb : Below w.heap.size w w') : w'.rowIs g t n f := h.of_block (hb.block g h.lt)
theorem flat_pre {C : Ls} {k j : Nat} (hk : k < C.length) (hj : j < (lAt C k).length) : ∃ r, C.flatten = ((C.take k).flatten ++ (lAt C k).take j) ++ [(lAt C k).getD j 0] ++ r := by
  refine ⟨(lAt C k).drop (j + 1) ++ (C.drop (k + 1)).flatten, ?_⟩
  have e1 : C = C.take (k + 1) ++ C.drop (k + 1) := (List.take_append_drop _ _).symm
  have e2 : lAt C k = (lAt C k).take (j + 1) ++ (lAt C k).drop (j + 1) := (List.take_append_drop _ _).symm
  conv => lhs; rw [e1, List.flatten_append, flat_snoc hk]
  conv => lhs; rw [e2, getD_snoc hj]
  simp
theorem frE_dup {C : Ls} (h : ∀ k, k < C.length → ∀ f ∈ lAt C k, fr f = true) {k j : Nat} (hk : k < C.length) (hj : j < (lAt C k).length) (hm : (lAt C k).getD j 0 ∈ (C.take k).flatten ++ (lAt C k).take j) : frE C = 7 := by
  unfold frE
  rw [if_pos (frE_in h), if_neg]
  intro hn
  obtain ⟨r, e⟩ := flat_pre hk hj
  rw [e] at hn
  have h1 := (List.nodup_append.1 hn).1
  exact (List.nodup_append.1 h1).2.2 _ hm _ (by simp) rfl
theorem frE_nodup {C : Ls} (h : ∀ k, k < C.length → ∀ f ∈ lAt C k, fr f = true) (hn : C.flatten.Nodup) : frE C = 0 := by
  unfold frE
  rw [if_pos (frE_in h), if_pos hn]
theorem nodup_snoc {P : Is} {z : Int} (h : P.Nodup) (hz : z ∉ P) : (P ++ [z]).Nodup :=
  List.nodup_append.2 ⟨h, by simp, fun a ha b hb e => by simp at hb; subst hb; subst e; exact hz ha⟩
set_option maxHeartbeats 4000000 in
/-- the reference's check, once the number of lists fits -/
theorem rcheck_in (v : Value) (C : Ls) (w : World) (h : CaIn w v C) (hS : Sz 1000 1000 C) (h6 : ¬ ((C.length : Int) < 1 ∨ 6 < (C.length : Int))) :
    Calls Try.prog 15 #[v, .int .i64 (C.length : Nat)] w fun e w' => e = .returned (.int .i64 (frE C)) ∧ Below w.heap.size w w' := by
  obtain ⟨A, c, rfl, hc, r⟩ := h
  obtain ⟨zz, hzz⟩ : ∃ zz : Array Value, zz = madeCells #[.bool false] 256 := ⟨_, rfl⟩
  have hmk : ∀ w, (Instr.makeSlice 50 (.int .i64 256) (.int .i64 256)).run Try.prog w = .ok (.slice (some ⟨w.heap.size, 0, none⟩) 256 256) (w.alloc (.cells zz 4)) := fun w => by
    have := run_make_row' (P := Try.prog) 50 4 (.bool false) 1 Try.underlying50 info4 rfl .i64 .i64 256 (by omega) (by omega) w
    rw [hzz]; exact this
  have MK := hide (fun (W : World) => (show (W.alloc (.cells zz 4)).rowIs W.heap.size 4 256 (fun j => .bool (decide ((j : Int) ∈ ([] : Is)))) by
    rw [hzz]; exact (World.rowIs_made W (.bool false) 256 4).congr fun i _ => by simp))
  have HMK := hide hmk
  clear hzz hmk
  obtain ⟨W0, hW0⟩ : ∃ W0, W0 = (w.alloc (.cells #[.slice A C.length c] 24)) := ⟨_, rfl⟩
  have K0 := hide (show Below w.heap.size w W0 by rw [hW0]; exact bal (brefl w) _)
  have X := hide (show Box W0 w.heap.size 24 #[.slice A C.length c] by rw [hW0]; exact (Box.new w 24 _))
  have R := hide (r.below K0.out)
  have HS := hide hS.2
  have HL := hide (fun k hk => flat_len hS k hk)
  have ln := hS.1
  clear r hS
  have s1 := X.out.cell 0
  simp at s1
  obtain ⟨er, her⟩ : ∃ er, er = frE C := ⟨_, rfl⟩
  rw [← her]
  have HE := hide her
  have d1 : decide ((C.length : Int) < 1) = false := decide_eq_false (by omega)
  have d2 : decide (6 < (C.length : Int)) = false := decide_eq_false (by omega)
  have d3 : decide (C.length < 1) = false := decide_eq_false (by omega)
  have d4 : decide (6 < C.length) = false := decide_eq_false (by omega)
  have l1 : 1 ≤ C.length := by omega
  have l6 : C.length ≤ 6 := by omega
  clear her h6
  go_enter Try.func15, Try.ntmps15
  go_upto_region 1 with fail
  rw [← hW0]
  clear hW0
  go_wp2
  clear s1 d1 d2 d3 d4
  go_loop [28] (fun i => ∃ k : Nat, k ≤ C.length ∧ i = .int .i64 k ∧ Hid (∀ j, j < k → ∀ f ∈ lAt C j, fr f = true)) (fun i => C.length - (intOf i).toNat)
  case atStart => exact ⟨0, Nat.zero_le _, rfl, hide (fun j hj => by omega)⟩
  case round =>
    obtain ⟨k, hk, rfl, HK⟩ := hrel
    by_cases hlt : k < C.length
    · obtain ⟨b1, o1, u1, rfl, hl1, x1, hv1⟩ := R.out.cells (brefl _) hlt
      obtain ⟨D1, d1, rfl, _, q1⟩ := hv1
      have lk := HS.out k hlt
      have OUT := hide (fun i hi hf => HE.out.trans (frE_out (C := C) (k := k) (i := i) hlt hi hf))
      have HK2 := hide (fun (hh : ∀ f ∈ lAt C k, fr f = true) => (fun j hj => by
        by_cases e : j = k
        · subst e; exact hh
        · exact HK.out j (by omega) : ∀ j, j < k + 1 → ∀ f ∈ lAt C j, fr f = true))
      generalize lAt C k = l at *
      have Q := hide q1
      clear q1
      go_wp2
      clear x1
      go_loop [34] (fun i => ∃ j : Nat, j ≤ l.length ∧ i = .int .i64 j ∧ Hid (∀ i, i < j → fr (l.getD i 0) = true)) (fun i => l.length - (intOf i).toNat)
      case atStart => exact ⟨0, Nat.zero_le _, rfl, hide (fun j hj => by omega)⟩
      case round =>
        obtain ⟨j, hj, rfl, HJ⟩ := hrel
        by_cases hlt2 : j < l.length
        · obtain ⟨b2, o2, rfl, hl2, x2⟩ := Q.out.cells (brefl _) hlt2
          have HJ2 := hide (fun (hh : fr (l.getD j 0) = true) => (fun i hi => by
            by_cases e : i = j
            · subst e; exact hh
            · exact HJ.out i (by omega) : ∀ i, i < j + 1 → fr (l.getD i 0) = true))
          have OUT2 := hide (fun hf => OUT.out j hlt2 hf)
          have C1 := hide (fun w => out_any (l.getD j 0) w)
          generalize l.getD j 0 = z at *
          cases hz : fr z
          · obtain rfl : er = 2 := OUT2.out hz
            rw [hz] at C1
            clear hz
            go_wp2_with fail
            refine (C1.out _).mono ?_
            rintro e w1 ⟨rfl, rfl⟩
            go_wp2
            go_ret
            exact ⟨rfl, K0.out⟩
          · rw [hz] at C1
            have HZZ := hide (HJ2.out hz)
            clear hz
            go_wp2_with fail
            refine (C1.out _).mono ?_
            rintro e w1 ⟨rfl, rfl⟩
            go_wp2
            go_round
            case rel => exact ⟨j + 1, by omega, by go_num, HZZ⟩
            case measure => simp [intOf]; omega
        · obtain rfl : j = l.length := by omega
          have HF := hide (HK2.out (fun f hf => by
            obtain ⟨i, hi, rfl⟩ := mem_getD hf
            exact HJ.out i hi))
          go_wp2
          go_round
          case rel => exact ⟨k + 1, by omega, by go_num, HF⟩
          case measure => simp [intOf]; omega
    · obtain rfl : k = C.length := by omega
      have s1 := X.out.cell 0
      simp at s1
      have hmk := HMK.out
      have RI := hide (MK.out W0)
      have K1 := hide (bal (brefl W0) (.cells zz 4))
      have hgb : w.heap.size < W0.heap.size := X.out.lt
      have s2 := (X.out.below K1.out).cell 0
      simp at s2
      go_wp2
      clear s1 s2 hmk
      generalize W0.alloc (.cells zz 4) = W1 at *
      go_loopw [46] (fun i wr => ∃ k : Nat, k ≤ C.length ∧ i = .int .i64 k ∧ Hid (Below W0.heap.size W0 wr) ∧ Hid (wr.rowIs W0.heap.size 4 256 (fun j => .bool (decide ((j : Int) ∈ (C.take k).flatten)))) ∧ Hid ((C.take k).flatten.Nodup)) (fun i _ => C.length - (intOf i).toNat)
      case atStart => exact ⟨0, Nat.zero_le _, rfl, K1, RI, hide List.nodup_nil⟩
      case round =>
        obtain ⟨k, hk, rfl, K, RI, ND⟩ := hrel
        by_cases hlt : k < C.length
        · obtain ⟨b1, o1, u1, rfl, hl1, x1, hv1⟩ := R.out.cells0 K.out hlt
          obtain ⟨D1, d1, rfl, _, q1⟩ := hv1
          have lk := HS.out k hlt
          have FS := hide (flat_snoc hlt)
          have DUP := hide (fun j hj hm => HE.out.trans (frE_dup (C := C) HK.out (k := k) (j := j) hlt hj hm))
          have HF1 := hide (HK.out k hlt)
          generalize lAt C k = l at *
          generalize (C.take k).flatten = P at *
          have Q := hide q1
          have KW := hide K.out
          have RI1 := hide (show wr.rowIs W0.heap.size 4 256 (fun j => .bool (decide ((j : Int) ∈ P ++ l.take 0))) by simpa using RI.out)
          have ND1 := hide (show (P ++ l.take 0).Nodup by simpa using ND.out)
          clear q1 K RI ND
          go_wp2
          clear x1
          go_loopw [52] (fun i wr2 => ∃ j : Nat, j ≤ l.length ∧ i = .int .i64 j ∧ Hid (Below W0.heap.size W0 wr2) ∧ Hid (wr2.rowIs W0.heap.size 4 256 (fun i => .bool (decide ((i : Int) ∈ P ++ l.take j)))) ∧ Hid ((P ++ l.take j).Nodup)) (fun i _ => l.length - (intOf i).toNat)
          case atStart => exact ⟨0, Nat.zero_le _, rfl, KW, RI1, ND1⟩
          case round =>
            obtain ⟨j, hj, rfl, K2, RI2, ND2⟩ := hrel
            by_cases hlt2 : j < l.length
            · obtain ⟨b2, o2, rfl, hl2, x2⟩ := Q.out.cells K2.out hlt2
              have hfr : 0 ≤ l.getD j 0 ∧ l.getD j 0 < 256 := by simpa [fr] using HF1.out _ (getD_mem hlt2)
              have TS := hide (getD_snoc hlt2)
              have DUP2 := hide (fun hm => DUP.out j hlt2 hm)
              generalize l.getD j 0 = z at *
              obtain ⟨f, rfl⟩ : ∃ f : Nat, z = f := ⟨z.toNat, by omega⟩
              have hf256 : f < 256 := by omega
              have hfi : (f : Int) < 256 := by omega
              have c0 := RI2.out.cell hf256
              have f0 := RI2.out.frozen f
              by_cases hm : (f : Int) ∈ P ++ l.take j
              · obtain rfl : er = 7 := DUP2.out hm
                rw [decide_eq_true hm] at c0
                clear hm hfr
                go_wp2
                go_ret
                exact ⟨rfl, btrans K0.out K2.out⟩
              · rw [decide_eq_false hm] at c0
                have NS := hide (nodup_snoc ND2.out hm)
                clear hm hfr
                go_wp2
                go_roundw
                case rel => exact ⟨j + 1, by omega, by go_num, hide (bset K2.out (Nat.le_refl _) _), hide (by
                  rw [TS.out, ← List.append_assoc]
                  exact (RI2.out.set f (.bool true)).congr fun i _ => by
                    by_cases e : i = f
                    · subst e; simp
                    · have e2 : ¬ ((i : Int) = (f : Int)) := by omega
                      simp [e, e2]), hide (by rw [TS.out, ← List.append_assoc]; exact NS.out)⟩
                case measure => simp [intOf]; omega
            · obtain rfl : j = l.length := by omega
              go_wp2
              go_roundw
              case rel => exact ⟨k + 1, by omega, by go_num, K2, hide (by rw [FS.out]; have := RI2.out; rwa [List.take_length] at this), hide (by rw [FS.out]; have := ND2.out; rwa [List.take_length] at this)⟩
              case measure => simp [intOf]; omega
        · obtain rfl : k = C.length := by omega
          have HR := hide (show er = 0 from HE.out.trans (frE_nodup HK.out (by have := ND.out; rwa [List.take_length] at this)))
          clear ND RI
          go_wp2
          go_ret
          exact ⟨ret_int HR.out.symm, btrans K0.out K.out⟩
end Go.Proofs.Ytinoddpdfknkbab.Pc
