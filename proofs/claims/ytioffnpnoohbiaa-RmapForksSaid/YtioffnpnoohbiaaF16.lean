import Derived.Test.YtioffnpnoohbiaaF15
namespace Go.Proofs.Ytioffnpnoohbiaa.Rm
open Go Go.RowKit
set_option linter.unusedVariables false
set_option linter.unusedSimpArgs false
/-- the members of the first k, and their copies, sorted -/
def Out (L : List Mp) (f t : Int) (k : Nat) (R : List Mp) : Prop := Srt R ∧ R.Perm (L.take k ++ mv (L.take k) f t)
theorem mv_snoc {L : List Mp} {f t : Int} {k : Nat} (h : k < L.length) : ((at' L k).s = f → mv (L.take (k + 1)) f t = mv (L.take k) f t ++ [⟨t, (at' L k).p⟩]) ∧ ((at' L k).s ≠ f → mv (L.take (k + 1)) f t = mv (L.take k) f t) := by
  unfold mv
  rw [take_snoc L h, List.filter_append]
  refine ⟨fun g => ?_, fun g => ?_⟩
  · rw [List.filter_cons, if_pos (decide_eq_true g), List.map_append]; rfl
  · rw [List.filter_cons, if_neg (by simpa using g)]; simp
theorem tk_mem {L : List Mp} {k : Nat} {x : Mp} (h : x ∈ L.take k) : ∃ j, j < k ∧ j < L.length ∧ at' L j = x := by
  obtain ⟨j, hj, e⟩ := mem_at h
  rw [List.length_take] at hj
  exact ⟨j, by omega, by omega, by rw [← e, at_take (by omega)]⟩
/-- neither the next one nor its copy is there -/
theorem out_new {L : List Mp} {f t : Int} {k : Nat} {R : List Mp} (hS : Srt L) (hC : ¬ clash L f t) (h : Out L f t k R) (hk : k < L.length) : at' L k ∉ R ∧ ((at' L k).s = f → (⟨t, (at' L k).p⟩ : Mp) ∉ ins R (at' L k)) := by
  have m1 : ∀ x, x ∈ R → x ∈ L.take k ∨ x ∈ mv (L.take k) f t := fun x hx => List.mem_append.1 (h.2.mem_iff.1 hx)
  have e1 : ∀ x, x ∈ mv (L.take k) f t → x ∈ mv L f t := fun x hx => by
    obtain ⟨a, y, b, c, d⟩ := mv_mem.1 hx
    exact mv_mem.2 ⟨a, y, List.mem_of_mem_take b, c, d⟩
  refine ⟨fun hm => ?_, fun hf hm => ?_⟩
  · rcases m1 _ hm with g | g
    · obtain ⟨j, hj, hl, e⟩ := tk_mem g
      exact ltM_irr _ (e ▸ srt_lt hS hj hk)
    · exact mv_apart hC (e1 _ g) (at_mem hk)
  · have hq : (⟨t, (at' L k).p⟩ : Mp) ∉ L := fun g => hC ⟨_, at_mem hk, hf, g⟩
    rcases ins_mem.1 hm with g | g
    · exact hq (g ▸ at_mem hk)
    · rcases m1 _ g with g | g
      · exact hq (List.mem_of_mem_take g)
      · obtain ⟨a, y, b, c, d⟩ := mv_mem.1 g
        obtain ⟨j, hj, hl, e⟩ := tk_mem b
        have := srt_lt hS hj hk
        rw [e] at this
        unfold ltM at this
        dsimp only at d
        omega
theorem out_next {L : List Mp} {f t : Int} {k : Nat} {R : List Mp} (hS : Srt L) (hC : ¬ clash L f t) (h : Out L f t k R) (hk : k < L.length) : ((at' L k).s = f → Out L f t (k + 1) (ins (ins R (at' L k)) ⟨t, (at' L k).p⟩)) ∧ ((at' L k).s ≠ f → Out L f t (k + 1) (ins R (at' L k))) := by
  obtain ⟨n1, n2⟩ := out_new hS hC h hk
  have p1 := (ins_perm R (at' L k)).trans (List.Perm.cons _ h.2)
  refine ⟨fun hf => ⟨ins_srt (ins_srt h.1 n1) (n2 hf), ?_⟩, fun hf => ⟨ins_srt h.1 n1, ?_⟩⟩
  · refine ((ins_perm _ _).trans (List.Perm.cons _ p1)).trans ?_
    rw [(mv_snoc hk).1 hf, take_snoc L hk]
    generalize L.take k = A
    generalize mv A f t = B
    have a1 : ((A ++ [at' L k]) ++ (B ++ [(⟨t, (at' L k).p⟩ : Mp)])).Perm ((⟨t, (at' L k).p⟩ : Mp) :: ((A ++ [at' L k]) ++ B)) := by
      rw [← List.append_assoc]
      exact List.perm_append_singleton _ _
    refine (a1.trans (List.Perm.cons _ ?_)).symm
    rw [List.append_assoc]
    exact List.perm_middle
  · refine p1.trans ?_
    rw [(mv_snoc hk).2 hf, take_snoc L hk, List.append_assoc]
    exact List.perm_middle.symm
theorem out_len {L : List Mp} {f t : Int} {k : Nat} {R : List Mp} (h : Out L f t k R) : R.length ≤ 2 * k := by
  have h1 := h.2.length_eq
  have h2 := mv_len (L.take k) f t
  rw [List.length_append] at h1
  have h3 := List.length_take_le k L
  omega
set_option maxRecDepth 100000 in
set_option maxHeartbeats 8000000 in
theorem rcopy_any (A : Option Addr) (c : Nat) (L : List Mp) (f t : Int) (w : World) (hr : Ms w A L) (hn : L.length ≤ 400) : Calls Try.prog 20 #[.slice A L.length c, .int .i64 f, .int .i64 t] w (CpR L f t w) := by
  unfold CpR
  have HR := hide hr
  have K := hide (brefl w)
  have CK := hide (fun w' (h : Below w.heap.size w w') => rcheck_any A c L w' (hr.below h) (by omega))
  have HA := hide (fun p w' (h : Below w.heap.size w w') => rhas_any A c L t p w' (hr.below h) (by omega))
  clear hr
  by_cases h0 : ck L = 0
  rotate_left 1
  · have E := hide (show cpE L f t = ck L from if_neg h0)
    have EL := hide (cpl_nil (show cpE L f t ≠ 0 by rw [E.out]; exact h0))
    rw [E.out]
    have h2 := ne_bool h0
    clear E h0 HA
    generalize ck L = ce at *
    go_enter Try.func20, Try.ntmps20
    go_wp2_with fail
    refine (CK.out _ K.out).mono ?_
    rintro e w2 ⟨rfl, hb⟩
    replace K := hide (btrans K.out hb)
    clear hb
    go_wp2
    go_ret2
    exact ⟨[], none, 0, rfl, EL.out, owm_nil _ _, K.out⟩
  rw [h0] at CK
  by_cases f0 : 0 ≤ f
  rotate_left 1
  · have E := hide (show cpE L f t = 2 by unfold cpE; rw [if_pos h0, if_neg (fun h => f0 h.1.1)])
    have EL := hide (cpl_nil (show cpE L f t ≠ 0 by rw [E.out]; decide))
    rw [E.out]
    clear E h0 HA
    go_enter Try.func20, Try.ntmps20
    go_wp2_with fail
    refine (CK.out _ K.out).mono ?_
    rintro e w2 ⟨rfl, hb⟩
    replace K := hide (btrans K.out hb)
    clear hb
    go_wp2
    go_ret2
    exact ⟨[], none, 0, rfl, EL.out, owm_nil _ _, K.out⟩
  by_cases f8 : f < 8
  rotate_left 1
  · have E := hide (show cpE L f t = 2 by unfold cpE; rw [if_pos h0, if_neg (fun h => f8 h.1.2)])
    have EL := hide (cpl_nil (show cpE L f t ≠ 0 by rw [E.out]; decide))
    rw [E.out]
    clear E h0 HA
    go_enter Try.func20, Try.ntmps20
    go_wp2_with fail
    refine (CK.out _ K.out).mono ?_
    rintro e w2 ⟨rfl, hb⟩
    replace K := hide (btrans K.out hb)
    clear hb
    go_wp2
    go_ret2
    exact ⟨[], none, 0, rfl, EL.out, owm_nil _ _, K.out⟩
  by_cases t0 : 0 ≤ t
  rotate_left 1
  · have E := hide (show cpE L f t = 2 by unfold cpE; rw [if_pos h0, if_neg (fun h => t0 h.2.1)])
    have EL := hide (cpl_nil (show cpE L f t ≠ 0 by rw [E.out]; decide))
    rw [E.out]
    clear E h0 HA
    go_enter Try.func20, Try.ntmps20
    go_wp2_with fail
    refine (CK.out _ K.out).mono ?_
    rintro e w2 ⟨rfl, hb⟩
    replace K := hide (btrans K.out hb)
    clear hb
    go_wp2
    go_ret2
    exact ⟨[], none, 0, rfl, EL.out, owm_nil _ _, K.out⟩
  by_cases t8 : t < 8
  rotate_left 1
  · have E := hide (show cpE L f t = 2 by unfold cpE; rw [if_pos h0, if_neg (fun h => t8 h.2.2)])
    have EL := hide (cpl_nil (show cpE L f t ≠ 0 by rw [E.out]; decide))
    rw [E.out]
    clear E h0 HA
    go_enter Try.func20, Try.ntmps20
    go_wp2_with fail
    refine (CK.out _ K.out).mono ?_
    rintro e w2 ⟨rfl, hb⟩
    replace K := hide (btrans K.out hb)
    clear hb
    go_wp2
    go_ret2
    exact ⟨[], none, 0, rfl, EL.out, owm_nil _ _, K.out⟩
  have hi : inS f ∧ inS t := ⟨⟨f0, f8⟩, t0, t8⟩
  have EY := hide (show clash L f t → cpE L f t = 7 from fun h => by unfold cpE; rw [if_pos h0, if_pos hi, if_pos h])
  have EN := hide (show ¬ clash L f t → cpE L f t = 0 from fun h => by unfold cpE; rw [if_pos h0, if_pos hi, if_neg h])
  have CC := hide (show ∀ m, hs L m = true → m ∈ L from fun m h => (of_decide_eq_true h).2)
  have CN := hide (show ∀ m, hs L m = false → ¬ m ∈ L from fun m h g => of_decide_eq_false h ⟨h0, g⟩)
  have SS := hide (ck_ok h0).2
  have RI := hide (fun A c R u v w hr hn => rins_any A c R u v w hr hn)
  unfold InR at RI
  clear hi h0
  go_enter Try.func20, Try.ntmps20
  go_wp2_with fail
  refine (CK.out _ K.out).mono ?_
  rintro e w2 ⟨rfl, hb⟩
  replace K := hide (btrans K.out hb)
  clear hb
  go_wp2
  clear f0 f8 t0 t8
  go_loopw [9] (fun i wr => ∃ k : Nat, k ≤ L.length ∧ i = .int .i64 k ∧ Hid (Below w.heap.size w wr) ∧ Hid (∀ j, j < k → (at' L j).s = f → ¬ (⟨t, (at' L j).p⟩ : Mp) ∈ L)) (fun i _ => L.length - (intOf i).toNat)
  case atStart => exact ⟨0, Nat.zero_le _, rfl, K, hide (fun j h => by omega)⟩
  case round =>
    clear K
    obtain ⟨k, hk, rfl, K, NC⟩ := hrel
    by_cases hlt : k < L.length
    · have hl2 : (k : Int) < (L.length : Int) := by omega
      have hk0 : (0 : Int) ≤ (k : Int) := by omega
      obtain ⟨b, off, rfl, hbl, y0, y1⟩ := HR.out.cells K.out hlt
      have NC1 := hide (show ((at' L k).s = f → ¬ (⟨t, (at' L k).p⟩ : Mp) ∈ L) → ∀ j, j < k + 1 → (at' L j).s = f → ¬ (⟨t, (at' L j).p⟩ : Mp) ∈ L from fun h j hj g => if e : j = k then e ▸ h (e ▸ g) else NC.out j (by omega) g)
      have ND := hide (show (at' L k).s = f → (⟨t, (at' L k).p⟩ : Mp) ∈ L → cpE L f t = 7 from fun h g => EY.out ⟨at' L k, at_mem hlt, h, g⟩)
      clear NC
      obtain ⟨a, ha⟩ : ∃ a, a = at' L k := ⟨_, rfl⟩
      rw [← ha] at y0 y1 NC1 ND
      clear ha
      obtain ⟨s, p⟩ := a
      dsimp only at y0 y1 NC1 ND
      by_cases hs1 : s = f
      rotate_left 1
      · have G1 := hide (NC1.out fun h => absurd h hs1)
        have hb1 : (s == f) = false := beq_eq_false_iff_ne.2 hs1
        clear hs1 NC1 ND
        go_wp2
        go_roundw
        case rel => exact ⟨k + 1, by omega, by go_num, K, G1⟩
        case measure => simp [intOf]; omega
      · have hb1 : (s == f) = true := beq_iff_eq.2 hs1
        replace NC1 := hide (fun h => NC1.out (fun _ => h))
        replace ND := hide (ND.out hs1)
        clear hs1
        have HC := HA.out p wr K.out
        cases hh : hs L ⟨t, p⟩
        · rw [hh] at HC
          have G1 := hide (NC1.out (CN.out _ hh))
          replace HC := hide HC
          clear hh NC1 ND
          go_wp2_with fail
          refine HC.out.mono ?_
          rintro e w5 ⟨rfl, hb⟩
          replace K := hide (btrans K.out hb)
          clear hb HC y0 y1
          go_wp2
          go_roundw
          case rel => exact ⟨k + 1, by omega, by go_num, K, G1⟩
          case measure => simp [intOf]; omega
        · rw [hh] at HC
          have G := hide (ND.out (CC.out _ hh))
          have EL := hide (cpl_nil (show cpE L f t ≠ 0 by rw [G.out]; decide))
          replace HC := hide HC
          clear hh NC1 ND
          go_wp2_with fail
          refine HC.out.mono ?_
          rintro e w5 ⟨rfl, hb⟩
          replace K := hide (btrans K.out hb)
          clear hb HC y0 y1
          go_wp2
          go_ret2
          refine ⟨[], none, 0, ?_, EL.out, owm_nil _ _, K.out⟩
          rw [G.out]; rfl
    · obtain rfl : k = L.length := by omega
      have CX := hide (clash_no NC.out)
      have G := hide (EN.out CX.out)
      clear NC hlt hk HA EY EN CC CN
      go_wp2
      go_loopw [10, 11] (fun o i wr => ∃ k : Nat, ∃ A1 c1, ∃ R : List Mp, k ≤ L.length ∧ o = .slice A1 R.length c1 ∧ i = .int .i64 k ∧ Hid (OwM w.heap.size wr (.slice A1 R.length c1) R) ∧ Hid (Below w.heap.size w wr) ∧ Hid (Out L f t k R)) (fun _ i _ => L.length - (intOf i).toNat)
      case atStart => exact ⟨0, none, 0, [], Nat.zero_le _, rfl, rfl, hide (owm_nil _ _), K, hide ⟨List.Pairwise.nil, List.Perm.refl _⟩⟩
      case round =>
        clear K
        obtain ⟨k, A1, c1, R, hk, rfl, rfl, OQ, K, N⟩ := hrel
        by_cases hlt : k < L.length
        · have hl2 : (k : Int) < (L.length : Int) := by omega
          have hk0 : (0 : Int) ≤ (k : Int) := by omega
          obtain ⟨b, off, rfl, hbl, y0, y1⟩ := HR.out.cells K.out hlt
          have FE := hide (fun w' (h : Below w.heap.size w w') => (HR.out.below h).at hlt)
          have RB := hide (show R.length ≤ 800 by have := out_len N.out; omega)
          have NA := hide (rin_ins N.out.1 (out_new SS.out CX.out N.out hlt).1)
          have NB := hide (show (at' L k).s = f → rin (ins R (at' L k)) ⟨t, (at' L k).p⟩ = ins (ins R (at' L k)) ⟨t, (at' L k).p⟩ from fun h => rin_ins (ins_srt N.out.1 (out_new SS.out CX.out N.out hlt).1) ((out_new SS.out CX.out N.out hlt).2 h))
          have NX := hide (out_next SS.out CX.out N.out hlt)
          have IL := hide (ins_length R (at' L k))
          clear N
          obtain ⟨a, ha⟩ : ∃ a, a = at' L k := ⟨_, rfl⟩
          rw [← ha] at y0 y1 FE NA NB NX IL
          clear ha
          obtain ⟨s, p⟩ := a
          dsimp only at y0 y1 FE NB NX
          have R1 := RI.out A1 c1 R s p wr (OwM.rs OQ.out) (by have := RB.out; omega)
          rw [NA.out] at R1
          replace R1 := hide R1
          clear OQ NA
          generalize ins R ⟨s, p⟩ = R2 at *
          go_wp2_with fail
          refine R1.out.mono ?_
          rintro e w5 ⟨A2, c2, rfl, ho, hb⟩
          have OQ := hide (row_mono ho K.out.size)
          replace K := hide (btrans K.out hb)
          clear ho hb R1 y0 y1
          obtain ⟨y0, y1⟩ := FE.out _ K.out
          by_cases hs1 : s = f
          rotate_left 1
          · have G1 := hide (NX.out.2 hs1)
            have hb1 : (s == f) = false := beq_eq_false_iff_ne.2 hs1
            clear hs1 NX NB
            go_wp2
            go_roundw
            case rel => exact ⟨k + 1, A2, c2, R2, by omega, rfl, by go_num, OQ, K, G1⟩
            case measure => simp [intOf]; omega
          · have G1 := hide (NX.out.1 hs1)
            have hb1 : (s == f) = true := beq_iff_eq.2 hs1
            have R3 := RI.out A2 c2 R2 t p w5 (OwM.rs OQ.out) (by have := RB.out; have := IL.out; omega)
            rw [NB.out hs1] at R3
            replace R3 := hide R3
            clear hs1 NX NB OQ
            generalize ins R2 ⟨t, p⟩ = R4 at *
            go_wp2_with fail
            refine R3.out.mono ?_
            rintro e w6 ⟨A3, c3, rfl, ho, hb⟩
            have OQ := hide (row_mono ho K.out.size)
            replace K := hide (btrans K.out hb)
            clear ho hb R3 y0 y1
            go_wp2
            go_roundw
            case rel => exact ⟨k + 1, A3, c3, R4, by omega, rfl, by go_num, OQ, K, G1⟩
            case measure => simp [intOf]; omega
        · obtain rfl : k = L.length := by omega
          have CP := hide (show CpL L f t R from by
            have := N.out
            unfold Out at this
            rw [List.take_length] at this
            unfold CpL
            rw [if_pos G.out]; exact this)
          clear N
          go_wp2
          go_ret2
          refine ⟨R, A1, c1, ?_, CP.out, OQ.out, K.out⟩
          rw [G.out]; rfl
end Go.Proofs.Ytioffnpnoohbiaa.Rm
