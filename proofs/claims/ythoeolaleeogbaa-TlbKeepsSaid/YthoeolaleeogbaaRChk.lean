import Derived.Test.YthoeolaleeogbaaROv
import Derived.Test.YthoeolaleeogbaaDo
namespace Go.Proofs.Ythoeolaleeogbaa.Tb
open Go Go.RowKit Go.Proofs.Ythoeolaleeogbaa.Pt
set_option linter.unusedVariables false
theorem ent_of_one {e : Te} {l : List Te} (h : oneE e ≠ 0) : entE e l = oneE e := by unfold entE; rw [if_pos h]
theorem ent_hit {L : List Te} {k j : Nat} (h : oneE (teAt L k) = 0) (hk : k < L.length) (hj : j < k) (ho : ovl (teAt L j) (teAt L k) = true) : entE (teAt L k) (L.take k) = 7 := by
  unfold entE
  rw [if_neg (by simpa using h), if_pos]
  rw [List.any_eq_true]
  refine ⟨teAt L j, ?_, ho⟩
  rw [← teAt_take (k := k) hj]
  exact teAt_mem (by rw [List.length_take]; omega)
theorem ent_miss {L : List Te} {k : Nat} (h : oneE (teAt L k) = 0) (hk : k < L.length) (ho : ∀ j, j < k → ovl (teAt L j) (teAt L k) = false) : entE (teAt L k) (L.take k) = 0 := by
  unfold entE
  rw [if_neg (by simpa using h), if_neg]
  rw [List.any_eq_true]
  rintro ⟨o, hm, hb⟩
  obtain ⟨j, hj, rfl⟩ := List.mem_iff_getElem.1 hm
  have hj2 : j < k := by rw [List.length_take] at hj; omega
  rw [← teAt_get hj, teAt_take hj2, ho j hj2] at hb
  cases hb
set_option maxHeartbeats 8000000 in
theorem rcheck_any (size : Int) (A : Option Addr) (L : List Te) (c : Nat) (w : World) (h : TlbIn w A L c) :
    Calls Try.prog 17 #[.agg #[.int .i64 size, .slice A L.length c]] w fun e w' => e = .returned (.int .i64 (chkT size L)) ∧ Below w.heap.size w w' := by
  have X := hide (Box.new w 24 #[.int .i64 size, .slice A L.length c])
  have K0 := hide (bal (brefl w) (.cells #[.int .i64 size, .slice A L.length c] 24))
  have T0 := hide (h.below K0.out)
  have hn := h.big
  by_cases h1 : size < 1
  · have E := hide (show chkT size L = 1 by unfold chkT; rw [if_pos (.inl h1)])
    clear h T0
    go_enter Try.func17, Try.ntmps17
    go_wp2
    go_ret
    exact ⟨ret_int E.out.symm, K0.out⟩
  by_cases h2 : 16 < size
  · have E := hide (show chkT size L = 1 by unfold chkT; rw [if_pos (.inr h2)])
    clear h T0
    go_enter Try.func17, Try.ntmps17
    go_wp2
    go_ret
    exact ⟨ret_int E.out.symm, K0.out⟩
  by_cases hf : size < (L.length : Int)
  · have E := hide (show chkT size L = 8 by unfold chkT; rw [if_neg (by omega), if_pos hf])
    clear h T0
    go_enter Try.func17, Try.ntmps17
    go_wp2
    go_ret
    exact ⟨ret_int E.out.symm, K0.out⟩
  have E := hide (show chkT size L = chkL [] L by unfold chkT; rw [if_neg (by omega), if_neg hf])
  have hl : L.length ≤ 16 := by omega
  have HI := hide h.inw
  clear h
  go_enter Try.func17, Try.ntmps17
  go_wp2
  obtain ⟨wb, hwb⟩ : ∃ wb, wb = w.alloc (.cells #[.int .i64 size, .slice A L.length c] 24) := ⟨_, rfl⟩
  rw [← hwb] at X K0 T0 ⊢
  clear hwb h1 h2 hf
  go_loopw [3] (fun i wr => ∃ k : Nat, k ≤ L.length ∧ i = .int .i64 k ∧ Hid (chkL [] L = chkL (L.take k) (L.drop k)) ∧ Hid (∀ o ∈ L.take k, okE o = true) ∧ Hid (Below wb.heap.size wb wr)) (fun i _ => L.length - (intOf i).toNat)
  case atStart => exact ⟨0, Nat.zero_le _, rfl, hide rfl, hide (fun o ho => by simp at ho), hide (brefl _)⟩
  case round =>
    obtain ⟨k, hk, rfl, HC, HO, HB⟩ := hrel
    have x1 := (X.out.below HB.out).cell 1
    simp at x1
    by_cases hlt : k < L.length
    · obtain ⟨b, off, rfl, hbl, hcs⟩ := T0.out.ts.cells HB.out hlt
      obtain ⟨c0, c1, c2⟩ := hcs k hlt
      have HCS := hide hcs
      have ON := hide (fun w => one_any (teAt L k) w (HI.out _ (teAt_mem hlt)))
      have N1 := hide (chk_next hlt)
      have N2 := hide (fun h => take_ok hlt HO.out h)
      have hk0 : (0 : Int) ≤ (k : Int) := by omega
      have hkl : (k : Int) < (L.length : Int) := by omega
      by_cases h0 : oneE (teAt L k) = 0
      · have EH := hide (fun j hj ho => ent_hit (j := j) h0 hlt hj ho)
        have EM := hide (ent_miss h0 hlt)
        have OKK := hide (oneE_ok.1 h0)
        rw [h0] at ON
        have OV := hide (fun (j : Nat) (hj : j < k) w => overlaps_any (teAt L j) (teAt L k) w (HO.out _ (by rw [← teAt_take (k := k) hj]; exact teAt_mem (by rw [List.length_take]; omega))) OKK.out (HI.out _ (teAt_mem (by omega))) (HI.out _ (teAt_mem hlt)))
        clear hcs h0
        unfold tv at ON
        go_wp2_with fail
        refine (ON.out _).mono ?_
        rintro e w1 ⟨rfl, hb1⟩
        have HB1 := hide hb1
        clear hb1 c0 c1 c2 x1
        go_wp2
        obtain ⟨wz, hwz⟩ : ∃ wz : World, wz = w1 := ⟨_, rfl⟩
        rw [← hwz]
        have Hwz := hide (show Below wr.heap.size wr wz by rw [hwz]; exact HB1.out)
        clear hwz HB1
        go_loopw [5] (fun i ws => ∃ j : Nat, j ≤ k ∧ i = .int .i64 j ∧ Hid (∀ i, i < j → ovl (teAt L i) (teAt L k) = false) ∧ Hid (Below wz.heap.size wz ws)) (fun i _ => k - (intOf i).toNat)
        case atStart => exact ⟨0, Nat.zero_le _, rfl, hide (fun i hi => absurd hi (Nat.not_lt_zero _)), hide (brefl _)⟩
        case round =>
          obtain ⟨j, hj, rfl, HJ, HS⟩ := hrel
          have KA := hide (btrans (btrans HB.out Hwz.out) HS.out)
          have x1 := (X.out.below KA.out).cell 1
          simp at x1
          by_cases hjk : j < k
          · have hj0 : (0 : Int) ≤ (j : Int) := by omega
            have hjl : (j : Int) < (L.length : Int) := by omega
            have hjkz : (j : Int) < (k : Int) := by omega
            have CE := hide (fun (W : World) (hW : Below wb.heap.size wb W) => show W.cell? ⟨w.heap.size, 1, none⟩ = some (.slice (some ⟨b, off, none⟩) L.length c) ∧ (W.cell? ⟨b, off + j * 3, none⟩ = some (.int .i64 (teAt L j).1) ∧ W.cell? ⟨b, off + j * 3 + 1, none⟩ = some (.int .i64 (teAt L j).2.1) ∧ W.cell? ⟨b, off + j * 3 + 2, none⟩ = some (.int .u64 (teAt L j).2.2)) ∧ (W.cell? ⟨b, off + k * 3, none⟩ = some (.int .i64 (teAt L k).1) ∧ W.cell? ⟨b, off + k * 3 + 1, none⟩ = some (.int .i64 (teAt L k).2.1) ∧ W.cell? ⟨b, off + k * 3 + 2, none⟩ = some (.int .u64 (teAt L k).2.2)) by
              obtain ⟨b', off', e, _, hc⟩ := T0.out.ts.cells hW hlt
              injection e with e
              injection e with e1 e2
              subst e1 e2
              exact ⟨(X.out.below hW).cell 1, hc j (by omega), hc k hlt⟩)
            have OJ := hide (OV.out j hjk)
            have EHJ := hide (EH.out j hjk)
            have HN := hide (fun (q : ovl (teAt L j) (teAt L k) = false) => show ∀ i, i < j + 1 → ovl (teAt L i) (teAt L k) = false from fun i hi => by
              by_cases e : i = j
              · rw [e]; exact q
              · exact HJ.out i (by omega))
            unfold tv at OJ
            obtain ⟨cc, ⟨d0, d1, d2⟩, e0, e1, e2⟩ := CE.out _ KA.out
            cases ho : ovl (teAt L j) (teAt L k)
            · rw [ho] at OJ
              have HN2 := hide (HN.out ho)
              generalize (teAt L j).1 = y0 at *
              generalize (teAt L j).2.1 = y1 at *
              generalize (teAt L j).2.2 = y2 at *
              generalize (teAt L k).1 = z0 at *
              generalize (teAt L k).2.1 = z1 at *
              generalize (teAt L k).2.2 = z2 at *
              clear ho x1
              go_wp2
              have K := hide (brefl wr)
              go_region_held3 (fun W => W.cell? ⟨w.heap.size, 1, none⟩ = some (.slice (some ⟨b, off, none⟩) L.length c) ∧ W.cell? ⟨b, off + j * 3, none⟩ = some (.int .i64 y0) ∧ W.cell? ⟨b, off + j * 3 + 1, none⟩ = some (.int .i64 y1) ∧ W.cell? ⟨b, off + j * 3 + 2, none⟩ = some (.int .u64 y2) ∧ W.cell? ⟨b, off + k * 3, none⟩ = some (.int .i64 z0) ∧ W.cell? ⟨b, off + k * 3 + 1, none⟩ = some (.int .i64 z1) ∧ W.cell? ⟨b, off + k * 3 + 2, none⟩ = some (.int .u64 z2))
                ((have kk := CE.out _ (btrans KA.out K.out); exact ⟨kk.1, kk.2.1.1, kk.2.1.2.1, kk.2.1.2.2, kk.2.2.1, kk.2.2.2.1, kk.2.2.2.2⟩))
                (first | (go_at_call 33; (with_reducible refine (OJ.out _).mono ?_); rintro e wk ⟨rfl, hbk⟩; replace K := hide (by first | exact btrans K.out hbk | exact btrans (below_drewN K.out _) hbk); clear hbk))
              all_goals
                go_wp2
                go_roundw
                case rel => exact ⟨j + 1, by omega, by go_num, HN2, hide (btrans HS.out (by first | exact K.out | exact below_drewN K.out _))⟩
                case measure => simp [intOf]; omega
            · rw [ho] at OJ
              have NC := hide (HC.out.trans (N1.out.trans ((if_pos (by rw [EHJ.out ho]; decide)).trans (EHJ.out ho))))
              generalize (teAt L j).1 = y0 at *
              generalize (teAt L j).2.1 = y1 at *
              generalize (teAt L j).2.2 = y2 at *
              generalize (teAt L k).1 = z0 at *
              generalize (teAt L k).2.1 = z1 at *
              generalize (teAt L k).2.2 = z2 at *
              clear ho x1
              go_wp2
              have K := hide (brefl wr)
              go_region_held3 (fun W => W.cell? ⟨w.heap.size, 1, none⟩ = some (.slice (some ⟨b, off, none⟩) L.length c) ∧ W.cell? ⟨b, off + j * 3, none⟩ = some (.int .i64 y0) ∧ W.cell? ⟨b, off + j * 3 + 1, none⟩ = some (.int .i64 y1) ∧ W.cell? ⟨b, off + j * 3 + 2, none⟩ = some (.int .u64 y2) ∧ W.cell? ⟨b, off + k * 3, none⟩ = some (.int .i64 z0) ∧ W.cell? ⟨b, off + k * 3 + 1, none⟩ = some (.int .i64 z1) ∧ W.cell? ⟨b, off + k * 3 + 2, none⟩ = some (.int .u64 z2))
                ((have kk := CE.out _ (btrans KA.out K.out); exact ⟨kk.1, kk.2.1.1, kk.2.1.2.1, kk.2.1.2.2, kk.2.2.1, kk.2.2.2.1, kk.2.2.2.2⟩))
                (first | (go_at_call 33; (with_reducible refine (OJ.out _).mono ?_); rintro e wk ⟨rfl, hbk⟩; replace K := hide (by first | exact btrans K.out hbk | exact btrans (below_drewN K.out _) hbk); clear hbk))
              all_goals
                go_wp2
                go_ret
                exact ⟨ret_int (E.out.trans NC.out).symm, btrans K0.out (btrans KA.out (by first | exact K.out | exact below_drewN K.out _))⟩
          · obtain rfl : j = k := by omega
            have hkk : ¬ (j : Int) < (j : Int) := by omega
            have E0 := EM.out HJ.out
            have NC := hide (HC.out.trans (N1.out.trans (if_neg (by rw [E0]; decide))))
            have NO := hide (N2.out E0)
            clear E0
            go_wp2
            go_roundw
            case rel => exact ⟨j + 1, by omega, by go_num, NC, NO, KA⟩
            case measure => simp [intOf]; omega
      · have NC := hide (HC.out.trans (N1.out.trans (by rw [ent_of_one h0, if_pos h0])))
        have hd : (oneE (teAt L k) != 0) = true := by simpa using h0
        generalize oneE (teAt L k) = er at *
        unfold tv at ON
        clear hcs h0
        go_wp2_with fail
        refine (ON.out _).mono ?_
        rintro e w1 ⟨rfl, hb1⟩
        have HB1 := hide hb1
        clear hb1
        go_wp2
        go_ret
        exact ⟨ret_int (E.out.trans NC.out).symm, btrans K0.out (btrans HB.out HB1.out)⟩
    · have NC := hide (show chkL [] L = 0 by rw [HC.out, show k = L.length by omega, List.drop_length]; rfl)
      have hkl : ¬ (k : Int) < (L.length : Int) := by omega
      go_wp2
      go_ret
      exact ⟨ret_int (E.out.trans NC.out).symm, btrans K0.out HB.out⟩
end Go.Proofs.Ythoeolaleeogbaa.Tb
