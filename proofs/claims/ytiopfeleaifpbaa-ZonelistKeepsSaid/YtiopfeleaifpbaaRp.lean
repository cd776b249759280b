import Derived.Test.YtiopfeleaifpbaaPk
import Derived.Test.YtiopfeleaifpbaaRr
namespace Go.Proofs.Ytiopfeleaifpbaa.Bd
open Go Go.RowKit Go.Sort Go.Lib
set_option linter.unusedVariables false
set_option linter.unusedSimpArgs false
/-- the first i elements, those that are wanted -/
def tk (q : Int → Bool) (l : Is) (i : Nat) : Is := (l.take i).filter q
theorem tk_nil (q : Int → Bool) (l : Is) : tk q l 0 = [] := rfl
theorem tk_len (q : Int → Bool) (l : Is) (i : Nat) : (tk q l i).length ≤ i := by
  unfold tk
  have := List.length_filter_le q (l.take i)
  have : (l.take i).length ≤ i := by rw [List.length_take]; omega
  omega
theorem take_next {l : Is} {i : Nat} (h : i < l.length) : l.take (i + 1) = l.take i ++ [l.getD i 0] := by rw [getD_get h, List.take_succ_eq_append_getElem h]
theorem tk_1 {q : Int → Bool} {l : Is} {i : Nat} {j : Int} (h : i < l.length) (hj : l.getD i 0 = j) (hq : q j = true) : tk q l (i + 1) = tk q l i ++ [j] := by
  unfold tk
  rw [take_next h, List.filter_append, hj]
  simp [hq]
theorem tk_0 {q : Int → Bool} {l : Is} {i : Nat} {j : Int} (h : i < l.length) (hj : l.getD i 0 = j) (hq : q j = false) : tk q l (i + 1) = tk q l i := by
  unfold tk
  rw [take_next h, List.filter_append, hj]
  simp [hq]
theorem tk_all (q : Int → Bool) (l : Is) : tk q l l.length = l.filter q := by unfold tk; rw [List.take_length]
theorem oR_mem {Z : List Zo} {n : Int} {kb : Bool} (h : chE Z = 0) (hn : 0 ≤ n ∧ n < 4) : ∀ i, i < (oR Z n kb).length → ∃ j : Nat, (oR Z n kb).getD i 0 = (j : Int) ∧ j < Z.length := fun i hi => by
  have P := pl_of h hn (fun k hk => hs_yes hk rfl)
  have g := ((ro_facts P kb _ (Nat.le_refl _)).2 ((oR Z n kb).getD i 0)).1 (by rw [getD_get hi]; exact List.getElem_mem hi)
  exact ⟨((oR Z n kb).getD i 0).toNat, by omega, by omega⟩
theorem oR_len {Z : List Zo} {n : Int} {kb : Bool} (h : chE Z = 0) (hn : 0 ≤ n ∧ n < 4) : (oR Z n kb).length ≤ 96 := by
  have a := ro_len (l := nR Z n) (kb := kb) (chE_ok h).1 (nR Z n).length
  have b := nR_len h hn
  show (ro Z (nR Z n) kb (nR Z n).length).length ≤ 96
  omega
set_option maxRecDepth 100000 in
set_option maxHeartbeats 16000000 in
theorem rpick_any (AZ : Option Addr) (cp : Nat) (Z : List Zo) (p : Po) (n : Int) (kb : Bool) (w : World) (hr : Zs w AZ Z) (hn : Z.length ≤ 9223372036854775807) : Calls Try.prog 21 #[.slice AZ Z.length cp, .agg #[.int .i64 p.k, .int .i64 p.m, .int .i64 p.t], .int .i64 n, .bool kb] w fun e w' => (∃ A c, e = .returned (.tuple #[.slice A (pR Z p n kb).length c, .int .i64 (pkE Z p n)]) ∧ OwI w.heap.size w' (.slice A (pR Z p n kb).length c) (pR Z p n kb)) ∧ Below w.heap.size w w' := by
  have hpR : pR Z p n kb = if pkE Z p n = 0 then (if p.k = 2 then (oR Z (fo p n) kb).filter (fun i => bt p.m (nd Z i.toNat)) else oR Z (fo p n) kb) else [] := rfl
  have hE : pkE Z p n = if chE Z = 0 then (if poE p = 0 then (if 0 ≤ n ∧ n < 4 then 0 else 2) else 1) else chE Z := rfl
  have hE01 : poE p = 0 ∨ poE p = 1 := by unfold poE; split <;> omega
  have hpo := fun h => poE_0 (p := p) h
  have hfi := fun h => fo_in (Z := Z) (p := p) (n := n) h
  have FR := hide (fun (h : poE p = 0) W => first_any p n h W)
  have PL := hide (fun W => policy_any p W)
  obtain ⟨k, m, t⟩ := p
  simp only at hpR hpo FR PL ⊢
  have PR := hide hpR
  have HE := hide hE
  have HR := hide hr
  clear hpR hr hE
  generalize pR Z ⟨k, m, t⟩ n kb = pr at *
  generalize pkE Z ⟨k, m, t⟩ n = pk at *
  generalize fo ⟨k, m, t⟩ n = f at *
  obtain ⟨i0, hi0, hz0, hz1, hz2⟩ := info_parts info3
  have X5 := hide (Box.new w 34 #[.int .i64 k, .int .i64 m, .int .i64 t])
  have K := hide (bal (brefl w) (.cells #[.int .i64 k, .int .i64 m, .int .i64 t] 34))
  obtain ⟨W0, hW0⟩ : ∃ W0, W0 = (w.alloc (.cells #[.int .i64 k, .int .i64 m, .int .i64 t] 34)) := ⟨_, rfl⟩
  rw [← hW0] at X5 K
  obtain ⟨g5, hg5⟩ : ∃ g5, g5 = w.heap.size := ⟨_, rfl⟩
  rw [← hg5] at X5
  have CK := hide (rcheck_any AZ cp Z W0 (HR.out.below K.out) hn)
  have x0 := X5.out.cell 0
  have x1 := X5.out.cell 1
  have x2 := X5.out.cell 2
  simp at x0 x1 x2
  by_cases hc : chE Z = 0
  · rw [hc] at CK
    rcases hE01 with hp | hp
    · by_cases h4 : 0 ≤ n ∧ n < 4
      · have he : pk = 0 := HE.out.trans (by rw [if_pos hc, if_pos hp, if_pos h4])
        have hf := hfi he
        have E0 := hide he
        have HMM0 := hide (fun (h : k ≠ 0) => (hpo hp).2.2.1 h)
        have NE := hide (show nE Z f = 0 from (nE_ok hc hf).1)
        have HM0 := hide (oR_mem (kb := kb) hc hf)
        have HL0 := hide (oR_len (kb := kb) hc hf)
        have HN4 := hide (fun j hj => ((chE_ok hc).2 j hj).1)
        have EP0 := hide (PR.out.trans (if_pos he))
        replace FR := hide (fun W => FR.out hp W)
        rw [hp] at PL
        have n1 : ¬ n < 0 := by omega
        have n2 : ¬ 4 ≤ n := by omega
        clear hp hpo hfi hc he hf PR HE h4
        go_enter Try.func21, Try.ntmps21
        go_upto_region 1 with fail
        rw [← hg5, ← hW0]
        clear hg5 hW0
        go_upto_region 4 with (go_at_call 14; refine CK.out.mono ?_; rintro e w' ⟨rfl, rfl⟩)
        go_upto_region 7 with (go_at_call 40; refine (PL.out _).mono ?_; rintro e w1 ⟨rfl, hb⟩; replace X5 := hide (X5.out.below hb); replace K := hide (K.out.trans (hb.mono K.out.size)); clear hb)
        clear x0 x1 x2 CK PL
        have x0 := X5.out.cell 0
        have x1 := X5.out.cell 1
        have x2 := X5.out.cell 2
        simp at x0 x1 x2
        go_wp2_with (go_at_call 41; refine (FR.out _).mono ?_; rintro e w2 ⟨rfl, hb⟩; replace X5 := hide (X5.out.below hb); replace K := hide (K.out.trans (hb.mono K.out.size)); clear hb)
        have OD := hide (rorder_any AZ cp Z f kb w2 (HR.out.below K.out) hn)
        clear x0 x1 x2
        go_wp2_with fail
        refine OD.out.mono ?_
        rintro e w3 ⟨⟨A3, c3, rfl, hO3⟩, hb3⟩
        have HL := hide (OwI.bi hO3)
        replace X5 := hide (X5.out.below hb3)
        have K3 := hide (K.out.trans (hb3.mono K.out.size))
        clear hO3 OD hb3 K FR
        rw [NE.out]
        have HR3 := hide (show Zs w3 AZ Z from HR.out.below K3.out)
        obtain ⟨l, hl⟩ : ∃ l, l = oR Z f kb := ⟨_, rfl⟩
        rw [← hl] at HL EP0 HM0 HL0 ⊢
        have HM := HM0
        have hl96 := HL0.out
        clear hl HM0 HL0
        obtain ⟨B, hB⟩ : ∃ B, B = w3.heap.size := ⟨_, rfl⟩
        have HB := hide hB
        clear hB
        by_cases hk2 : k = 2
        · have HMM := hide (HMM0.out (by omega))
          have EP := hide (EP0.out.trans (if_pos hk2))
          subst hk2
          clear EP0 HMM0
          go_wp2
          go_loopw [14, 15] (fun a b wr => ∃ i : Nat, i ≤ l.length ∧ b = .int .i64 i ∧ Hid (OwI B wr a (tk (fun i => bt m (nd Z i.toNat)) l i)) ∧ Hid (Below B w3 wr)) (fun _ b _ => l.length - (intOf b).toNat)
          case atStart => exact ⟨0, by omega, rfl, hide (by rw [tk_nil]; exact ow_nil _ _), hide (Below.refl _ _)⟩
          case round =>
            obtain ⟨i, hi, rfl, O, K⟩ := hrel
            obtain ⟨A1, cap1, ev, hcp⟩ := row_form O.out
            subst ev
            clear hcp
            by_cases hlt : i < l.length
            · have hlt2 : (i : Int) < (l.length : Int) := by omega
              have hi0' : (0 : Int) ≤ (i : Int) := by omega
              obtain ⟨j, hj, hjl⟩ := HM.out i hlt
              have hjl2 : (j : Int) < (Z.length : Int) := by omega
              have hj0 : (0 : Int) ≤ (j : Int) := by omega
              have hbb : Below w3.heap.size w3 wr := by rw [← HB.out]; exact K.out
              have x0 := (X5.out.below hbb).cell 0
              have x1 := (X5.out.below hbb).cell 1
              simp at x0 x1
              obtain ⟨bl, ol, rfl, hbl2, xq⟩ := HL.out.cells hbb hlt
              obtain ⟨b, off, rfl, hbl, hcs⟩ := HR3.out.cells hbb hjl
              have y0 : wr.cell? ⟨b, off + j * 10, none⟩ = some (.int .i64 (nd Z j)) := hcs 0 (by omega)
              rw [hj] at xq
              clear hcs hbl hbl2 hbb
              have C1 := hide (fun w => rin_any m (nd Z j) (HN4.out j hjl) HMM.out w)
              by_cases h1 : bt m (nd Z j) = true
              · have EH := hide (tk_1 (q := (fun i => bt m (nd Z i.toNat))) hlt hj (by simp only [Int.toNat_natCast]; exact h1))
                rw [h1] at C1
                clear h1
                generalize nd Z j = a at *
                go_wp2
                go_quiet ((go_at_call 42; exact quiet_left (C1.out _)))
                generalize hwy : World.drewN wr _ = wy
                have hbq : Below wr.heap.size wr wy := by rw [← hwy]; exact below_drewN (brefl _) _
                replace O := hide (row_below O.out hbq)
                replace K := hide (K.out.trans (hbq.mono (by rw [HB.out]; exact K.out.size)))
                clear hwy hbq
                clear x0 x1 xq y0 C1
                generalize wy = wr at *
                have hbb : Below w3.heap.size w3 wr := by rw [← HB.out]; exact K.out
                obtain ⟨bl2, ol2, ev5, hbl2, xq⟩ := HL.out.cells hbb hlt
                injection ev5 with ev5
                injection ev5 with ev5 ev6 ev7
                subst ev5 ev6
                rw [hj] at xq
                clear hbl2 hbb ev7
                have M := bal (brefl wr) (.cells #[.int .i64 (j : Int)] 3)
                have OA := hide (row_below O.out M)
                have NB := hide (cell_one_new wr (.int .i64 (j : Int)) 3)
                have SA0 : B ≤ wr.heap.size := by have := K.out.size; rw [HB.out]; exact (HB.out ▸ this)
                have SA := hide (show B ≤ (wr.alloc (.cells #[.int .i64 (j : Int)] 3)).heap.size by rw [alloc_size']; omega)
                have KA := hide (K.out.trans (M.mono SA0))
                clear M O K SA0
                obtain ⟨l1, hl1⟩ : ∃ l1, l1 = tk (fun i => bt m (nd Z i.toNat)) l i := ⟨_, rfl⟩
                obtain ⟨m1, hm1⟩ : ∃ m1, m1 = l1.length := ⟨_, rfl⟩
                have hfl : m1 ≤ 1000 := by rw [hm1, hl1]; exact by have := tk_len (fun i => bt m (nd Z i.toNat)) l i; omega
                rw [← hl1, ← hm1] at OA
                rw [← hl1] at EH
                rw [← hl1, ← hm1]
                have HLM := hide hm1
                clear hl1 hm1
                go_upto_region 13 with (at_builtin; refine wpList_append_own_at _ rfl (.tmp 63) (.tmp 68) 27 rfl B 3 i0 _ 1 8 Try.underlying27 hi0 hz0 hz1 hz2 rfl (by omega) (.slice A1 m1 cap1) m1 (l1.map ic) rfl OA.out ⟨wr.heap.size, 0, none⟩ 1 1 [.int .i64 (j : Int)] rfl rfl NB.out (by intro u hu; rw [List.mem_singleton.1 hu]; rfl) (by simp only [maxLen]; omega) (by omega) SA.out ?_; intro v4 w4 hown4 hg4 _ hat4; obtain ⟨A4, cp4, ev4, _⟩ := row_form hown4; subst ev4)
                have e3 : (tk (fun i => bt m (nd Z i.toNat)) l (i + 1)).length = m1 + 1 := by rw [EH.out, List.length_append, ← HLM.out]; rfl
                have O := hide (show OwI B w4 (.slice A4 (m1 + 1) cp4) (tk (fun i => bt m (nd Z i.toNat)) l (i + 1)) by
                  unfold OwI
                  rw [e3, EH.out, List.map_append]
                  exact hown4)
                have B4 := below_grown OA.out hg4 SA.out
                have K := hide (KA.out.trans B4)
                rw [← e3] at O ⊢
                clear B4 hown4 hg4 hat4 OA NB SA KA e3 hfl HLM
                clear xq
                go_wp2
                go_roundw
                case rel => exact ⟨i + 1, by omega, by go_num, O, K⟩
                case measure => simp [intOf]; omega
              · have h1' : bt m (nd Z j) = false := by simpa using h1
                have EH := tk_0 (q := (fun i => bt m (nd Z i.toNat))) hlt hj (by simp only [Int.toNat_natCast]; exact h1')
                rw [h1'] at C1
                clear h1 h1'
                generalize nd Z j = a at *
                rw [← EH] at O ⊢
                clear EH
                go_wp2
                go_quiet ((go_at_call 42; exact quiet_left (C1.out _)))
                generalize hwy : World.drewN wr _ = wy
                have hbq : Below wr.heap.size wr wy := by rw [← hwy]; exact below_drewN (brefl _) _
                replace O := hide (row_below O.out hbq)
                replace K := hide (K.out.trans (hbq.mono (by rw [HB.out]; exact K.out.size)))
                clear hwy hbq
                go_wp2
                go_roundw
                case rel => exact ⟨i + 1, by omega, by go_num, O, K⟩
                case measure => simp [intOf]; omega
            · obtain rfl : i = l.length := by omega
              have EO : tk (fun i => bt m (nd Z i.toNat)) l l.length = pr := (tk_all (fun i => bt m (nd Z i.toNat)) l).trans EP.out.symm
              rw [EO] at O ⊢
              go_wp2
              refine ret_si Try.results21 rfl rfl rfl ⟨⟨_, _, ?_, row_mono O.out (by rw [HB.out]; exact K3.out.size)⟩, K3.out.trans (K.out.mono (by rw [HB.out]; exact K3.out.size))⟩
              rw [E0.out]
        · have EP := hide (EP0.out.trans ((if_neg hk2).trans (List.filter_eq_self.2 (fun _ _ => rfl)).symm))
          have dk : (k != 2) = true := by simpa using hk2
          clear EP0 HMM0 hk2
          go_wp2
          go_loopw [14, 15] (fun a b wr => ∃ i : Nat, i ≤ l.length ∧ b = .int .i64 i ∧ Hid (OwI B wr a (tk (fun _ => true) l i)) ∧ Hid (Below B w3 wr)) (fun _ b _ => l.length - (intOf b).toNat)
          case atStart => exact ⟨0, by omega, rfl, hide (by rw [tk_nil]; exact ow_nil _ _), hide (Below.refl _ _)⟩
          case round =>
            obtain ⟨i, hi, rfl, O, K⟩ := hrel
            obtain ⟨A1, cap1, ev, hcp⟩ := row_form O.out
            subst ev
            clear hcp
            by_cases hlt : i < l.length
            · have hlt2 : (i : Int) < (l.length : Int) := by omega
              have hi0' : (0 : Int) ≤ (i : Int) := by omega
              obtain ⟨j, hj, hjl⟩ := HM.out i hlt
              have hjl2 : (j : Int) < (Z.length : Int) := by omega
              have hj0 : (0 : Int) ≤ (j : Int) := by omega
              have hbb : Below w3.heap.size w3 wr := by rw [← HB.out]; exact K.out
              have x0 := (X5.out.below hbb).cell 0
              have x1 := (X5.out.below hbb).cell 1
              simp at x0 x1
              obtain ⟨bl, ol, rfl, hbl2, xq⟩ := HL.out.cells hbb hlt
              obtain ⟨b, off, rfl, hbl, hcs⟩ := HR3.out.cells hbb hjl
              have y0 : wr.cell? ⟨b, off + j * 10, none⟩ = some (.int .i64 (nd Z j)) := hcs 0 (by omega)
              rw [hj] at xq
              clear hcs hbl hbl2 hbb
              have EH := hide (tk_1 (q := (fun _ => true)) hlt hj rfl)
              go_wp2
              go_quiet (fail)
              generalize hwy : World.drewN wr _ = wy
              have hbq : Below wr.heap.size wr wy := by rw [← hwy]; exact below_drewN (brefl _) _
              replace O := hide (row_below O.out hbq)
              replace K := hide (K.out.trans (hbq.mono (by rw [HB.out]; exact K.out.size)))
              clear hwy hbq
              clear x0 x1 xq y0
              generalize wy = wr at *
              have hbb : Below w3.heap.size w3 wr := by rw [← HB.out]; exact K.out
              obtain ⟨bl2, ol2, ev5, hbl2, xq⟩ := HL.out.cells hbb hlt
              injection ev5 with ev5
              injection ev5 with ev5 ev6 ev7
              subst ev5 ev6
              rw [hj] at xq
              clear hbl2 hbb ev7
              have M := bal (brefl wr) (.cells #[.int .i64 (j : Int)] 3)
              have OA := hide (row_below O.out M)
              have NB := hide (cell_one_new wr (.int .i64 (j : Int)) 3)
              have SA0 : B ≤ wr.heap.size := by have := K.out.size; rw [HB.out]; exact (HB.out ▸ this)
              have SA := hide (show B ≤ (wr.alloc (.cells #[.int .i64 (j : Int)] 3)).heap.size by rw [alloc_size']; omega)
              have KA := hide (K.out.trans (M.mono SA0))
              clear M O K SA0
              obtain ⟨l1, hl1⟩ : ∃ l1, l1 = tk (fun _ => true) l i := ⟨_, rfl⟩
              obtain ⟨m1, hm1⟩ : ∃ m1, m1 = l1.length := ⟨_, rfl⟩
              have hfl : m1 ≤ 1000 := by rw [hm1, hl1]; exact by have := tk_len (fun _ => true) l i; omega
              rw [← hl1, ← hm1] at OA
              rw [← hl1] at EH
              rw [← hl1, ← hm1]
              have HLM := hide hm1
              clear hl1 hm1
              go_upto_region 13 with (at_builtin; refine wpList_append_own_at _ rfl (.tmp 63) (.tmp 68) 27 rfl B 3 i0 _ 1 8 Try.underlying27 hi0 hz0 hz1 hz2 rfl (by omega) (.slice A1 m1 cap1) m1 (l1.map ic) rfl OA.out ⟨wr.heap.size, 0, none⟩ 1 1 [.int .i64 (j : Int)] rfl rfl NB.out (by intro u hu; rw [List.mem_singleton.1 hu]; rfl) (by simp only [maxLen]; omega) (by omega) SA.out ?_; intro v4 w4 hown4 hg4 _ hat4; obtain ⟨A4, cp4, ev4, _⟩ := row_form hown4; subst ev4)
              have e3 : (tk (fun _ => true) l (i + 1)).length = m1 + 1 := by rw [EH.out, List.length_append, ← HLM.out]; rfl
              have O := hide (show OwI B w4 (.slice A4 (m1 + 1) cp4) (tk (fun _ => true) l (i + 1)) by
                unfold OwI
                rw [e3, EH.out, List.map_append]
                exact hown4)
              have B4 := below_grown OA.out hg4 SA.out
              have K := hide (KA.out.trans B4)
              rw [← e3] at O ⊢
              clear B4 hown4 hg4 hat4 OA NB SA KA e3 hfl HLM
              clear xq
              go_wp2
              go_roundw
              case rel => exact ⟨i + 1, by omega, by go_num, O, K⟩
              case measure => simp [intOf]; omega
            · obtain rfl : i = l.length := by omega
              have EO : tk (fun _ => true) l l.length = pr := (tk_all (fun _ => true) l).trans EP.out.symm
              rw [EO] at O ⊢
              go_wp2
              refine ret_si Try.results21 rfl rfl rfl ⟨⟨_, _, ?_, row_mono O.out (by rw [HB.out]; exact K3.out.size)⟩, K3.out.trans (K.out.mono (by rw [HB.out]; exact K3.out.size))⟩
              rw [E0.out]
      · have he : pk = 2 := HE.out.trans (by rw [if_pos hc, if_pos hp, if_neg h4])
        have E0 := hide he
        have EP := hide (PR.out.trans (if_neg (by omega)))
        rw [hp] at PL
        clear hp hpo hfi hc he PR HE FR
        by_cases n1 : n < 0
        · clear h4
          go_enter Try.func21, Try.ntmps21
          go_upto_region 1 with fail
          rw [← hg5, ← hW0]
          clear hg5 hW0
          go_upto_region 4 with (go_at_call 14; refine CK.out.mono ?_; rintro e w' ⟨rfl, rfl⟩)
          go_wp2_with (go_at_call 40; refine (PL.out _).mono ?_; rintro e w1 ⟨rfl, hb⟩; replace X5 := hide (X5.out.below hb); replace K := hide (K.out.trans (hb.mono K.out.size)); clear hb)
          refine ret_si Try.results21 rfl rfl rfl ⟨⟨none, 0, ?_, by rw [EP.out]; exact ow_nil _ _⟩, K.out⟩
          rw [EP.out, E0.out]; rfl
        · have n2 : 4 ≤ n := by omega
          clear h4
          go_enter Try.func21, Try.ntmps21
          go_upto_region 1 with fail
          rw [← hg5, ← hW0]
          clear hg5 hW0
          go_upto_region 4 with (go_at_call 14; refine CK.out.mono ?_; rintro e w' ⟨rfl, rfl⟩)
          go_wp2_with (go_at_call 40; refine (PL.out _).mono ?_; rintro e w1 ⟨rfl, hb⟩; replace X5 := hide (X5.out.below hb); replace K := hide (K.out.trans (hb.mono K.out.size)); clear hb)
          refine ret_si Try.results21 rfl rfl rfl ⟨⟨none, 0, ?_, by rw [EP.out]; exact ow_nil _ _⟩, K.out⟩
          rw [EP.out, E0.out]; rfl
    · have he : pk = 1 := HE.out.trans (by rw [if_pos hc, if_neg (by omega)])
      have E0 := hide he
      have EP := hide (PR.out.trans (if_neg (by omega)))
      rw [hp] at PL
      clear hp hpo hfi hc he PR HE FR
      go_enter Try.func21, Try.ntmps21
      go_upto_region 1 with fail
      rw [← hg5, ← hW0]
      clear hg5 hW0
      go_upto_region 4 with (go_at_call 14; refine CK.out.mono ?_; rintro e w' ⟨rfl, rfl⟩)
      go_wp2_with (go_at_call 40; refine (PL.out _).mono ?_; rintro e w1 ⟨rfl, hb⟩; replace X5 := hide (X5.out.below hb); replace K := hide (K.out.trans (hb.mono K.out.size)); clear hb)
      refine ret_si Try.results21 rfl rfl rfl ⟨⟨none, 0, ?_, by rw [EP.out]; exact ow_nil _ _⟩, K.out⟩
      rw [EP.out, E0.out]; rfl
  · have he : pk = chE Z := HE.out.trans (by rw [if_neg hc])
    have E0 := hide he
    have EP := hide (PR.out.trans (if_neg (by rw [he]; exact hc)))
    have dc : (chE Z != 0) = true := by simpa using hc
    clear hE01 hpo hfi hc he PR HE FR PL
    generalize chE Z = ce at *
    go_enter Try.func21, Try.ntmps21
    go_upto_region 1 with fail
    rw [← hg5, ← hW0]
    clear hg5 hW0
    go_wp2_with (go_at_call 14; refine CK.out.mono ?_; rintro e w' ⟨rfl, rfl⟩)
    refine ret_si Try.results21 rfl rfl rfl ⟨⟨none, 0, ?_, by rw [EP.out]; exact ow_nil _ _⟩, K.out⟩
    rw [EP.out, E0.out]; rfl
end Go.Proofs.Ytiopfeleaifpbaa.Bd
