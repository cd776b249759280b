import Derived.Test.YtclkflnonckajaaQ6
namespace Go.Proofs.Ytclkflnonckajaa.Ac
open Go Go.RowKit
set_option linter.unusedVariables false
set_option linter.unusedSimpArgs false
theorem ix_of {P : Is} {z : Int} (h : z ∈ P) {w w' : World} {e : Ending} (hI : IxP P z w e w') : ∃ j, j < P.length ∧ e = .returned (.int .i64 (j : Nat)) ∧ P.getD j 0 = z ∧ w = w' := by
  obtain ⟨i, he, ⟨_, hn⟩ | ⟨j, hj, hi, hz, _⟩, hw⟩ := hI
  · exact absurd h hn
  · exact ⟨j, hj, by rw [he, hi], hz, hw⟩
theorem zero_mem {L : List A5} (V : Vd L) : ∀ a : Int, -1 ≤ a → a < L.length → 0 ≤ a → (0 : Int) ∈ pth L a := by
  refine pth_ind V.tr V.len.2 (P := fun a l => 0 ≤ a → (0 : Int) ∈ l) (fun h => absurd h (by decide)) (fun a ha ih _ => ?_)
  by_cases h0 : a = 0
  · subst h0; exact List.mem_cons_self ..
  · have hp := V.tr.2 a ha (by omega)
    exact List.mem_cons_of_mem _ (ih hp.1)
set_option maxRecDepth 100000 in
set_option maxHeartbeats 8000000 in
theorem guard_any (A AV : Option Addr) (cp cv : Nat) (L : List A5) (v : Is) (a s : Int) (low : Bool) (w : World) (hr : As w A L) (hv : Bi w AV v) (hcp : L.length ≤ cp) (hn : L.length ≤ 9223372036854775807) (hvn : v.length ≤ 9223372036854775807) :
    Calls Try.prog 42 #[.slice A L.length cp, .slice AV v.length cv, .int .i64 a, .int .i64 s, .bool low] w fun e w' => e = .returned (.bool (gR L v a s low)) ∧ Below w.heap.size w w' := by
  have X := hide ((Box.new w 22 #[.slice A L.length cp]).more (.cells #[.bool low] 4))
  have X9 := hide (Box.new2 w (.cells #[.slice A L.length cp] 22) 4 #[.bool low])
  have K := hide (bal (bal (brefl w) (.cells #[.slice A L.length cp] 22)) (.cells #[.bool low] 4))
  obtain ⟨W0, hW0⟩ : ∃ W0, W0 = (w.alloc (.cells #[.slice A L.length cp] 22)).alloc (.cells #[.bool low] 4) := ⟨_, rfl⟩
  rw [← hW0] at X X9 K
  obtain ⟨g, hg⟩ : ∃ g, g = w.heap.size := ⟨_, rfl⟩
  rw [← hg] at X
  obtain ⟨g9, hg9⟩ : ∃ g9, g9 = w.heap.size + 1 := ⟨_, rfl⟩
  rw [← hg9] at X9
  have HR := hide (fun w' (h : Below w.heap.size w w') => hr.below h)
  have VD := hide (vld_any A AV cp cv L v W0 (HR.out _ K.out) (hv.below K.out) hcp hn hvn)
  have IS := hide (fun w' (h : Below w.heap.size w w') => inside_any A cp L a s w' (HR.out _ h) hcp hn)
  by_cases h : vlv L v
  · rw [decide_eq_true h] at VD
    cases hi : iR L a s with
    | false =>
      have E := hide (gR_no (L := L) (v := v) (a := a) (s := s) (low := low) (fun g => by rw [hi] at g; exact absurd g.2 (by decide)))
      rw [hi] at IS
      clear h hi hr hv hcp
      go_enter Try.func42, Try.ntmps42
      go_upto_region 1 with fail
      rw [← hg9, ← hg, ← hW0]
      clear hg hg9 hW0
      have x0 := X.out.cell 0
      simp at x0
      go_wp2_with fail
      refine VD.out.mono ?_
      rintro e w1 ⟨rfl, hb⟩
      replace K := hide (btrans K.out hb)
      replace X := hide (X.out.below hb)
      clear hb VD x0
      have x0 := X.out.cell 0
      simp at x0
      go_wp2_with fail
      refine (IS.out _ K.out).mono ?_
      rintro e w2 ⟨rfl, hb⟩
      replace K := hide (btrans K.out hb)
      clear hb IS x0
      go_wp2
      go_ret
      exact ⟨ret_bool E.out.symm, K.out⟩
    | true =>
      have q := iR_ok hi
      have V := hide (vd_of q.1.1)
      have HI := hide h
      have HE := hide (nR_ok h)
      have GR := hide (gR_ok (low := low) ⟨h, hi⟩)
      have IN := hide (fun w' (hb : Below w.heap.size w w') => inn_any A AV cp cv L v w' (HR.out _ hb) (hv.below hb) hcp hn hvn)
      unfold BiR at IN
      rw [HE.out, rl_len] at IN
      have PT := hide (fun w' (hb : Below w.heap.size w w') => path_any A cp L a w' (HR.out _ hb) hcp hn)
      unfold PR at PT
      rw [pR_ok q.1] at PT
      have PN := pth_nlen q.1
      have PI := hide (PIn.pth V.out q.1.2.1 q.1.2.2)
      have GT := hide (fun j hj (hz : (pth L a).getD j 0 = max s 0) (hs : -1 ≤ s) => gd_take (L := L) (v := v) (low := low) (pth_dec V.out.tr V.out.len.2 a (by omega) q.1.2.2) hj hz hs)
      have Z := hide (zero_mem V.out a (by omega) q.1.2.2 q.1.2.1)
      have SQ := hide q.2
      rw [hi] at IS
      clear h hi hr hv hcp q
      generalize pth L a = P at *
      obtain ⟨PN1, PN8⟩ := PN
      have hs1 : -1 ≤ s := by
        rcases SQ.out with h | h
        · omega
        · have := PI.out.mem s h; omega
      have MM := hide (show max s 0 ∈ P from by
        rcases SQ.out with h | h
        · rw [h]; exact Z.out
        · have := PI.out.mem s h
          rw [show max s 0 = s by omega]; exact h)
      go_enter Try.func42, Try.ntmps42
      go_upto_region 1 with fail
      rw [← hg9, ← hg, ← hW0]
      clear hg hg9 hW0
      have x0 := X.out.cell 0
      simp at x0
      go_wp2_with fail
      refine VD.out.mono ?_
      rintro e w1 ⟨rfl, hb⟩
      replace K := hide (btrans K.out hb)
      replace X := hide (X.out.below hb)
      replace X9 := hide (X9.out.below hb)
      clear hb VD x0
      have x0 := X.out.cell 0
      simp at x0
      go_wp2_with fail
      refine (IS.out _ K.out).mono ?_
      rintro e w2 ⟨rfl, hb⟩
      replace K := hide (btrans K.out hb)
      replace X := hide (X.out.below hb)
      replace X9 := hide (X9.out.below hb)
      clear hb IS x0
      have x0 := X.out.cell 0
      simp at x0
      go_wp2_with fail
      refine (IN.out _ K.out).mono ?_
      rintro e w3 ⟨AI, ci, rfl, hBI, hb⟩
      replace K := hide (btrans K.out hb)
      replace X := hide (X.out.below hb)
      replace X9 := hide (X9.out.below hb)
      have M := bal (brefl w3) (.cells #[.slice AI L.length ci] 26)
      have X11 := hide (Box.new w3 26 #[.slice AI L.length ci])
      replace K := hide (btrans K.out M)
      replace X := hide (X.out.below M)
      replace X9 := hide (X9.out.below M)
      have BI := hide (hBI.below M)
      clear hb IN x0 hBI M
      go_upto_region 4 with fail
      obtain ⟨g11, hg11⟩ : ∃ g11, g11 = w3.heap.size := ⟨_, rfl⟩
      rw [← hg11] at X11 ⊢
      generalize w3.alloc (.cells #[.slice AI L.length ci] 26) = w4 at *
      clear hg11
      have x0 := X.out.cell 0
      simp at x0
      go_wp2_with fail
      refine (PT.out _ K.out).mono ?_
      rintro e w5 ⟨AP, c2, rfl, hO, hb⟩
      replace K := hide (btrans K.out hb)
      replace X := hide (X.out.below hb)
      replace X9 := hide (X9.out.below hb)
      replace X11 := hide (X11.out.below hb)
      replace BI := hide (BI.out.below hb)
      have BP := hide (OwI.bi hO)
      have hcap : P.length ≤ c2 := by obtain ⟨_, _, ev, hq⟩ := row_form hO; injection ev with _ _ ev; omega
      have IX := hide (index_any AP c2 P (max s 0) w5 BP.out (by omega))
      obtain ⟨mz, hmz⟩ : ∃ mz, mz = max s 0 := ⟨_, rfl⟩
      clear hb x0 hO PT
      have key : ∀ e w', IxP P (max s 0) w5 e w' → ∃ j, j < P.length ∧ e = .returned (.int .i64 (j : Nat)) ∧ P.getD j 0 = max s 0 ∧ w5 = w' := fun e w' h => ix_of MM.out h
      have KEY := hide key
      clear key
      rw [← hmz] at IX KEY MM GT
      by_cases hs0 : s < 0
      · obtain rfl : s = -1 := by omega
        obtain rfl : mz = 0 := by rw [hmz]; decide
        clear hmz
        go_wp2_with fail
        refine IX.out.mono ?_
        rintro e w' hix
        obtain ⟨j, hj, rfl, hz, rfl⟩ := KEY.out _ _ hix
        have ET := hide (GR.out.trans (GT.out j hj hz hs1))
        have hjl : (P.take j).length = j := by rw [List.length_take]; omega
        have GC := hide (gcont_any AP c2 (P.take j) g g11 g9 A AI cp ci L v low (fun x hx => PI.out.mem x (List.mem_of_mem_take hx)) (by omega) V.out HI.out.2.2 HI.out.2.1 w5 (BP.out.take j) X.out X11.out X9.out (HR.out _ K.out) BI.out)
        rw [hjl] at GC
        have hj2 : (j : Int) ≤ (P.length : Int) := by omega
        have hj3 : j ≤ P.length := by omega
        have hj4 : j ≤ c2 := by omega
        have hj0 : (0 : Int) ≤ (j : Int) := by omega
        clear hix IX KEY hz hjl
        go_wp2_with fail
        refine GC.out.mono ?_
        rintro e w6 ⟨rfl, hb⟩
        replace K := hide (btrans K.out hb)
        clear hb GC
        go_wp2
        go_ret
        exact ⟨ret_bool ET.out.symm, K.out⟩
      · obtain rfl : s = mz := by omega
        clear hmz
        go_wp2_with fail
        refine IX.out.mono ?_
        rintro e w' hix
        obtain ⟨j, hj, rfl, hz, rfl⟩ := KEY.out _ _ hix
        have ET := hide (GR.out.trans (GT.out j hj hz hs1))
        have hjl : (P.take j).length = j := by rw [List.length_take]; omega
        have GC := hide (gcont_any AP c2 (P.take j) g g11 g9 A AI cp ci L v low (fun x hx => PI.out.mem x (List.mem_of_mem_take hx)) (by omega) V.out HI.out.2.2 HI.out.2.1 w5 (BP.out.take j) X.out X11.out X9.out (HR.out _ K.out) BI.out)
        rw [hjl] at GC
        have hj2 : (j : Int) ≤ (P.length : Int) := by omega
        have hj3 : j ≤ P.length := by omega
        have hj4 : j ≤ c2 := by omega
        have hj0 : (0 : Int) ≤ (j : Int) := by omega
        clear hix IX KEY hz hjl
        go_wp2_with fail
        refine GC.out.mono ?_
        rintro e w6 ⟨rfl, hb⟩
        replace K := hide (btrans K.out hb)
        clear hb GC
        go_wp2
        go_ret
        exact ⟨ret_bool ET.out.symm, K.out⟩
  · have E := hide (gR_no (L := L) (v := v) (a := a) (s := s) (low := low) (fun g => h g.1))
    rw [decide_eq_false h] at VD
    clear h hr hv hcp IS
    go_enter Try.func42, Try.ntmps42
    go_upto_region 1 with fail
    rw [← hg9, ← hg, ← hW0]
    clear hg hg9 hW0
    have x0 := X.out.cell 0
    simp at x0
    go_wp2_with fail
    refine VD.out.mono ?_
    rintro e w1 ⟨rfl, hb⟩
    replace K := hide (btrans K.out hb)
    clear hb VD x0
    go_wp2
    go_ret
    exact ⟨ret_bool E.out.symm, K.out⟩
set_option maxRecDepth 100000 in
set_option maxHeartbeats 8000000 in
theorem rguard_any (A AV : Option Addr) (cp cv : Nat) (L : List A5) (v : Is) (a s : Int) (low : Bool) (w : World) (hr : As w A L) (hv : Bi w AV v) (hcp : L.length ≤ cp) (hn : L.length ≤ 9223372036854775807) (hvn : v.length ≤ 9223372036854775807) :
    Calls Try.prog 43 #[.slice A L.length cp, .slice AV v.length cv, .int .i64 a, .int .i64 s, .bool low] w fun e w' => e = .returned (.bool (gR L v a s low)) ∧ Below w.heap.size w w' := by
  have K := hide (brefl w)
  have HR := hide (fun w' (h : Below w.heap.size w w') => hr.below h)
  have VD := hide (rvld_any A AV cp cv L v w hr hv hn hvn)
  have IS := hide (fun w' (h : Below w.heap.size w w') => rinside_any A cp L a s w' (HR.out _ h) hcp hn)
  by_cases h : vlv L v
  · rw [decide_eq_true h] at VD
    have NO := hide (fun (hi : iR L a s = false) => gR_no (L := L) (v := v) (a := a) (s := s) (low := low) (fun g => by rw [hi] at g; exact absurd g.2 (by decide)))
    have hvl := h.2.1
    have V := hide (vd_of h.1)
    have hl8 := V.out.len.2
    by_cases a0 : a < 0
    · have E := hide (NO.out (by cases hi : iR L a s with
        | false => rfl
        | true => have := (iR_ok hi).1.2.1; omega))
      clear h NO hr hv hcp IS
      rw [hvl] at VD ⊢
      go_enter Try.func43, Try.ntmps43
      go_wp2_with fail
      refine VD.out.mono ?_
      rintro e w1 ⟨rfl, hb⟩
      replace K := hide (btrans K.out hb)
      clear hb VD
      go_wp2
      go_ret
      exact ⟨ret_bool E.out.symm, K.out⟩
    · have a0' : ¬ a < 0 := a0
      by_cases a1 : (L.length : Int) ≤ a
      · have E := hide (NO.out (by cases hi : iR L a s with
          | false => rfl
          | true => have := (iR_ok hi).1.2.2; omega))
        clear h NO hr hv hcp IS
        rw [hvl] at VD ⊢
        go_enter Try.func43, Try.ntmps43
        go_wp2_with fail
        refine VD.out.mono ?_
        rintro e w1 ⟨rfl, hb⟩
        replace K := hide (btrans K.out hb)
        clear hb VD
        go_wp2
        go_ret
        exact ⟨ret_bool E.out.symm, K.out⟩
      · have a1' : ¬ (L.length : Int) ≤ a := a1
        by_cases s0 : s < -1
        · have E := hide (NO.out (by cases hi : iR L a s with
            | false => rfl
            | true =>
              have q := iR_ok hi
              have PI := PIn.pth V.out q.1.2.1 q.1.2.2
              rcases q.2 with e | e
              · omega
              · have := PI.mem s e; omega))
          clear h NO hr hv hcp IS
          rw [hvl] at VD ⊢
          go_enter Try.func43, Try.ntmps43
          go_wp2_with fail
          refine VD.out.mono ?_
          rintro e w1 ⟨rfl, hb⟩
          replace K := hide (btrans K.out hb)
          clear hb VD
          go_wp2
          go_ret
          exact ⟨ret_bool E.out.symm, K.out⟩
        · by_cases s1 : (L.length : Int) ≤ s
          · have E := hide (NO.out (by cases hi : iR L a s with
              | false => rfl
              | true =>
                have q := iR_ok hi
                have PI := PIn.pth V.out q.1.2.1 q.1.2.2
                rcases q.2 with e | e
                · omega
                · have := PI.mem s e; omega))
            clear h NO hr hv hcp IS
            rw [hvl] at VD ⊢
            go_enter Try.func43, Try.ntmps43
            go_wp2_with fail
            refine VD.out.mono ?_
            rintro e w1 ⟨rfl, hb⟩
            replace K := hide (btrans K.out hb)
            clear hb VD
            go_wp2
            go_ret
            exact ⟨ret_bool E.out.symm, K.out⟩
          · have ds0 : decide (s < -1) = false := decide_eq_false s0
            have ds1 : decide ((L.length : Int) ≤ s) = false := decide_eq_false s1
            have da1 : decide ((L.length : Int) ≤ a) = false := decide_eq_false a1
            cases hi : iR L a s with
            | false =>
              have E := hide (NO.out hi)
              rw [hi] at IS
              clear h NO hr hv hcp hi
              rw [hvl] at VD ⊢
              go_enter Try.func43, Try.ntmps43
              go_wp2_with fail
              refine VD.out.mono ?_
              rintro e w1 ⟨rfl, hb⟩
              replace K := hide (btrans K.out hb)
              clear hb VD
              go_wp2_with fail
              refine (IS.out _ K.out).mono ?_
              rintro e w2 ⟨rfl, hb⟩
              replace K := hide (btrans K.out hb)
              clear hb IS
              go_wp2
              go_ret
              exact ⟨ret_bool E.out.symm, K.out⟩
            | true =>
              have GR := hide (gR_ok (low := low) ⟨h, hi⟩)
              have HOK := hide h.2.2
              have IN := hide (fun w' (hb : Below w.heap.size w w') => rin0_any A AV cp cv L v w' (HR.out _ hb) (hv.below hb) V.out h.2.1 h.2.2)
              unfold RIR at IN
              rw [hi] at IS
              obtain ⟨ka, hka⟩ : ∃ ka : Nat, a = (ka : Int) := ⟨a.toNat, by omega⟩
              subst hka
              have hkl : ka < L.length := by omega
              have CE := hide (fun (m : Nat) (hm : m < L.length) w' (hb : Below w.heap.size w w') => hr.cells hb hm)
              clear h NO hr hv hcp hi
              rw [hvl] at VD IN ⊢
              have HVL := hide hvl
              clear hvl
              go_enter Try.func43, Try.ntmps43
              go_wp2_with fail
              refine VD.out.mono ?_
              rintro e w1 ⟨rfl, hb⟩
              replace K := hide (btrans K.out hb)
              clear hb VD
              go_wp2_with fail
              refine (IS.out _ K.out).mono ?_
              rintro e w2 ⟨rfl, hb⟩
              replace K := hide (btrans K.out hb)
              clear hb IS
              go_wp2_with fail
              refine (IN.out _ K.out).mono ?_
              rintro e w3 ⟨gi, rfl, hS, hgi, hb⟩
              replace K := hide (btrans K.out hb)
              have S := hide hS
              clear hb IN hS hgi
              go_wp2
              go_loopw [12, 13] (fun c _ wr => ∃ m : Nat, m < L.length ∧ c = .int .i64 m ∧ Hid (gdP L v s low (pth L (ka : Int)) = gdP L v s low (pth L (m : Int))) ∧ Hid (RI wr gi L.length (tS L v)) ∧ Hid (Below w.heap.size w wr)) (fun c _ _ => (intOf c).toNat)
              case atStart => exact ⟨ka, hkl, rfl, hide rfl, S, K⟩
              case round =>
                clear S K
                obtain ⟨m, hm, rfl, G, S, K⟩ := hrel
                have hm2 : (m : Int) < (L.length : Int) := by omega
                have hm0 : (0 : Int) ≤ (m : Int) := by omega
                have PC := hide (pth_cons V.out.tr hl8 hm)
                have GE := hide (show gdP L v s low ((m : Int) :: pth L (pa L m)) = (if 0 < (m : Int) ∧ (m : Int) ≠ s then (gu L v low m || gdP L v s low (pth L (pa L m))) else false) from rfl)
                by_cases h0 : m = 0
                · have E := hide (GR.out.trans (G.out.trans (by rw [PC.out, GE.out, if_neg (by omega)])))
                  have z0 : ¬ 0 < m := by omega
                  have z1 : ¬ (0 : Int) < (m : Int) := by omega
                  clear h0 GE PC G
                  go_wp2
                  go_ret
                  exact ⟨ret_bool E.out.symm, K.out⟩
                · have z0 : 0 < m := by omega
                  have z1 : (0 : Int) < (m : Int) := by omega
                  by_cases hs : (m : Int) = s
                  · have E := hide (GR.out.trans (G.out.trans (by rw [PC.out, GE.out, if_neg (fun g => g.2 hs)])))
                    have de : ((m : Int) != s) = false := by simp [hs]
                    clear h0 GE PC G hs
                    go_wp2
                    go_ret
                    exact ⟨ret_bool E.out.symm, K.out⟩
                  · have de : ((m : Int) != s) = true := by simpa using hs
                    have hpp := V.out.tr.2 m hm z0
                    obtain ⟨pm, hpm⟩ : ∃ pm : Nat, pa L m = (pm : Int) := ⟨(pa L m).toNat, by omega⟩
                    obtain ⟨b, off, rfl, hbl, y0, y1, y2, y3, y4⟩ := CE.out m hm _ K.out
                    have t0 : wr.cell? ⟨gi, m, none⟩ = some (.int .i64 (tS L v m)) := S.out.cell hm
                    have bd := V.out.rg m hm
                    unfold inr at bd
                    have t1 := tS_nonneg (L := L) (v := v) (fun i hi => (HOK.out i (by rw [HVL.out]; exact hi)).1) m
                    have t2 := tS_le (L := L) (v := v) hl8 (fun i hi => HOK.out i (by rw [HVL.out]; exact hi)) m
                    have GU := hide (show gu L v low (m : Int) = decide (us L m - tS L v m ≤ fl L low m) by unfold gu; rw [Int.toNat_natCast])
                    have FL := hide (show fl L low m = if low = true then lo L m else mn L m from rfl)
                    have YES := hide (fun (g : gu L v low (m : Int) = true) => GR.out.trans (G.out.trans (by rw [PC.out, GE.out, if_pos ⟨z1, hs⟩, g, Bool.true_or])))
                    have NOX := hide (fun (g : gu L v low (m : Int) = false) => G.out.trans (show gdP L v s low (pth L (m : Int)) = gdP L v s low (pth L (pm : Int)) by rw [PC.out, GE.out, if_pos ⟨z1, hs⟩, g, Bool.false_or, hpm]))
                    have Y0 := hide (fun q => (show (wr.drewN q).cell? ⟨b, off + m * 5, none⟩ = some (.int .i64 (pm : Int)) by rw [← hpm]; exact y0))
                    have hpl : pm < L.length := by omega
                    have hpl3 : pm < m := by omega
                    have ew : IntKind.i64.wrap (us L m - tS L v m) = us L m - tS L v m := IntWalk.i64_in _ (by omega)
                    obtain ⟨⟨⟨u1, u2⟩, m1, m2⟩, ⟨l1, l2⟩, _⟩ := bd
                    clear h0 GE PC G hs hpp hpm y0 y4
                    generalize us L m = u at *
                    generalize mn L m = mm at *
                    generalize lo L m = ll at *
                    generalize tS L v m = z at *
                    cases low with
                    | false =>
                      rw [FL.out] at GU
                      simp only [Bool.false_eq_true, if_false] at GU
                      clear FL y3
                      by_cases hc : u - z ≤ mm
                      · have E := hide (YES.out (GU.out.trans (decide_eq_true hc)))
                        clear YES NOX GU
                        go_wp2
                        go_quiet (fail)
                        generalize hwy : World.drewN wr _ = wy
                        have hbq : Below wr.heap.size wr wy := by rw [← hwy]; exact below_drewN (brefl _) _
                        replace K := hide (btrans K.out hbq)
                        clear hwy hbq
                        go_wp2
                        go_ret
                        exact ⟨ret_bool E.out.symm, K.out⟩
                      · have E := hide (NOX.out (GU.out.trans (decide_eq_false hc)))
                        have hd := decide_eq_false hc
                        clear YES NOX GU
                        go_wp2
                        go_quiet (fail)
                        generalize hwy : World.drewN wr _ = wy
                        have hbq : Below wr.heap.size wr wy := by rw [← hwy]; exact below_drewN (brefl _) _
                        have y0 : wy.cell? ⟨b, off + m * 5, none⟩ = some (.int .i64 (pm : Int)) := by rw [← hwy]; exact Y0.out _
                        replace K := hide (btrans K.out hbq)
                        replace S := hide (S.out.below hbq)
                        clear hwy hbq y1 y2  t0
                        go_wp2
                        go_roundw
                        case rel => exact ⟨pm, hpl, rfl, E, S, K⟩
                        case measure => simp [intOf]; omega
                    | true =>
                      rw [FL.out] at GU
                      simp only [if_true] at GU
                      clear FL
                      by_cases hc : u - z ≤ ll
                      · have E := hide (YES.out (GU.out.trans (decide_eq_true hc)))
                        clear YES NOX GU
                        go_wp2
                        go_quiet (fail)
                        generalize hwy : World.drewN wr _ = wy
                        have hbq : Below wr.heap.size wr wy := by rw [← hwy]; exact below_drewN (brefl _) _
                        replace K := hide (btrans K.out hbq)
                        clear hwy hbq
                        go_wp2
                        go_ret
                        exact ⟨ret_bool E.out.symm, K.out⟩
                      · have E := hide (NOX.out (GU.out.trans (decide_eq_false hc)))
                        have hd := decide_eq_false hc
                        clear YES NOX GU
                        go_wp2
                        go_quiet (fail)
                        generalize hwy : World.drewN wr _ = wy
                        have hbq : Below wr.heap.size wr wy := by rw [← hwy]; exact below_drewN (brefl _) _
                        have y0 : wy.cell? ⟨b, off + m * 5, none⟩ = some (.int .i64 (pm : Int)) := by rw [← hwy]; exact Y0.out _
                        replace K := hide (btrans K.out hbq)
                        replace S := hide (S.out.below hbq)
                        clear hwy hbq y1 y2 y3 t0
                        go_wp2
                        go_roundw
                        case rel => exact ⟨pm, hpl, rfl, E, S, K⟩
                        case measure => simp [intOf]; omega
  · have E := hide (gR_no (L := L) (v := v) (a := a) (s := s) (low := low) (fun g => h g.1))
    rw [decide_eq_false h] at VD
    clear h hr hv hcp IS
    go_enter Try.func43, Try.ntmps43
    go_wp2_with fail
    refine VD.out.mono ?_
    rintro e w1 ⟨rfl, hb⟩
    replace K := hide (btrans K.out hb)
    clear hb VD
    go_wp2
    go_ret
    exact ⟨ret_bool E.out.symm, K.out⟩
end Go.Proofs.Ytclkflnonckajaa.Ac
