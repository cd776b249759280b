import Derived.Test.YtimclgmajhhheaaG13
namespace Go.Proofs.Ytimclgmajhhheaa.Gr
open Go Go.RowKit Ac
set_option linter.unusedVariables false
set_option linter.unusedSimpArgs false
/-- the operations of a row: is it a cancel, and the ask -/
def oC (x : Bool × A4) : List Value := .bool x.1 :: qC x.2
def oAt (L : List (Bool × A4)) (k : Nat) : Bool × A4 := L.getD k (false, q0)
def OpR (w : World) (A : Option Addr) (L : List (Bool × A4)) : Prop := L ≠ [] → ∃ b off, A = some ⟨b, off, none⟩ ∧ b < w.heap.size ∧ ∀ k, k < L.length → ∀ j, j < 5 → w.cell? ⟨b, off + k * 5 + j, none⟩ = (oC (oAt L k))[j]?
theorem OpR.cells {w w' : World} {A : Option Addr} {L : List (Bool × A4)} (h : OpR w A L) (hb : Below w.heap.size w w') {k : Nat} (hk : k < L.length) : ∃ b off, A = some ⟨b, off, none⟩ ∧ b < w.heap.size ∧ w'.cell? ⟨b, off + k * 5, none⟩ = some (.bool (oAt L k).1) ∧
    w'.cell? ⟨b, off + k * 5 + 1, none⟩ = some (.int .i64 (oAt L k).2.pc) ∧ w'.cell? ⟨b, off + k * 5 + 2, none⟩ = some (.int .i64 (oAt L k).2.ac) ∧ w'.cell? ⟨b, off + k * 5 + 3, none⟩ = some (.int .i64 (oAt L k).2.ke) ∧ w'.cell? ⟨b, off + k * 5 + 4, none⟩ = some (.int .i64 (oAt L k).2.us) := by
  obtain ⟨b, off, e, hl, hc⟩ := h (by rintro rfl; simp at hk)
  exact ⟨b, off, e, hl, (hb.cell (p := ⟨b, _, none⟩) hl).trans (hc k hk 0 (by omega)), (hb.cell (p := ⟨b, _, none⟩) hl).trans (hc k hk 1 (by omega)), (hb.cell (p := ⟨b, _, none⟩) hl).trans (hc k hk 2 (by omega)), (hb.cell (p := ⟨b, _, none⟩) hl).trans (hc k hk 3 (by omega)), (hb.cell (p := ⟨b, _, none⟩) hl).trans (hc k hk 4 (by omega))⟩
theorem ps_len (Q : List A4) (a : A4) : (psL Q a).length ≤ Q.length + 1 := by
  unfold psL
  split <;> simp
theorem cn_len (Q : List A4) (p : Int) : (cnL Q p).length ≤ Q.length + 1 := by
  unfold cnL flt
  split
  · exact Nat.le_succ_of_le (List.length_filter_le _ _)
  · simp
set_option maxRecDepth 100000 in
set_option maxHeartbeats 8000000 in
theorem law_queues (A : Option Addr) (cp : Nat) (Q : List A4) (B : Option Addr) (cq : Nat) (L : List (Bool × A4)) (w : World) (hq : Qs w A Q) (hr : OpR w B L) (hQ : Q.length ≤ 9223372036854775807) (hL : L.length ≤ 9223372036854775807) : Calls Try.prog 3 #[.slice A Q.length cp, .slice B L.length cq] w fun e w' => e = .returned (.bool (true)) ∧ Below w.heap.size w w' := by
  have AWK := hide (fun w => awake_any w)
  have K := hide (brefl w)
  have HO := hide hr
  have HQ := hide (fun w' (h : Below w.heap.size w w') => hq.below h)
  clear hr
  by_cases hf : (20 : Int) < Q.length
  · clear HO HQ hq
    go_enter Try.func3, Try.ntmps3
    go_wp2_with fail
    refine (AWK.out _).mono ?_
    rintro e w1 ⟨rfl, hb⟩
    replace K := hide (btrans K.out hb)
    clear hb
    go_wp2_with fail
    refine (AWK.out _).mono ?_
    rintro e w2 ⟨rfl, hb⟩
    replace K := hide (btrans K.out hb)
    clear hb
    go_wp2
    go_ret
    exact ⟨rfl, K.out⟩
  by_cases hg : (40 : Int) < L.length
  · clear HO HQ hq
    go_enter Try.func3, Try.ntmps3
    go_wp2_with fail
    refine (AWK.out _).mono ?_
    rintro e w1 ⟨rfl, hb⟩
    replace K := hide (btrans K.out hb)
    clear hb
    go_wp2_with fail
    refine (AWK.out _).mono ?_
    rintro e w2 ⟨rfl, hb⟩
    replace K := hide (btrans K.out hb)
    clear hb
    go_wp2
    go_ret
    exact ⟨rfl, K.out⟩
  have CK := hide (fun w' (h : Below w.heap.size w w') => qcheck_any A cp Q w' (hq.below h) (by omega))
  have RK := hide (fun w' (h : Below w.heap.size w w') => rqcheck_any A cp Q w' (hq.below h) (by omega))
  generalize ckQ Q = z at *
  clear hq
  go_enter Try.func3, Try.ntmps3
  go_wp2_with fail
  refine (AWK.out _).mono ?_
  rintro e w1 ⟨rfl, hb⟩
  replace K := hide (btrans K.out hb)
  clear hb
  go_wp2_with fail
  refine (CK.out _ K.out).mono ?_
  rintro e w2 ⟨rfl, hb⟩
  replace K := hide (btrans K.out hb)
  clear hb
  go_wp2_with fail
  refine (RK.out _ K.out).mono ?_
  rintro e w3 ⟨rfl, hb⟩
  replace K := hide (btrans K.out hb)
  clear hb
  have Q0 := hide (HQ.out _ K.out)
  clear HQ CK RK AWK
  go_wp2
  go_loopw [31, 0, 6, 7, 8, 9, 10] (fun i v _ _ _ _ _ wr => ∃ (k : Nat) (A : Option Addr) (cp : Nat) (Q : List A4), k ≤ L.length ∧ i = .int .i64 k ∧ v = .slice A Q.length cp ∧ Q.length ≤ 20 + k ∧ Hid (Qs wr A Q) ∧ Hid (Below w.heap.size w wr)) (fun i _ _ _ _ _ _ _ => L.length - (intOf i).toNat)
  case atStart => exact ⟨0, A, cp, Q, Nat.zero_le _, rfl, rfl, by omega, Q0, K⟩
  case round =>
    clear K Q0 hQ hf
    obtain ⟨k, A, cp, Q, hk, rfl, rfl, hQ, hq, K⟩ := hrel
    by_cases hlt : k < L.length
    · have hl2 : (k : Int) < (L.length : Int) := by omega
      have hk0 : (0 : Int) ≤ (k : Int) := by omega
      obtain ⟨b, off, rfl, hbl, y0, y1, y2, y3, y4⟩ := HO.out.cells K.out hlt
      obtain ⟨⟨cn, ⟨pc, ac, ke, us⟩⟩, hx⟩ : ∃ x, x = oAt L k := ⟨_, rfl⟩
      rw [← hx] at y0 y1 y2 y3 y4
      dsimp only at y0 y1 y2 y3 y4
      clear hx
      have K1 := hide (brefl wr)
      have QW := hide (fun w' (h : Below wr.heap.size wr w') => hq.out.below h)
      clear hq
      have PS := fun w' (h : Below wr.heap.size wr w') => push_any A cp Q pc ac ke us w' (QW.out _ h) (by omega)
      have RP := fun w' (h : Below wr.heap.size wr w') => rpush_any A cp Q pc ac ke us w' (QW.out _ h) (by omega)
      have CN := fun w' (h : Below wr.heap.size wr w') => cancel_any A cp Q pc w' (QW.out _ h) (by omega)
      have RC := fun w' (h : Below wr.heap.size wr w') => rcancel_any A cp Q pc w' (QW.out _ h) (by omega)
      unfold PuR at PS RP CN RC
      have HRP := ps_len Q ⟨pc, ac, ke, us⟩
      have HRC := cn_len Q pc
      obtain ⟨RP0, h1⟩ : ∃ x, x = psL Q ⟨pc, ac, ke, us⟩ := ⟨_, rfl⟩
      obtain ⟨RC0, h2⟩ : ∃ x, x = cnL Q pc := ⟨_, rfl⟩
      obtain ⟨ep, h3⟩ : ∃ x, x = psE Q ⟨pc, ac, ke, us⟩ := ⟨_, rfl⟩
      obtain ⟨ec, h4⟩ : ∃ x, x = cnE Q pc := ⟨_, rfl⟩
      rw [← h1] at PS RP HRP
      rw [← h2] at CN RC HRC
      rw [← h3] at PS RP
      rw [← h4] at CN RC
      clear h1 h2 h3 h4
      replace HRP := hide HRP
      replace HRC := hide HRC
      replace PS := hide PS
      replace RP := hide RP
      replace CN := hide CN
      replace RC := hide RC
      cases cn
      · clear CN RC HRC ec
        have M := bal (brefl wr) (.cells #[.bool false, .int .i64 pc, .int .i64 ac, .int .i64 ke, .int .i64 us] 29)
        have X := hide (Box.new wr 29 #[.bool false, .int .i64 pc, .int .i64 ac, .int .i64 ke, .int .i64 us])
        replace K := hide (btrans K.out M)
        replace K1 := hide (btrans K1.out M)
        go_upto_region 8 with fail
        obtain ⟨g, hg⟩ : ∃ g, g = wr.heap.size := ⟨_, rfl⟩
        obtain ⟨wa, hwa⟩ : ∃ W, W = wr.alloc (.cells #[.bool false, .int .i64 pc, .int .i64 ac, .int .i64 ke, .int .i64 us] 29) := ⟨_, rfl⟩
        rw [← hwa, ← hg] at X ⊢
        rw [← hwa] at K K1
        clear hg hwa M y0 y1 y2 y3 y4
        try clear x0 x1 x2 x3 x4
        have x0 := Box.cell X.out 0
        have x1 := Box.cell X.out 1
        have x2 := Box.cell X.out 2
        have x3 := Box.cell X.out 3
        have x4 := Box.cell X.out 4
        go_wp2_with fail
        refine ((PS.out _ K1.out)).mono ?_
        rintro e wb ⟨A1, c1, rfl, hO, hb⟩
        have O1 := hide (OwQ.rs hO)
        clear hO
        replace K := hide (btrans K.out hb)
        replace K1 := hide (btrans K1.out hb)
        replace X := hide (X.out.below hb)
        clear hb
        try clear x0 x1 x2 x3 x4
        have x0 := Box.cell X.out 0
        have x1 := Box.cell X.out 1
        have x2 := Box.cell X.out 2
        have x3 := Box.cell X.out 3
        have x4 := Box.cell X.out 4
        go_wp2_with fail
        refine ((RP.out _ K1.out)).mono ?_
        rintro e wc ⟨A2, c2, rfl, hO, hb⟩
        have O2 := hide (OwQ.rs hO)
        clear hO
        replace K := hide (btrans K.out hb)
        replace K1 := hide (btrans K1.out hb)
        replace X := hide (X.out.below hb)
        replace O1 := hide (O1.out.below hb)
        clear hb
        try clear x0 x1 x2 x3 x4
        have x0 := Box.cell X.out 0
        have x1 := Box.cell X.out 1
        have x2 := Box.cell X.out 2
        have x3 := Box.cell X.out 3
        have x4 := Box.cell X.out 4
        go_wp2_with fail
        refine (qsame_refl A1 A2 c1 c2 RP0 _ O1.out O2.out (by have := HRP.out; omega)).mono ?_
        rintro e wf ⟨rfl, hb⟩
        replace K := hide (btrans K.out hb)
        replace K1 := hide (btrans K1.out hb)
        replace O2 := hide (O2.out.below hb)
        clear hb
        clear x0 x1 x2 x3 x4 X
        by_cases hz : ep = 0
        · subst hz
          go_wp2
          go_roundw
          case rel => exact ⟨k + 1, A2, c2, RP0, by omega, by go_num, rfl, by have := HRP.out; omega, O2, K⟩
          case measure => simp [intOf]; omega
        · have hz2 : (ep == 0) = false := beq_eq_false_iff_ne.2 hz
          have QK := hide (QW.out _ K1.out)
          go_wp2
          go_roundw
          case rel => exact ⟨k + 1, A, cp, Q, by omega, by go_num, rfl, by omega, QK, K⟩
          case measure => simp [intOf]; omega
      · have cn0 := 0
        clear cn0
        have M := bal (brefl wr) (.cells #[.bool true, .int .i64 pc, .int .i64 ac, .int .i64 ke, .int .i64 us] 29)
        have X := hide (Box.new wr 29 #[.bool true, .int .i64 pc, .int .i64 ac, .int .i64 ke, .int .i64 us])
        replace K := hide (btrans K.out M)
        replace K1 := hide (btrans K1.out M)
        go_upto_region 8 with fail
        obtain ⟨g, hg⟩ : ∃ g, g = wr.heap.size := ⟨_, rfl⟩
        obtain ⟨wa, hwa⟩ : ∃ W, W = wr.alloc (.cells #[.bool true, .int .i64 pc, .int .i64 ac, .int .i64 ke, .int .i64 us] 29) := ⟨_, rfl⟩
        rw [← hwa, ← hg] at X ⊢
        rw [← hwa] at K K1
        clear hg hwa M y0 y1 y2 y3 y4
        try clear x0 x1 x2 x3 x4
        have x0 := Box.cell X.out 0
        have x1 := Box.cell X.out 1
        have x2 := Box.cell X.out 2
        have x3 := Box.cell X.out 3
        have x4 := Box.cell X.out 4
        go_wp2_with fail
        refine ((PS.out _ K1.out)).mono ?_
        rintro e wb ⟨A1, c1, rfl, hO, hb⟩
        have O1 := hide (OwQ.rs hO)
        clear hO
        replace K := hide (btrans K.out hb)
        replace K1 := hide (btrans K1.out hb)
        replace X := hide (X.out.below hb)
        clear hb
        try clear x0 x1 x2 x3 x4
        have x0 := Box.cell X.out 0
        have x1 := Box.cell X.out 1
        have x2 := Box.cell X.out 2
        have x3 := Box.cell X.out 3
        have x4 := Box.cell X.out 4
        go_wp2_with fail
        refine ((RP.out _ K1.out)).mono ?_
        rintro e wc ⟨A2, c2, rfl, hO, hb⟩
        have O2 := hide (OwQ.rs hO)
        clear hO
        replace K := hide (btrans K.out hb)
        replace K1 := hide (btrans K1.out hb)
        replace X := hide (X.out.below hb)
        replace O1 := hide (O1.out.below hb)
        clear hb
        try clear x0 x1 x2 x3 x4
        have x0 := Box.cell X.out 0
        have x1 := Box.cell X.out 1
        have x2 := Box.cell X.out 2
        have x3 := Box.cell X.out 3
        have x4 := Box.cell X.out 4
        clear O1 O2
        go_wp2_with fail
        refine ((CN.out _ K1.out)).mono ?_
        rintro e wd ⟨A3, c3, rfl, hO, hb⟩
        have O3 := hide (OwQ.rs hO)
        clear hO
        replace K := hide (btrans K.out hb)
        replace K1 := hide (btrans K1.out hb)
        replace X := hide (X.out.below hb)
        clear hb
        try clear x0 x1 x2 x3 x4
        have x0 := Box.cell X.out 0
        have x1 := Box.cell X.out 1
        have x2 := Box.cell X.out 2
        have x3 := Box.cell X.out 3
        have x4 := Box.cell X.out 4
        go_wp2_with fail
        refine ((RC.out _ K1.out)).mono ?_
        rintro e we ⟨A4', c4, rfl, hO, hb⟩
        have O4 := hide (OwQ.rs hO)
        clear hO
        replace K := hide (btrans K.out hb)
        replace K1 := hide (btrans K1.out hb)
        replace X := hide (X.out.below hb)
        replace O3 := hide (O3.out.below hb)
        clear hb
        go_wp2_with fail
        refine (qsame_refl A3 A4' c3 c4 RC0 _ O3.out O4.out (by have := HRC.out; omega)).mono ?_
        rintro e wf ⟨rfl, hb⟩
        replace K := hide (btrans K.out hb)
        replace K1 := hide (btrans K1.out hb)
        replace O4 := hide (O4.out.below hb)
        clear hb
        clear x0 x1 x2 x3 x4 X
        by_cases hz : ec = 0
        · subst hz
          go_wp2
          go_roundw
          case rel => exact ⟨k + 1, A4', c4, RC0, by omega, by go_num, rfl, by have := HRC.out; omega, O4, K⟩
          case measure => simp [intOf]; omega
        · have hz2 : (ec == 0) = false := beq_eq_false_iff_ne.2 hz
          have QK := hide (QW.out _ K1.out)
          go_wp2
          go_roundw
          case rel => exact ⟨k + 1, A, cp, Q, by omega, by go_num, rfl, by omega, QK, K⟩
          case measure => simp [intOf]; omega
    · obtain rfl : k = L.length := by omega
      go_wp2
      go_ret
      exact ⟨rfl, K.out⟩
end Go.Proofs.Ytimclgmajhhheaa.Gr
