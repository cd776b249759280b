import Derived.Test.YtioffnpnoohbiaaL1
namespace Go.Proofs.Ytioffnpnoohbiaa.Rm
open Go Go.RowKit
set_option linter.unusedVariables false
set_option linter.unusedSimpArgs false
/-- the operations of a row: is it a removal, and the mapping -/
def oC (x : Bool × Mp) : List Value := .bool x.1 :: mC x.2
def oAt (L : List (Bool × Mp)) (k : Nat) : Bool × Mp := L.getD k (false, m0)
def OpR (w : World) (A : Option Addr) (L : List (Bool × Mp)) : Prop := L ≠ [] → ∃ b off, A = some ⟨b, off, none⟩ ∧ b < w.heap.size ∧ ∀ k, k < L.length → ∀ j, j < 3 → w.cell? ⟨b, off + k * 3 + j, none⟩ = (oC (oAt L k))[j]?
theorem OpR.below {w w' : World} {A : Option Addr} {L : List (Bool × Mp)} (h : OpR w A L) (hb : Below w.heap.size w w') : OpR w' A L := fun hn => by
  obtain ⟨b, off, e, hlt, hc⟩ := h hn
  exact ⟨b, off, e, Nat.lt_of_lt_of_le hlt hb.size, fun k hk j hj => (hb.cell (p := ⟨b, _, none⟩) hlt).trans (hc k hk j hj)⟩
theorem OpR.cells {w w' : World} {A : Option Addr} {L : List (Bool × Mp)} (h : OpR w A L) (hb : Below w.heap.size w w') {k : Nat} (hk : k < L.length) : ∃ b off, A = some ⟨b, off, none⟩ ∧ b < w.heap.size ∧ w'.cell? ⟨b, off + k * 3, none⟩ = some (.bool (oAt L k).1) ∧
    w'.cell? ⟨b, off + k * 3 + 1, none⟩ = some (.int .i64 (oAt L k).2.s) ∧ w'.cell? ⟨b, off + k * 3 + 2, none⟩ = some (.int .i64 (oAt L k).2.p) := by
  obtain ⟨b, off, e, hl, hc⟩ := h (by rintro rfl; simp at hk)
  exact ⟨b, off, e, hl, (hb.cell (p := ⟨b, _, none⟩) hl).trans (hc k hk 0 (by omega)), (hb.cell (p := ⟨b, _, none⟩) hl).trans (hc k hk 1 (by omega)), (hb.cell (p := ⟨b, _, none⟩) hl).trans (hc k hk 2 (by omega))⟩
/-- a box with an operation -/
def OB (w : World) (g : Nat) (r : Bool) (m : Mp) : Prop := Box w g 28 #[.bool r, .int .i64 m.s, .int .i64 m.p]
theorem OB.cells {w : World} {g : Nat} {r : Bool} {s p : Int} (h : OB w g r ⟨s, p⟩) : w.cell? ⟨g, 0, none⟩ = some (.bool r) ∧ w.cell? ⟨g, 1, none⟩ = some (.int .i64 s) ∧ w.cell? ⟨g, 1 + 1, none⟩ = some (.int .i64 p) := ⟨Box.cell h 0, Box.cell h 1, Box.cell h 2⟩
theorem OB.new (w : World) (r : Bool) (s p : Int) : OB (w.alloc (.cells #[.bool r, .int .i64 s, .int .i64 p] 28)) w.heap.size r ⟨s, p⟩ := Box.new w 28 _
theorem OB.below {w w' : World} {g : Nat} {r : Bool} {m : Mp} (h : OB w g r m) (hb : Below w.heap.size w w') : OB w' g r m := Box.below h hb
theorem ad_len (L : List Mp) (m : Mp) : (adL L m).length ≤ L.length + 1 := by
  unfold adL
  split
  · rw [ins_length]; exact Nat.le_refl _
  · simp
theorem re_len (L : List Mp) (m : Mp) : (reL L m).length ≤ L.length + 1 := by
  unfold reL
  split
  · exact Nat.le_succ_of_le (List.length_filter_le _ _)
  · simp
set_option maxRecDepth 100000 in
set_option maxHeartbeats 8000000 in
theorem law_steps (A : Option Addr) (cp : Nat) (L : List Mp) (B : Option Addr) (cq : Nat) (O : List (Bool × Mp)) (w : World) (hr : Ms w A L) (ho : OpR w B O) (hn : L.length ≤ 9223372036854775807) (hn2 : O.length ≤ 9223372036854775807) : Calls Try.prog 3 #[.slice A L.length cp, .slice B O.length cq] w fun e w' => e = .returned (.bool true) ∧ Below w.heap.size w w' := by
  have AWK := hide (fun w => awake_any w)
  have K := hide (brefl w)
  have HO := hide ho
  have HM0 := hide (fun w' (h : Below w.heap.size w w') => hr.below h)
  clear hr ho
  by_cases hf : (40 : Int) < L.length
  · clear HO HM0
    go_enter Try.func3, Try.ntmps3
    go_wp2_with fail
    refine (AWK.out _).mono ?_
    rintro e w1 ⟨rfl, hb⟩
    replace K := hide (btrans K.out hb)
    clear hb
    go_wp2_with fail
    refine (AWK.out _).mono ?_
    rintro e w2 ⟨rfl, hb⟩
    replace K := hide (btrans K.out hb)
    clear hb
    go_wp2
    go_ret
    exact ⟨rfl, K.out⟩
  by_cases hg : (40 : Int) < O.length
  · clear HO HM0
    go_enter Try.func3, Try.ntmps3
    go_wp2_with fail
    refine (AWK.out _).mono ?_
    rintro e w1 ⟨rfl, hb⟩
    replace K := hide (btrans K.out hb)
    clear hb
    go_wp2_with fail
    refine (AWK.out _).mono ?_
    rintro e w2 ⟨rfl, hb⟩
    replace K := hide (btrans K.out hb)
    clear hb
    go_wp2
    go_ret
    exact ⟨rfl, K.out⟩
  have LB0 := hide (show L.length ≤ 40 + 0 by omega)
  have hOl : O.length ≤ 40 := by omega
  have AD := hide (fun A c L t q w hr hn => add_any A c L t q w hr hn)
  have RA := hide (fun A c L t q w hr hn => radd_any A c L t q w hr hn)
  have RE := hide (fun A c L t q w hr hn => rem_any A c L t q w hr hn)
  have RR := hide (fun A c L t q w hr hn => rrem_any A c L t q w hr hn)
  have SM := hide (fun A c L B d R w h1 h2 n1 n2 => same_any A c L B d R w h1 h2 n1 n2)
  unfold PuR at AD RA RE RR
  go_enter Try.func3, Try.ntmps3
  go_wp2_with fail
  refine (AWK.out _).mono ?_
  rintro e w1 ⟨rfl, hb⟩
  replace K := hide (btrans K.out hb)
  clear hb
  have HM := hide (HM0.out _ K.out)
  clear HM0
  go_wp2
  go_loopw [0, 6, 7, 8, 9, 10, 26] (fun l _ _ _ _ _ i wr => ∃ k : Nat, ∃ A1 c1, ∃ R : List Mp, k ≤ O.length ∧ l = .slice A1 R.length c1 ∧ i = .int .i64 k ∧ Hid (Below w.heap.size w wr) ∧ Hid (Ms wr A1 R) ∧ Hid (R.length ≤ 40 + k)) (fun _ _ _ _ _ _ i _ => O.length - (intOf i).toNat)
  case atStart => exact ⟨0, A, cp, L, Nat.zero_le _, rfl, rfl, K, HM, LB0⟩
  case round =>
    clear K HM LB0
    obtain ⟨k, A1, c1, R, hk, rfl, rfl, K, HM, RB⟩ := hrel
    by_cases hlt : k < O.length
    · have hl2 : (k : Int) < (O.length : Int) := by omega
      have hk0 : (0 : Int) ≤ (k : Int) := by omega
      obtain ⟨b, off, rfl, hbl, y0, y1, y2⟩ := HO.out.cells K.out hlt
      generalize oAt O k = oo at *
      obtain ⟨r, s, p⟩ := oo
      dsimp only at y0 y1 y2
      have M := bal (brefl wr) (.cells #[.bool r, .int .i64 s, .int .i64 p] 28)
      have X := hide (OB.new wr r s p)
      replace K := hide (btrans K.out M)
      replace HM := hide (HM.out.below M)
      clear M
      go_upto_region 6 with fail
      obtain ⟨bq, hbq⟩ : ∃ q, q = wr.heap.size := ⟨_, rfl⟩
      rw [← hbq] at X ⊢
      clear hbq y0 y1 y2
      generalize wr.alloc (.cells #[.bool r, .int .i64 s, .int .i64 p] 28) = wa at *
      cases r
      · obtain ⟨x0, x1, x2⟩ := OB.cells X.out
        go_wp2_with fail
        refine (AD.out A1 c1 R s p _ HM.out (by have := RB.out; omega)).mono ?_
        rintro e w5 ⟨A2, c2, rfl, ho, hb⟩
        replace X := hide (X.out.below hb)
        replace HM := hide (HM.out.below hb)
        replace K := hide (btrans K.out hb)
        have M1 := hide (OwM.rs ho)
        clear ho hb
        clear x0 x1 x2
        obtain ⟨x0, x1, x2⟩ := OB.cells X.out
        go_wp2_with fail
        refine (RA.out A1 c1 R s p _ HM.out (by have := RB.out; omega)).mono ?_
        rintro e w6 ⟨A3, c3, rfl, ho, hb⟩
        replace X := hide (X.out.below hb)
        replace HM := hide (HM.out.below hb)
        replace K := hide (btrans K.out hb)
        replace M1 := hide (M1.out.below hb)
        have M2 := hide (OwM.rs ho)
        clear ho hb
        clear x0 x1 x2
        have LB := hide (ad_len R ⟨s, p⟩)
        generalize adE R ⟨s, p⟩ = er at *
        generalize adL R ⟨s, p⟩ = R2 at *
        have S1 := hide (SM.out A2 c2 R2 A3 c3 R2 _ M1.out M2.out (by have := LB.out; have := RB.out; omega) (by have := LB.out; have := RB.out; omega))
        rw [decide_eq_true (show R2 = R2 from rfl)] at S1
        have hce : (er != er) = false := by simp
        have MK := hide (fun w' (h : Below w6.heap.size w6 w') => M2.out.below h)
        by_cases hz : er = 0
        · have hz2 : (er == 0) = true := beq_iff_eq.2 hz
          clear hz
          obtain ⟨x0, x1, x2⟩ := OB.cells X.out
          go_wp2_with fail
          refine S1.out.mono ?_
          rintro e w7 ⟨rfl, hb⟩
          replace M2 := hide (MK.out _ hb)
          replace K := hide (btrans K.out hb)
          clear hb S1 M1 HM MK x0 x1 x2 X
          go_wp2
          go_roundw
          case rel => exact ⟨k + 1, A3, c3, R2, by omega, rfl, by go_num, K, M2, hide (by have := LB.out; have := RB.out; omega)⟩
          case measure => simp [intOf]; omega
        · have hz2 : (er == 0) = false := beq_eq_false_iff_ne.2 hz
          clear hz
          obtain ⟨x0, x1, x2⟩ := OB.cells X.out
          go_wp2_with fail
          refine S1.out.mono ?_
          rintro e w7 ⟨rfl, hb⟩
          replace HM := hide (HM.out.below hb)
          replace K := hide (btrans K.out hb)
          clear hb S1 M1 M2 MK x0 x1 x2 X
          go_wp2
          go_roundw
          case rel => exact ⟨k + 1, A1, c1, R, by omega, rfl, by go_num, K, HM, hide (by have := RB.out; omega)⟩
          case measure => simp [intOf]; omega
      · obtain ⟨x0, x1, x2⟩ := OB.cells X.out
        go_wp2_with fail
        refine (AD.out A1 c1 R s p _ HM.out (by have := RB.out; omega)).mono ?_
        rintro e w5 ⟨A2, c2, rfl, ho, hb⟩
        replace X := hide (X.out.below hb)
        replace HM := hide (HM.out.below hb)
        replace K := hide (btrans K.out hb)
        clear ho hb
        clear x0 x1 x2
        obtain ⟨x0, x1, x2⟩ := OB.cells X.out
        go_wp2_with fail
        refine (RA.out A1 c1 R s p _ HM.out (by have := RB.out; omega)).mono ?_
        rintro e w6 ⟨A3, c3, rfl, ho, hb⟩
        replace X := hide (X.out.below hb)
        replace HM := hide (HM.out.below hb)
        replace K := hide (btrans K.out hb)
        clear ho hb
        clear x0 x1 x2
        obtain ⟨x0, x1, x2⟩ := OB.cells X.out
        go_wp2_with fail
        refine (RE.out A1 c1 R s p _ HM.out (by have := RB.out; omega)).mono ?_
        rintro e w5 ⟨A2, c2, rfl, ho, hb⟩
        replace X := hide (X.out.below hb)
        replace HM := hide (HM.out.below hb)
        replace K := hide (btrans K.out hb)
        have M1 := hide (OwM.rs ho)
        clear ho hb
        clear x0 x1 x2
        obtain ⟨x0, x1, x2⟩ := OB.cells X.out
        go_wp2_with fail
        refine (RR.out A1 c1 R s p _ HM.out (by have := RB.out; omega)).mono ?_
        rintro e w6 ⟨A3, c3, rfl, ho, hb⟩
        replace X := hide (X.out.below hb)
        replace HM := hide (HM.out.below hb)
        replace K := hide (btrans K.out hb)
        replace M1 := hide (M1.out.below hb)
        have M2 := hide (OwM.rs ho)
        clear ho hb
        clear x0 x1 x2
        have LB := hide (re_len R ⟨s, p⟩)
        generalize reE R ⟨s, p⟩ = er at *
        generalize reL R ⟨s, p⟩ = R2 at *
        have S1 := hide (SM.out A2 c2 R2 A3 c3 R2 _ M1.out M2.out (by have := LB.out; have := RB.out; omega) (by have := LB.out; have := RB.out; omega))
        rw [decide_eq_true (show R2 = R2 from rfl)] at S1
        have hce : (er != er) = false := by simp
        have MK := hide (fun w' (h : Below w6.heap.size w6 w') => M2.out.below h)
        by_cases hz : er = 0
        · have hz2 : (er == 0) = true := beq_iff_eq.2 hz
          clear hz
          obtain ⟨x0, x1, x2⟩ := OB.cells X.out
          go_wp2_with fail
          refine S1.out.mono ?_
          rintro e w7 ⟨rfl, hb⟩
          replace M2 := hide (MK.out _ hb)
          replace K := hide (btrans K.out hb)
          clear hb S1 M1 HM MK x0 x1 x2 X
          go_wp2
          go_roundw
          case rel => exact ⟨k + 1, A3, c3, R2, by omega, rfl, by go_num, K, M2, hide (by have := LB.out; have := RB.out; omega)⟩
          case measure => simp [intOf]; omega
        · have hz2 : (er == 0) = false := beq_eq_false_iff_ne.2 hz
          clear hz
          obtain ⟨x0, x1, x2⟩ := OB.cells X.out
          go_wp2_with fail
          refine S1.out.mono ?_
          rintro e w7 ⟨rfl, hb⟩
          replace HM := hide (HM.out.below hb)
          replace K := hide (btrans K.out hb)
          clear hb S1 M1 M2 MK x0 x1 x2 X
          go_wp2
          go_roundw
          case rel => exact ⟨k + 1, A1, c1, R, by omega, rfl, by go_num, K, HM, hide (by have := RB.out; omega)⟩
          case measure => simp [intOf]; omega
    · obtain rfl : k = O.length := by omega
      go_wp2
      go_ret
      exact ⟨rfl, K.out⟩
end Go.Proofs.Ytioffnpnoohbiaa.Rm
