import Derived.Test.YtclkflnonckajaaRh
namespace Go.Proofs.Ytclkflnonckajaa.Ac
open Go Go.RowKit
set_option linter.unusedVariables false
set_option linter.unusedSimpArgs false
set_option maxRecDepth 100000 in
set_option maxHeartbeats 4000000 in
theorem same_refl (A B : Option Addr) (c d : Nat) (L : List A5) (w : World) (hr : As w A L) (hs : As w B L) (hn : L.length ≤ 9223372036854775807) :
    Calls Try.prog 36 #[.slice A L.length c, .slice B L.length d] w fun e w' => e = .returned (.bool true) ∧ Below w.heap.size w w' := by
  have HR := hide hr
  have HS := hide hs
  have K0 := hide (brefl w)
  clear hr hs
  go_enter Try.func36, Try.ntmps36
  go_wp2
  go_loopw [5] (fun i wr => ∃ k : Nat, k ≤ L.length ∧ i = .int .i64 k ∧ Hid (Below w.heap.size w wr)) (fun i _ => L.length - (intOf i).toNat)
  case atStart => exact ⟨0, Nat.zero_le _, rfl, K0⟩
  case round =>
    clear K0
    obtain ⟨k, hk, rfl, K⟩ := hrel
    by_cases hlt : k < L.length
    · obtain ⟨b, off, rfl, _, x0, x1, x2, x3, x4⟩ := HR.out.cells K.out hlt
      obtain ⟨b', off', rfl, _, y0, y1, y2, y3, y4⟩ := HS.out.cells K.out hlt
      have hk0 : (0 : Int) ≤ (k : Int) := by omega
      have hkl : (k : Int) < (L.length : Int) := by omega
      generalize pa L k = z0 at *
      generalize us L k = z1 at *
      generalize mn L k = z2 at *
      generalize lo L k = z3 at *
      generalize mx L k = z4 at *
      go_wp2
      go_quiet (fail)
      generalize hwy : World.drewN wr _ = wy
      have hbq : Below wr.heap.size wr wy := by rw [← hwy]; exact below_drewN (brefl _) _
      replace K := hide (btrans K.out hbq)
      clear hwy hbq x0 x1 x2 x3 x4 y0 y1 y2 y3 y4
      go_wp2
      go_roundw
      case rel => exact ⟨k + 1, by omega, by go_num, K⟩
      case measure => simp [intOf]; omega
    · obtain rfl : k = L.length := by omega
      go_wp2
      go_ret
      exact ⟨rfl, K.out⟩
theorem few_any (A : Option Addr) (n c : Nat) (w : World) (hn : n ≤ 9223372036854775807) : Calls Try.prog 19 #[.slice A n c] w fun e w' => e = .returned (.bool (decide ((n : Int) ≤ 20))) ∧ w = w' := by
  go_enter Try.func19, Try.ntmps19
  go_wp2
  go_ret
  exact ⟨rfl, rfl⟩
theorem as_row {w : World} {g : Nat} {L : List A5} (h : Box w g 42 (acs L).toArray) : As w (some ⟨g, 0, none⟩) L := fun hn => ⟨g, 0, rfl, h.lt, fun k hk j hj => by
  rw [Nat.zero_add, h.cell, ← acs_at hk j hj]
  simp⟩
def L3 : List A5 := [⟨-1, 5, 0, 0, 10⟩, ⟨0, 4, 0, 0, 6⟩, ⟨1, 3, 0, 0, 8⟩]
def L3b : List A5 := [⟨-1, 7, 0, 0, 10⟩, ⟨0, 6, 0, 0, 6⟩, ⟨1, 5, 0, 0, 8⟩]
theorem v_ch : chE L3 = 0 := by kernel_rfl
theorem v_p : pR L3 2 = [2, 1, 0] := by kernel_rfl
theorem v_m : mM L3 2 = 2 ∧ mB L3 2 = 1 ∧ mE L3 2 = 0 := ⟨by kernel_rfl, by kernel_rfl, by kernel_rfl⟩
theorem v_c : cgL L3 2 2 = L3b ∧ cgB L3 2 2 = -1 ∧ cgE L3 2 2 = 0 := ⟨by kernel_rfl, by kernel_rfl, by kernel_rfl⟩
theorem v_d : cgL L3 2 3 = [] ∧ cgB L3 2 3 = 1 ∧ cgE L3 2 3 = 17 := ⟨by kernel_rfl, by kernel_rfl, by kernel_rfl⟩
theorem v_u : ucL L3 1 2 = [] ∧ ucE L3 1 2 = 11 := ⟨by kernel_rfl, by kernel_rfl⟩
theorem v_o : oR L3 0 = 1 ∧ oR L3 2 = 3 := ⟨by kernel_rfl, by kernel_rfl⟩
theorem v_t : tR L3 = 5 := by kernel_rfl
theorem v_i : iR L3 2 1 = true ∧ iR L3 1 2 = false := ⟨by kernel_rfl, by kernel_rfl⟩
/-- the ints at the head of a row -/
theorem ow3 {B c : Nat} {w : World} {A : Option Addr} {a b d : Int} (h : OwI B w (.slice A 3 c) [a, b, d]) : ∃ q o, A = some ⟨q, o, none⟩ ∧ q < w.heap.size ∧ ∀ w', Below w.heap.size w w' → w'.cell? ⟨q, o, none⟩ = some (.int .i64 a) ∧ w'.cell? ⟨q, o + 1, none⟩ = some (.int .i64 b) ∧ w'.cell? ⟨q, o + 2, none⟩ = some (.int .i64 d) := by
  obtain ⟨q, o, e, hq, hc⟩ := (OwI.bi (l := [a, b, d]) h) (by simp)
  exact ⟨q, o, e, hq, fun w' hb => ⟨(hb.cell (p := ⟨q, o, none⟩) hq).trans (hc 0 (by simp)), (hb.cell (p := ⟨q, o + 1, none⟩) hq).trans (hc 1 (by simp)), (hb.cell (p := ⟨q, o + 2, none⟩) hq).trans (hc 2 (by simp))⟩⟩
theorem owa3 {B c : Nat} {w : World} {A : Option Addr} (h : OwA B w (.slice A 3 c) L3b) : ∃ q o, A = some ⟨q, o, none⟩ ∧ q < w.heap.size ∧ ∀ w', Below w.heap.size w w' → w'.cell? ⟨q, o + 1, none⟩ = some (.int .i64 7) ∧ w'.cell? ⟨q, o + 5 + 1, none⟩ = some (.int .i64 6) ∧ w'.cell? ⟨q, o + 10 + 1, none⟩ = some (.int .i64 5) := by
  obtain ⟨q, o, e, hq, hc⟩ := (OwA.as (L := L3b) h) (by unfold L3b; simp)
  exact ⟨q, o, e, hq, fun w' hb => ⟨(hb.cell (p := ⟨q, o + 1, none⟩) hq).trans (hc 0 (by decide) 1 (by decide)), (hb.cell (p := ⟨q, o + 5 + 1, none⟩) hq).trans (hc 1 (by decide) 1 (by decide)), (hb.cell (p := ⟨q, o + 10 + 1, none⟩) hq).trans (hc 2 (by decide) 1 (by decide))⟩⟩
theorem three_any (w : World) : Calls Try.prog 50 #[] w fun e w' => ∃ g, e = .returned (.slice (some ⟨g, 0, none⟩) 3 3) ∧ As w' (some ⟨g, 0, none⟩) L3 ∧ Below w.heap.size w w' := by
  have X := hide (as_row (L := L3) (Box.new w 42 (acs L3).toArray))
  have K := hide (bal (brefl w) (.cells (acs L3).toArray 42))
  go_enter Try.func50, Try.ntmps50
  go_wp2
  go_ret
  exact ⟨_, rfl, X.out, K.out⟩
set_option maxRecDepth 100000 in
set_option maxHeartbeats 8000000 in
theorem awake_any (w : World) : Calls Try.prog 18 #[] w fun e w' => e = .returned (.bool true) ∧ Below w.heap.size w w' := by
  have K := hide (brefl w)
  go_enter Try.func18, Try.ntmps18
  go_wp2_with fail
  refine (three_any _).mono ?_
  rintro e w0 ⟨g, rfl, hA, hb⟩
  replace K := hide hb
  have HR := hide (fun w' (h : Below w0.heap.size w0 w') => hA.below h)
  have K0 := hide (brefl w0)
  have PA := hide (fun w' (h : Below w0.heap.size w0 w') => path_any (some ⟨g, 0, none⟩) 3 L3 2 w' (HR.out _ h) (by decide) (by decide))
  unfold PR at PA
  rw [v_p] at PA
  have MA := hide (fun w' (h : Below w0.heap.size w0 w') => margin_any (some ⟨g, 0, none⟩) 3 L3 2 w' (HR.out _ h) (by decide) (by decide))
  rw [v_m.1, v_m.2.1, v_m.2.2] at MA
  have CA := hide (fun w' (h : Below w0.heap.size w0 w') => charge_any (some ⟨g, 0, none⟩) 3 L3 2 2 w' (HR.out _ h) (by decide) (by decide))
  unfold CgR at CA
  rw [v_c.1, v_c.2.1, v_c.2.2] at CA
  have CB := hide (fun w' (h : Below w0.heap.size w0 w') => charge_any (some ⟨g, 0, none⟩) 3 L3 2 3 w' (HR.out _ h) (by decide) (by decide))
  unfold CgR at CB
  rw [v_d.1, v_d.2.1, v_d.2.2] at CB
  have UA := hide (fun w' (h : Below w0.heap.size w0 w') => uncharge_any (some ⟨g, 0, none⟩) 3 L3 1 2 w' (HR.out _ h) (by decide) (by decide))
  unfold UcR at UA
  rw [v_u.1, v_u.2] at UA
  have HC := hide (fun w' (h : Below w0.heap.size w0 w') => check_any (some ⟨g, 0, none⟩) 3 L3 w' (HR.out _ h) (by decide) (by decide))
  rw [v_ch] at HC
  have OA := hide (fun w' (h : Below w0.heap.size w0 w') => ownf_any (some ⟨g, 0, none⟩) 3 L3 0 w' (HR.out _ h) (by decide) (by decide))
  rw [v_o.1] at OA
  have OB := hide (fun w' (h : Below w0.heap.size w0 w') => ownf_any (some ⟨g, 0, none⟩) 3 L3 2 w' (HR.out _ h) (by decide) (by decide))
  rw [v_o.2] at OB
  have TA := hide (fun w' (h : Below w0.heap.size w0 w') => tot_any (some ⟨g, 0, none⟩) 3 L3 w' (HR.out _ h) (by decide) (by decide))
  rw [v_t] at TA
  have IA := hide (fun w' (h : Below w0.heap.size w0 w') => inside_any (some ⟨g, 0, none⟩) 3 L3 2 1 w' (HR.out _ h) (by decide) (by decide))
  rw [v_i.1] at IA
  have IB := hide (fun w' (h : Below w0.heap.size w0 w') => inside_any (some ⟨g, 0, none⟩) 3 L3 1 2 w' (HR.out _ h) (by decide) (by decide))
  rw [v_i.2] at IB
  have e3 : L3.length = 3 := rfl
  rw [e3] at PA MA CA CB UA HC OA OB TA IA IB
  have e3b : L3b.length = 3 := rfl
  unfold OwI OwA at *
  clear hA hb HR e3
  go_wp2_with fail
  refine (PA.out _ K0.out).mono ?_
  rintro e w1 ⟨A1, c1, rfl, hO, hb⟩
  obtain ⟨q1, o1, rfl, _, P3⟩ := ow3 hO
  have P := hide P3
  replace K0 := hide (btrans K0.out hb)
  have K1 := hide (brefl w1)
  clear hb hO P3 PA
  go_wp2_with fail
  refine (MA.out _ K0.out).mono ?_
  rintro e w2 ⟨rfl, hb⟩
  replace K0 := hide (btrans K0.out hb)
  replace K1 := hide (btrans K1.out hb)
  clear hb MA
  go_wp2_with fail
  refine (CA.out _ K0.out).mono ?_
  rintro e w3 ⟨A2, c2, rfl, hO, hb⟩
  obtain ⟨q2, o2, rfl, _, Q3⟩ := owa3 hO
  have Q := hide Q3
  replace K0 := hide (btrans K0.out hb)
  replace K1 := hide (btrans K1.out hb)
  have K2 := hide (brefl w3)
  rw [e3b]
  clear hb hO Q3 CA
  go_wp2_with fail
  refine (CB.out _ K0.out).mono ?_
  rintro e w4 ⟨A4, c4, rfl, hO, hb⟩
  replace K0 := hide (btrans K0.out hb)
  replace K1 := hide (btrans K1.out hb)
  replace K2 := hide (btrans K2.out hb)
  clear hb hO CB
  go_wp2_with fail
  refine (UA.out _ K0.out).mono ?_
  rintro e w5 ⟨A5, c5, rfl, hO, hb⟩
  replace K0 := hide (btrans K0.out hb)
  replace K1 := hide (btrans K1.out hb)
  replace K2 := hide (btrans K2.out hb)
  clear hb hO UA
  go_wp2_with fail
  refine (HC.out _ K0.out).mono ?_
  rintro e w6 ⟨rfl, hb⟩
  replace K0 := hide (btrans K0.out hb)
  replace K1 := hide (btrans K1.out hb)
  replace K2 := hide (btrans K2.out hb)
  clear hb HC
  obtain ⟨p0, p1, p2⟩ := P.out _ K1.out
  go_wp2_with fail
  refine (OA.out _ K0.out).mono ?_
  rintro e w7 ⟨rfl, hb⟩
  replace K0 := hide (btrans K0.out hb)
  replace K1 := hide (btrans K1.out hb)
  replace K2 := hide (btrans K2.out hb)
  clear hb OA p0 p1 p2
  go_wp2_with fail
  refine (OB.out _ K0.out).mono ?_
  rintro e w8 ⟨rfl, hb⟩
  replace K0 := hide (btrans K0.out hb)
  replace K1 := hide (btrans K1.out hb)
  replace K2 := hide (btrans K2.out hb)
  clear hb OB
  obtain ⟨p0, p1, p2⟩ := Q.out _ K2.out
  go_wp2_with fail
  refine (TA.out _ K0.out).mono ?_
  rintro e w9 ⟨rfl, hb⟩
  replace K0 := hide (btrans K0.out hb)
  replace K1 := hide (btrans K1.out hb)
  replace K2 := hide (btrans K2.out hb)
  clear hb TA p0 p1 p2
  go_wp2_with fail
  refine (IA.out _ K0.out).mono ?_
  rintro e w10 ⟨rfl, hb⟩
  replace K0 := hide (btrans K0.out hb)
  replace K1 := hide (btrans K1.out hb)
  replace K2 := hide (btrans K2.out hb)
  clear hb IA
  go_wp2_with fail
  refine (IB.out _ K0.out).mono ?_
  rintro e w11 ⟨rfl, hb⟩
  replace K0 := hide (btrans K0.out hb)
  replace K1 := hide (btrans K1.out hb)
  replace K2 := hide (btrans K2.out hb)
  clear hb IB
  replace K := hide (btrans K.out K0.out)
  go_wp2
  go_ret
  exact ⟨rfl, K.out⟩
end Go.Proofs.Ytclkflnonckajaa.Ac
