import Derived.Test.YtimclgmajhhheaaG11
namespace Go.Proofs.Ytimclgmajhhheaa.Gr
open Go Go.RowKit Ac
set_option linter.unusedVariables false
set_option linter.unusedSimpArgs false
set_option maxRecDepth 100000 in
set_option maxHeartbeats 4000000 in
theorem same_refl (A B : Option Addr) (c d : Nat) (L : List A5) (w : World) (hr : As w A L) (hs : As w B L) (hn : L.length ≤ 9223372036854775807) :
    Calls Try.prog 33 #[.slice A L.length c, .slice B L.length d] w fun e w' => e = .returned (.bool true) ∧ Below w.heap.size w w' := by
  have HR := hide hr
  have HS := hide hs
  have K0 := hide (brefl w)
  clear hr hs
  go_enter Try.func33, Try.ntmps33
  go_wp2
  go_loopw [5] (fun i wr => ∃ k : Nat, k ≤ L.length ∧ i = .int .i64 k ∧ Hid (Below w.heap.size w wr)) (fun i _ => L.length - (intOf i).toNat)
  case atStart => exact ⟨0, Nat.zero_le _, rfl, K0⟩
  case round =>
    clear K0
    obtain ⟨k, hk, rfl, K⟩ := hrel
    by_cases hlt : k < L.length
    · obtain ⟨b, off, rfl, _, x0, x1, x2, x3, x4⟩ := HR.out.cells K.out hlt
      obtain ⟨b', off', rfl, _, y0, y1, y2, y3, y4⟩ := HS.out.cells K.out hlt
      have hk0 : (0 : Int) ≤ (k : Int) := by omega
      have hkl : (k : Int) < (L.length : Int) := by omega
      generalize pa L k = z0 at *
      generalize us L k = z1 at *
      generalize mn L k = z2 at *
      generalize lo L k = z3 at *
      generalize mx L k = z4 at *
      go_wp2
      go_quiet (fail)
      generalize hwy : World.drewN wr _ = wy
      have hbq : Below wr.heap.size wr wy := by rw [← hwy]; exact below_drewN (brefl _) _
      replace K := hide (btrans K.out hbq)
      clear hwy hbq x0 x1 x2 x3 x4 y0 y1 y2 y3 y4
      go_wp2
      go_roundw
      case rel => exact ⟨k + 1, by omega, by go_num, K⟩
      case measure => simp [intOf]; omega
    · obtain rfl : k = L.length := by omega
      go_wp2
      go_ret
      exact ⟨rfl, K.out⟩
theorem few_any (A B : Option Addr) (n m c d : Nat) (w : World) (hn : n ≤ 9223372036854775807) (hm : m ≤ 9223372036854775807) : Calls Try.prog 30 #[.slice A n c, .slice B m d] w fun e w' => e = .returned (.bool (decide ((n : Int) ≤ 20) && decide ((m : Int) ≤ 20))) ∧ w = w' := by
  by_cases h : (n : Int) ≤ 20
  · have f1 : decide ((n : Int) ≤ 20) = true := decide_eq_true h
    rw [f1, Bool.true_and]
    go_enter Try.func30, Try.ntmps30
    go_wp2
    go_ret
    exact ⟨rfl, rfl⟩
  · have f1 : decide ((n : Int) ≤ 20) = false := decide_eq_false h
    rw [f1, Bool.false_and]
    go_enter Try.func30, Try.ntmps30
    go_wp2
    go_ret
    exact ⟨rfl, rfl⟩
def LA : List A5 := [⟨-1, 4, 0, 0, 10⟩, ⟨0, 3, 0, 0, 5⟩]
def LB : List A5 := [⟨-1, 6, 0, 0, 10⟩, ⟨0, 5, 0, 0, 5⟩]
def QC : List A4 := [⟨2, 1, 1, 1⟩, ⟨3, 1, 1, 1⟩]
theorem as_row {w : World} {g : Nat} {t : TypeId} {L : List A5} (h : Box w g t (acs L).toArray) : As w (some ⟨g, 0, none⟩) L := fun hn => ⟨g, 0, rfl, h.lt, fun k hk j hj => by
  rw [Nat.zero_add, h.cell, ← acs_at hk j hj]
  simp⟩
theorem v_s1 : shV ⟨2, 1, 1, 2⟩ LA 9 9 = ⟨1, 1, false⟩ ∧ shE ⟨2, 1, 1, 2⟩ LA = 0 := ⟨by kernel_rfl, by kernel_rfl⟩
theorem v_s2 : shV ⟨2, 1, 1, 1⟩ LA 0 9 = ⟨1, -1, true⟩ ∧ shE ⟨2, 1, 1, 1⟩ LA = 0 := ⟨by kernel_rfl, by kernel_rfl⟩
theorem v_s3 : shV ⟨2, 1, 1, 1⟩ LA 1 1 = ⟨1, -1, false⟩ := by kernel_rfl
theorem v_s4 : shV ⟨2, 1, 1, 1⟩ LA 1 2 = ⟨0, -1, false⟩ := by kernel_rfl
theorem v_ps : psL [⟨2, 1, 1, 1⟩] ⟨3, 1, 1, 1⟩ = QC ∧ psE [⟨2, 1, 1, 1⟩] ⟨3, 1, 1, 1⟩ = 0 := ⟨by kernel_rfl, by kernel_rfl⟩
theorem v_sv : svN QC LA 9 9 = 1 ∧ svR QC LA 9 9 = LB ∧ svE QC LA = 0 := ⟨by kernel_rfl, by kernel_rfl, by kernel_rfl⟩
theorem v_h1 : hpB ⟨0, 1, 3, 3⟩ LA 9 9 = true := by kernel_rfl
theorem v_h2 : hpB ⟨0, 1, 3, 2⟩ LA 9 9 = false := by kernel_rfl
theorem As.two {B c : Nat} {w : World} {A : Option Addr} (h : OwA B w (.slice A LB.length c) LB) : ∃ q o, A = some ⟨q, o, none⟩ ∧ ∀ w', Below w.heap.size w w' → w'.cell? ⟨q, o + 1, none⟩ = some (.int .i64 6) ∧ w'.cell? ⟨q, o + 6, none⟩ = some (.int .i64 5) := by
  obtain ⟨q, o, e, hq, hc⟩ := (OwA.as (L := LB) h) (by unfold LB; simp)
  exact ⟨q, o, e, fun w' hb => ⟨(hb.cell (p := ⟨q, o + 1, none⟩) hq).trans (hc 0 (by decide) 1 (by decide)), (hb.cell (p := ⟨q, o + 6, none⟩) hq).trans (hc 1 (by decide) 1 (by decide))⟩⟩
set_option maxRecDepth 100000 in
set_option maxHeartbeats 8000000 in
theorem awake_any (w : World) : Calls Try.prog 18 #[] w fun e w' => e = .returned (.bool (true)) ∧ Below w.heap.size w w' := by
  have X := hide (as_row (L := LA) (Box.new w 55 #[.int .i64 (-1), .int .i64 4, .int .i64 0, .int .i64 0, .int .i64 10, .int .i64 0, .int .i64 3, .int .i64 0, .int .i64 0, .int .i64 5]))
  have K := hide (bal (brefl w) (.cells #[.int .i64 (-1), .int .i64 4, .int .i64 0, .int .i64 0, .int .i64 10, .int .i64 0, .int .i64 3, .int .i64 0, .int .i64 0, .int .i64 5] 55))
  obtain ⟨w1, hw1⟩ : ∃ W, W = w.alloc (.cells #[.int .i64 (-1), .int .i64 4, .int .i64 0, .int .i64 0, .int .i64 10, .int .i64 0, .int .i64 3, .int .i64 0, .int .i64 0, .int .i64 5] 55) := ⟨_, rfl⟩
  obtain ⟨g, hg⟩ : ∃ q, q = w.heap.size := ⟨_, rfl⟩
  rw [← hw1, ← hg] at X
  rw [← hw1] at K
  have HW := hide hw1
  have HG := hide hg
  clear hw1 hg
  have HA := hide (fun w' (h : Below w1.heap.size w1 w') => X.out.below h)
  have K1 := hide (brefl w1)
  clear X
  have S1 := fun w' (h : Below w1.heap.size w1 w') => short_any 2 1 1 2 (some ⟨g, 0, none⟩) 2 LA 9 9 w' (HA.out _ h) (by decide) (by decide)
  unfold ShR at S1
  rw [v_s1.1, v_s1.2] at S1
  replace S1 := hide S1
  have S2 := fun w' (h : Below w1.heap.size w1 w') => short_any 2 1 1 1 (some ⟨g, 0, none⟩) 2 LA 0 9 w' (HA.out _ h) (by decide) (by decide)
  unfold ShR at S2
  rw [v_s2.1, v_s2.2] at S2
  replace S2 := hide S2
  have S3 := fun w' (h : Below w1.heap.size w1 w') => short_any 2 1 1 1 (some ⟨g, 0, none⟩) 2 LA 1 1 w' (HA.out _ h) (by decide) (by decide)
  unfold ShR at S3
  rw [v_s3, v_s2.2] at S3
  replace S3 := hide S3
  have S4 := fun w' (h : Below w1.heap.size w1 w') => short_any 2 1 1 1 (some ⟨g, 0, none⟩) 2 LA 1 2 w' (HA.out _ h) (by decide) (by decide)
  unfold ShR at S4
  rw [v_s4, v_s2.2] at S4
  replace S4 := hide S4
  have eq2 : QC.length = 2 := rfl
  have el2 : LA.length = 2 := rfl
  have eb2 : LB.length = 2 := rfl
  have PS := fun A w' (h : Qs w' A [⟨2, 1, 1, 1⟩]) => push_any A 1 [⟨2, 1, 1, 1⟩] 3 1 1 1 w' h (by decide)
  unfold PuR at PS
  rw [v_ps.1, v_ps.2, eq2] at PS
  replace PS := hide PS
  have SV := fun A c w' (h : Below w1.heap.size w1 w') (hq : Qs w' A QC) => serve_any A c QC (some ⟨g, 0, none⟩) 2 LA 9 9 w' hq (HA.out _ h) (by decide) (by decide) (by decide) (by unfold i64r; omega) (by unfold i64r; omega)
  unfold SvR at SV
  rw [v_sv.1, v_sv.2.1, v_sv.2.2, eq2, el2, eb2] at SV
  replace SV := hide SV
  have H1 := fun w' (h : Below w1.heap.size w1 w') => hopeless_any 0 1 3 3 (some ⟨g, 0, none⟩) 2 LA 9 9 w' (HA.out _ h) (by decide) (by decide)
  rw [v_h1] at H1
  replace H1 := hide H1
  have H2 := fun w' (h : Below w1.heap.size w1 w') => hopeless_any 0 1 3 2 (some ⟨g, 0, none⟩) 2 LA 9 9 w' (HA.out _ h) (by decide) (by decide)
  rw [v_h2] at H2
  replace H2 := hide H2
  rw [el2] at S1 S2 S3 S4 H1 H2
  clear eq2 el2 eb2
  go_enter Try.func18, Try.ntmps18
  go_upto_region 2 with fail
  rw [← HW.out, ← HG.out]
  go_wp2_with fail
  refine (S1.out _ K1.out).mono ?_
  rintro e w2 ⟨rfl, hb⟩
  replace K := hide (btrans K.out hb)
  replace K1 := hide (btrans K1.out hb)
  clear hb
  go_upto_region 3 with fail
  have M := bal (brefl w2) (.cells #[.int .i64 1, .int .i64 1, .bool false] 38)
  have X2 : Hid (SB (w2.alloc (.cells #[.int .i64 1, .int .i64 1, .bool false] 38)) w2.heap.size ⟨1, 1, false⟩) := hide (SB.new w2 1 (1) false)
  replace K := hide (btrans K.out M)
  replace K1 := hide (btrans K1.out M)
  obtain ⟨b2, hbk⟩ : ∃ q, q = w2.heap.size := ⟨_, rfl⟩
  rw [← hbk] at X2 ⊢
  clear hbk M
  generalize w2.alloc (.cells #[.int .i64 1, .int .i64 1, .bool false] 38) = w3 at *
  go_wp2_with fail
  refine (S2.out _ K1.out).mono ?_
  rintro e w4 ⟨rfl, hb⟩
  replace K := hide (btrans K.out hb)
  replace K1 := hide (btrans K1.out hb)
  replace X2 := hide (X2.out.below hb)
  clear hb
  go_upto_region 4 with fail
  have M := bal (brefl w4) (.cells #[.int .i64 1, .int .i64 (-1), .bool true] 38)
  have X4 : Hid (SB (w4.alloc (.cells #[.int .i64 1, .int .i64 (-1), .bool true] 38)) w4.heap.size ⟨1, -1, true⟩) := hide (SB.new w4 1 (-1) true)
  replace K := hide (btrans K.out M)
  replace K1 := hide (btrans K1.out M)
  replace X2 := hide (X2.out.below M)
  obtain ⟨b4, hbk⟩ : ∃ q, q = w4.heap.size := ⟨_, rfl⟩
  rw [← hbk] at X4 ⊢
  clear hbk M
  generalize w4.alloc (.cells #[.int .i64 1, .int .i64 (-1), .bool true] 38) = w5 at *
  go_wp2_with fail
  refine (S3.out _ K1.out).mono ?_
  rintro e w6 ⟨rfl, hb⟩
  replace K := hide (btrans K.out hb)
  replace K1 := hide (btrans K1.out hb)
  replace X2 := hide (X2.out.below hb)
  replace X4 := hide (X4.out.below hb)
  clear hb
  go_upto_region 5 with fail
  have M := bal (brefl w6) (.cells #[.int .i64 1, .int .i64 (-1), .bool false] 38)
  have X6 : Hid (SB (w6.alloc (.cells #[.int .i64 1, .int .i64 (-1), .bool false] 38)) w6.heap.size ⟨1, -1, false⟩) := hide (SB.new w6 1 (-1) false)
  replace K := hide (btrans K.out M)
  replace K1 := hide (btrans K1.out M)
  replace X2 := hide (X2.out.below M)
  replace X4 := hide (X4.out.below M)
  obtain ⟨b6, hbk⟩ : ∃ q, q = w6.heap.size := ⟨_, rfl⟩
  rw [← hbk] at X6 ⊢
  clear hbk M
  generalize w6.alloc (.cells #[.int .i64 1, .int .i64 (-1), .bool false] 38) = w7 at *
  go_wp2_with fail
  refine (S4.out _ K1.out).mono ?_
  rintro e w8 ⟨rfl, hb⟩
  replace K := hide (btrans K.out hb)
  replace K1 := hide (btrans K1.out hb)
  replace X2 := hide (X2.out.below hb)
  replace X4 := hide (X4.out.below hb)
  replace X6 := hide (X6.out.below hb)
  clear hb
  go_upto_region 6 with fail
  have M := bal (brefl w8) (.cells #[.int .i64 0, .int .i64 (-1), .bool false] 38)
  have X8 : Hid (SB (w8.alloc (.cells #[.int .i64 0, .int .i64 (-1), .bool false] 38)) w8.heap.size ⟨0, -1, false⟩) := hide (SB.new w8 0 (-1) false)
  replace K := hide (btrans K.out M)
  replace K1 := hide (btrans K1.out M)
  replace X2 := hide (X2.out.below M)
  replace X4 := hide (X4.out.below M)
  replace X6 := hide (X6.out.below M)
  obtain ⟨b8, hbk⟩ : ∃ q, q = w8.heap.size := ⟨_, rfl⟩
  rw [← hbk] at X8 ⊢
  clear hbk M
  generalize w8.alloc (.cells #[.int .i64 0, .int .i64 (-1), .bool false] 38) = w9 at *
  have QQ := hide (qs_one (QB.new w9 2 1 1 1))
  go_wp2_with fail
  refine (PS.out _ _ QQ.out).mono ?_
  rintro e wA ⟨A1, c1, rfl, hO, hb⟩
  replace hb := btrans (bal (brefl w9) (.cells #[.int .i64 2, .int .i64 1, .int .i64 1, .int .i64 1] 27)) hb
  have QO := hide (OwQ.rs (L := QC) hO)
  clear hO QQ
  replace K := hide (btrans K.out hb)
  replace K1 := hide (btrans K1.out hb)
  replace X2 := hide (X2.out.below hb)
  replace X4 := hide (X4.out.below hb)
  replace X6 := hide (X6.out.below hb)
  replace X8 := hide (X8.out.below hb)
  clear hb
  go_upto_region 7 with fail
  go_wp2_with fail
  refine (SV.out _ _ _ K1.out QO.out).mono ?_
  rintro e wB ⟨A2, c2, rfl, hO, hb⟩
  obtain ⟨q, o, rfl, T0⟩ := As.two (c := c2) hO
  have T2 := hide T0
  have K2 := hide (brefl wB)
  clear hO T0 QO PS SV S1 S2 S3 S4
  replace K := hide (btrans K.out hb)
  replace K1 := hide (btrans K1.out hb)
  replace X2 := hide (X2.out.below hb)
  replace X4 := hide (X4.out.below hb)
  replace X6 := hide (X6.out.below hb)
  replace X8 := hide (X8.out.below hb)
  clear hb
  obtain ⟨x0, x1, x2⟩ := SB.cells X2.out
  obtain ⟨y0, y1, y2⟩ := SB.cells X4.out
  obtain ⟨z0, z1, z2⟩ := SB.cells X6.out
  obtain ⟨u0, u1, u2⟩ := SB.cells X8.out
  obtain ⟨t0, t1⟩ := T2.out _ K2.out
  clear X2 X4 X6 X8 T2 K2
  go_wp2_with fail
  refine (H1.out _ K1.out).mono ?_
  rintro e wC ⟨rfl, hb⟩
  replace K := hide (btrans K.out hb)
  replace K1 := hide (btrans K1.out hb)
  clear hb
  clear x0 x1 x2 y0 y1 y2 z0 z1 z2 u0 u1 u2 t0 t1
  go_wp2_with fail
  refine (H2.out _ K1.out).mono ?_
  rintro e wD ⟨rfl, hb⟩
  replace K := hide (btrans K.out hb)
  replace K1 := hide (btrans K1.out hb)
  clear hb
  
  go_wp2
  go_ret
  exact ⟨rfl, K.out⟩
end Go.Proofs.Ytimclgmajhhheaa.Gr
