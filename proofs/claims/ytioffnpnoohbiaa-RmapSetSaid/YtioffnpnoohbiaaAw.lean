import Derived.Test.YtioffnpnoohbiaaF16
namespace Go.Proofs.Ytioffnpnoohbiaa.Rm
open Go Go.RowKit
set_option linter.unusedVariables false
set_option linter.unusedSimpArgs false
def L0 : List Mp := [⟨0, 9⟩, ⟨2, 3⟩]
def L1 : List Mp := [⟨0, 9⟩, ⟨1, 7⟩, ⟨2, 3⟩]
def L2 : List Mp := [⟨0, 9⟩, ⟨1, 7⟩, ⟨2, 3⟩, ⟨5, 9⟩]
theorem ms_box {w : World} {g : Nat} {L : List Mp} {cs : Array Value} (h : Box w g 26 cs) (hc : cs.toList = mcs L) : Ms w (some ⟨g, 0, none⟩) L := fun _ => ⟨g, 0, rfl, h.lt, fun k hk j hj => by
  rw [Nat.zero_add, Box.cell h, ← mcs_at hk j hj, ← hc]
  simp⟩
theorem aw_ad : adE L0 ⟨1, 7⟩ = 0 ∧ adL L0 ⟨1, 7⟩ = L1 := by decide
theorem aw_a2 : adE L1 ⟨1, 7⟩ = 7 ∧ adL L1 ⟨1, 7⟩ = [] := by decide
theorem aw_c1 : cpE L1 0 5 = 0 := by decide
theorem aw_c0 : cpE L1 0 0 = 7 := by decide
theorem aw_cp {R : List Mp} (h : CpL L1 0 5 R) : R = L2 := by
  refine h.uniq ?_
  unfold CpL
  rw [if_pos aw_c1]
  exact ⟨by decide, by decide⟩
theorem aw_cn {R : List Mp} (h : CpL L1 0 0 R) : R = [] := by
  unfold CpL at h
  rwa [if_neg (by rw [aw_c0]; decide)] at h
theorem aw_dr : drL L1 1 = L0 := by decide
theorem aw_h1 : hs L1 ⟨0, 9⟩ = true := by decide
theorem aw_h2 : hs L0 ⟨1, 7⟩ = false := by decide
theorem aw_ck : ck L1 = 0 := by decide
theorem aw_1 {w : World} {b off : Nat} (h : Ms w (some ⟨b, off, none⟩) L1) : w.cell? ⟨b, off, none⟩ = some (.int .i64 0) ∧ w.cell? ⟨b, off + 1, none⟩ = some (.int .i64 9) ∧ w.cell? ⟨b, off + 2, none⟩ = some (.int .i64 1) ∧ w.cell? ⟨b, off + 2 + 1, none⟩ = some (.int .i64 7) := by
  have h0 := h.at (k := 0) (by decide)
  have h1 := h.at (k := 1) (by decide)
  exact ⟨by simpa using (show w.cell? ⟨b, off + 0 * 2, none⟩ = some (.int .i64 0) from h0.1), by simpa using (show w.cell? ⟨b, off + 0 * 2 + 1, none⟩ = some (.int .i64 9) from h0.2), h1.1, h1.2⟩
theorem aw_2 {w : World} {b off : Nat} (h : Ms w (some ⟨b, off, none⟩) L2) : w.cell? ⟨b, off + 6, none⟩ = some (.int .i64 5) ∧ w.cell? ⟨b, off + 6 + 1, none⟩ = some (.int .i64 9) := h.at (k := 3) (by decide)
theorem aw_0 {w : World} {b off : Nat} (h : Ms w (some ⟨b, off, none⟩) L0) : w.cell? ⟨b, off + 2, none⟩ = some (.int .i64 2) ∧ w.cell? ⟨b, off + 2 + 1, none⟩ = some (.int .i64 3) := h.at (k := 1) (by decide)
theorem ms_some {w : World} {A : Option Addr} {L : List Mp} (h : Ms w A L) (hn : L ≠ []) : ∃ b off, A = some ⟨b, off, none⟩ := by
  obtain ⟨b, off, e, _⟩ := h hn
  exact ⟨b, off, e⟩
set_option maxRecDepth 100000 in
set_option maxHeartbeats 8000000 in
theorem awake_any (w : World) : Calls Try.prog 8 #[] w fun e w' => e = .returned (.bool true) ∧ Below w.heap.size w w' := by
  have AD := hide (fun A c L t q w hr hn => add_any A c L t q w hr hn)
  have CP := hide (fun A c L f t w hr hn => copy_any A c L f t w hr hn)
  have DR := hide (fun A c L t w hr hn => drop_any A c L t w hr hn)
  have HS := hide (fun A L c t q w hr hn => has_any A L c t q w hr hn)
  have CK := hide (fun A c L w hr hn => check_any A c L w hr hn)
  unfold PuR at AD
  unfold CpR at CP
  unfold InR at DR
  have K := hide (bal (brefl w) (.cells #[.int .i64 0, .int .i64 9, .int .i64 2, .int .i64 3] 26))
  have M0 := hide (ms_box (L := L0) (Box.new w 26 #[.int .i64 0, .int .i64 9, .int .i64 2, .int .i64 3]) rfl)
  go_enter Try.func8, Try.ntmps8
  go_wp2_with fail
  refine (AD.out _ 2 L0 1 7 _ M0.out (by decide)).mono ?_
  rintro e w1 ⟨A1, c1, rfl, ho, hb⟩
  rw [aw_ad.1, aw_ad.2] at *
  have M1 := hide (OwM.rs ho)
  replace K := hide (btrans K.out hb)
  clear ho hb M0
  have e1 : L1.length = 3 := rfl
  rw [e1]
  clear e1
  go_wp2_with fail
  refine (AD.out A1 c1 L1 1 7 _ M1.out (by decide)).mono ?_
  rintro e w2 ⟨A2, c2, rfl, ho, hb⟩
  rw [aw_a2.1, aw_a2.2]
  replace M1 := hide (M1.out.below hb)
  replace K := hide (btrans K.out hb)
  clear ho hb AD
  go_wp2_with fail
  refine (CP.out A1 c1 L1 0 5 _ M1.out (by decide)).mono ?_
  rintro e w3 ⟨R, A3, c3, rfl, hR, ho, hb⟩
  obtain rfl := aw_cp hR
  rw [aw_c1]
  have M2 := hide (OwM.rs ho)
  replace M1 := hide (M1.out.below hb)
  replace K := hide (btrans K.out hb)
  clear ho hb hR
  have e1 : L2.length = 4 := rfl
  rw [e1]
  clear e1
  go_wp2_with fail
  refine (CP.out A1 c1 L1 0 0 _ M1.out (by decide)).mono ?_
  rintro e w4 ⟨R, A4, c4, rfl, hR, ho, hb⟩
  obtain rfl := aw_cn hR
  rw [aw_c0]
  replace M2 := hide (M2.out.below hb)
  replace M1 := hide (M1.out.below hb)
  replace K := hide (btrans K.out hb)
  clear ho hb hR CP
  go_wp2_with fail
  refine (DR.out A1 c1 L1 1 _ M1.out (by decide)).mono ?_
  rintro e w5 ⟨A5, c5, rfl, ho, hb⟩
  rw [aw_dr] at *
  have M5 := hide (OwM.rs ho)
  replace M2 := hide (M2.out.below hb)
  replace M1 := hide (M1.out.below hb)
  replace K := hide (btrans K.out hb)
  clear ho hb DR
  have e1 : L0.length = 2 := rfl
  rw [e1]
  clear e1
  obtain ⟨b1, o1, rfl⟩ := ms_some M1.out (by decide)
  obtain ⟨b2, o2, rfl⟩ := ms_some M2.out (by decide)
  obtain ⟨b5, o5, rfl⟩ := ms_some M5.out (by decide)
  obtain ⟨x0, x1, x2, x3⟩ := aw_1 M1.out
  obtain ⟨y0, y1⟩ := aw_2 M2.out
  obtain ⟨z0, z1⟩ := aw_0 M5.out
  have HS1 := hide (HS.out (some ⟨b1, o1, none⟩) L1 c1 0 9 _ M1.out (by decide))
  rw [aw_h1] at HS1
  go_wp2_with fail
  refine HS1.out.mono ?_
  rintro e w6 ⟨rfl, hb⟩
  replace M5 := hide (M5.out.below hb)
  replace M1 := hide (M1.out.below hb)
  replace K := hide (btrans K.out hb)
  clear hb x0 x1 x2 x3 y0 y1 z0 z1 HS1
  obtain ⟨x0, x1, x2, x3⟩ := aw_1 M1.out
  have HS1 := hide (HS.out (some ⟨b5, o5, none⟩) L0 c5 1 7 _ M5.out (by decide))
  rw [aw_h2] at HS1
  go_wp2_with fail
  refine HS1.out.mono ?_
  rintro e w7 ⟨rfl, hb⟩
  replace M1 := hide (M1.out.below hb)
  replace K := hide (btrans K.out hb)
  clear hb x0 x1 x2 x3 HS1
  have CK1 := hide (CK.out (some ⟨b1, o1, none⟩) c1 L1 _ M1.out (by decide))
  rw [aw_ck] at CK1
  go_wp2_with fail
  refine CK1.out.mono ?_
  rintro e w8 ⟨rfl, hb⟩
  replace K := hide (btrans K.out hb)
  clear hb
  go_wp2
  go_ret
  exact ⟨rfl, K.out⟩
end Go.Proofs.Ytioffnpnoohbiaa.Rm
