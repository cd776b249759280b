import Derived.Test.YtcndbehgklkiiaaT5
namespace Go.Proofs.Ytcndbehgklkiiaa.Ac
open Go Go.RowKit
set_option linter.unusedVariables false
set_option linter.unusedSimpArgs false
def L4 : List (Int × Int × Bool × Int) := [(4, 0, true, 5), (4, 4, false, 0), (3, 0, true, 0), (4, 0, true, 3)]
def F4L : List F4 := [⟨4, 0, true, 5⟩, ⟨4, 4, false, 0⟩, ⟨3, 0, true, 0⟩, ⟨4, 0, true, 3⟩]
def L2 : List A5 := [⟨-1, 10, 0, 0, 20⟩, ⟨0, 6, 0, 0, 20⟩]
theorem f4_eq : L4.map skF = F4L := rfl
theorem lt4 {P : Nat → Prop} (h0 : P 0) (h1 : P 1) (h2 : P 2) (h3 : P 3) : ∀ k, k < 4 → P k := fun k hk => by
  rcases (show k = 0 ∨ k = 1 ∨ k = 2 ∨ k = 3 by omega) with rfl | rfl | rfl | rfl <;> assumption
theorem lt5 {P : Nat → Prop} (h0 : P 0) (h1 : P 1) (h2 : P 2) (h3 : P 3) (h4 : P 4) : ∀ k, k < 5 → P k := fun k hk => by
  rcases (show k = 0 ∨ k = 1 ∨ k = 2 ∨ k = 3 ∨ k = 4 by omega) with rfl | rfl | rfl | rfl | rfl <;> assumption
theorem rd4 {w : World} {g : Nat} (h : Box w g 70 #[.int .u8 4, .int .u8 0, .bool true, .int .i64 5, .int .u8 4, .int .u8 4, .bool false, .int .i64 0, .int .u8 3, .int .u8 0, .bool true, .int .i64 0, .int .u8 4, .int .u8 0, .bool true, .int .i64 3]) : RdSk w (some ⟨g, 0, none⟩) L4 := fun _ => by
  refine ⟨g, 0, rfl, h.lt, lt4 ?_ ?_ ?_ ?_⟩ <;> refine lt4 ?_ ?_ ?_ ?_ <;> exact h.cell _
theorem ok4 : ∀ k, k < L4.length → okSk (skA L4 k) := lt4 (by unfold okSk i64r; decide) (by unfold okSk i64r; decide) (by unfold okSk i64r; decide) (by unfold okSk i64r; decide)
theorem as2 {w : World} {g : Nat} (h : Box w g 58 #[.int .i64 (-1), .int .i64 10, .int .i64 0, .int .i64 0, .int .i64 20, .int .i64 0, .int .i64 6, .int .i64 0, .int .i64 0, .int .i64 20]) : As w (some ⟨g, 0, none⟩) L2 := fun _ => by
  refine ⟨g, 0, rfl, h.lt, fun k hk => ?_⟩
  rcases (show k = 0 ∨ k = 1 by have : k < 2 := hk; omega) with rfl | rfl <;> refine lt5 ?_ ?_ ?_ ?_ ?_ <;> exact h.cell _
theorem k2 {P : Nat → Prop} (h0 : P 0) (h1 : P 1) : ∀ k, k < L2.length → P k := fun k hk => by
  rcases (show k = 0 ∨ k = 1 by have : k < 2 := hk; omega) with rfl | rfl <;> assumption
theorem v2 : Vd L2 := by
  refine ⟨by decide, ⟨rfl, k2 (by decide) (by decide)⟩, ?_, ⟨rfl, rfl⟩, ?_, ?_⟩
  · refine k2 ?_ ?_ <;> (unfold inr; decide)
  · refine k2 ?_ ?_ <;> decide
  · refine k2 ?_ ?_ <;> decide
theorem she2 : shE L2 7 1 = 0 := shE_0 (chE_0 v2) (by decide) (by decide)
theorem shv2 : shV L2 7 1 = 4 := (shV_q she2 (by decide)).trans (by decide)
set_option maxRecDepth 100000 in
set_option maxHeartbeats 4000000 in
theorem awake_any (w : World) : Calls Try.prog 26 #[] w fun e w' => e = .returned (.bool true) ∧ Below w.heap.size w w' := by
  have K := hide (bal (brefl w) (.cells #[.int .u8 4, .int .u8 0, .bool true, .int .i64 5, .int .u8 4, .int .u8 4, .bool false, .int .i64 0, .int .u8 3, .int .u8 0, .bool true, .int .i64 0, .int .u8 4, .int .u8 0, .bool true, .int .i64 3] 70))
  have X := hide (Box.new w 70 #[.int .u8 4, .int .u8 0, .bool true, .int .i64 5, .int .u8 4, .int .u8 4, .bool false, .int .i64 0, .int .u8 3, .int .u8 0, .bool true, .int .i64 0, .int .u8 4, .int .u8 0, .bool true, .int .i64 3])
  have CF := hide (fun (w0 : Nat) (w : World) (h : RdSk w (some ⟨w0, 0, none⟩) L4) => show Calls Try.prog 31 #[.slice (some ⟨w0, 0, none⟩) 4 4] w fun e w' => FrR w F4L e w' from frames_any (some ⟨w0, 0, none⟩) 4 L4 w h (by decide) ok4)
  have CS := hide (fun (g : Nat) (w : World) (h : As w (some ⟨g, 0, none⟩) L2) => show Calls Try.prog 29 #[.slice (some ⟨g, 0, none⟩) 2 2, .int .i64 7, .int .i64 1] w fun e w' => e = .returned (.tuple #[.int .i64 (shV L2 7 1), .int .i64 (shE L2 7 1)]) ∧ Below w.heap.size w w' from share_any (some ⟨g, 0, none⟩) 2 L2 7 1 w h (by decide) (by decide))
  rw [she2, shv2] at CS
  have CC := hide (fun (A : Option Addr) (c : Nat) (w : World) (h : Fs w A F4L) => show Calls Try.prog 34 #[.slice A 4 c] w fun e w' => e = .returned (.int .i64 3) ∧ Below w.heap.size w w' from count_any A c F4L w h (by decide))
  have CO := hide (fun (A : Option Addr) (c : Nat) (w : World) (h : Fs w A F4L) => show Calls Try.prog 32 #[.slice A 4 c] w fun e w' => e = .returned (.int .i64 3) ∧ Below w.heap.size w w' from oldest_any A c F4L w h (by decide))
  have C3 := hide (fun (A : Option Addr) (c : Nat) (w : World) (h : Fs w A F4L) => show Calls Try.prog 33 #[.slice A 4 c, .int .i64 3] w fun e w' => e = .returned (.bool false) ∧ Below w.heap.size w w' from allowed_any A c F4L 3 w h (by decide))
  have C4 := hide (fun (A : Option Addr) (c : Nat) (w : World) (h : Fs w A F4L) => show Calls Try.prog 33 #[.slice A 4 c, .int .i64 4] w fun e w' => e = .returned (.bool true) ∧ Below w.heap.size w w' from allowed_any A c F4L 4 w h (by decide))
  have B3 := hide (fun (w : World) => show Calls Try.prog 27 #[.int .i64 3, .int .i64 4] w fun e w' => e = .returned (.bool true) ∧ w = w' from bg_any 3 4 (by unfold i64r; decide) (by unfold i64r; decide) w)
  have B2 := hide (fun (w : World) => show Calls Try.prog 27 #[.int .i64 2, .int .i64 4] w fun e w' => e = .returned (.bool false) ∧ w = w' from bg_any 2 4 (by unfold i64r; decide) (by unfold i64r; decide) w)
  have CN := hide (fun w => show Calls Try.prog 41 #[.agg #[.int .i64 4, .int .i64 4, .int .i64 0, .int .i64 0, .int .i64 0, .int .i64 0, .int .i64 0, .int .i64 0, .int .i64 0, .int .i64 0, .bool false, .bool false, .bool false, .int .i64 0, .slice none 0 0, .slice none 0 0]] w fun e w' => e = .returned (.bool true) ∧ Below w.heap.size w w' from cnt_any ⟨4, 4, false, 0⟩ w)
  go_enter Try.func26, Try.ntmps26
  go_wp2_with fail
  refine (CF.out _ _ (rd4 X.out)).mono ?_
  rintro e w2 ⟨A, c, rfl, hc, hown, hb⟩
  replace K := hide (btrans K.out hb)
  have R := hide hown.fs
  have FL : F4L.length = 4 := rfl
  rw [FL] at hc ⊢
  clear hb hown X CF FL
  have hc1 : 1 ≤ c := by omega
  have K3 := hide (bal (brefl w2) (.cells #[.int .i64 (-1), .int .i64 10, .int .i64 0, .int .i64 0, .int .i64 20, .int .i64 0, .int .i64 6, .int .i64 0, .int .i64 0, .int .i64 20] 58))
  have X := hide (Box.new w2 58 #[.int .i64 (-1), .int .i64 10, .int .i64 0, .int .i64 0, .int .i64 20, .int .i64 0, .int .i64 6, .int .i64 0, .int .i64 0, .int .i64 20])
  go_wp2_with fail
  refine (CS.out _ _ (as2 X.out)).mono ?_
  rintro e w3 ⟨rfl, hb⟩
  replace K := hide (btrans (btrans K.out K3.out) hb)
  replace R := hide (R.out.below (btrans K3.out hb))
  clear hb X K3 CS
  go_upto_region 3 with fail
  go_wp2_with fail
  refine (CC.out _ _ _ R.out).mono ?_
  rintro e w4 ⟨rfl, hb⟩
  replace K := hide (btrans K.out hb)
  replace R := hide (R.out.below hb)
  clear hb CC
  obtain ⟨b, o, rfl, hbl, ya⟩ := R.out.all (brefl _) (show 1 < F4L.length by decide)
  have YA := hide ya
  clear ya
  go_wp2_with first | (refine wpList_load_at (by kernel_rfl) 50 (.tmp 22) rfl ⟨b, o + 16, none⟩ rfl [.int .i64 4, .int .i64 4, .int .i64 0, .int .i64 0, .int .i64 0, .int .i64 0, .int .i64 0, .int .i64 0, .int .i64 0, .int .i64 0, .bool false, .bool false, .bool false, .int .i64 0, .slice none 0 0, .slice none 0 0] _ (by rw [Nat.one_mul] at YA; exact YA.out) Try.underlying50 rfl info_50 ?_) | fail
  refine (CN.out _).mono ?_
  rintro e w5 ⟨rfl, hb⟩
  replace K := hide (btrans K.out hb)
  replace R := hide (R.out.below hb)
  clear hb CN YA
  go_wp2_with fail
  refine (CO.out _ _ _ R.out).mono ?_
  rintro e w6 ⟨rfl, hb⟩
  replace K := hide (btrans K.out hb)
  replace R := hide (R.out.below hb)
  clear hb CO
  go_wp2_with fail
  refine (C3.out _ _ _ R.out).mono ?_
  rintro e w7 ⟨rfl, hb⟩
  replace K := hide (btrans K.out hb)
  replace R := hide (R.out.below hb)
  clear hb C3
  go_wp2_with fail
  refine (C4.out _ _ _ R.out).mono ?_
  rintro e w8 ⟨rfl, hb⟩
  replace K := hide (btrans K.out hb)
  clear hb C4 R
  go_wp2_with fail
  refine (B3.out _).mono ?_
  rintro e w9 ⟨rfl, rfl⟩
  go_wp2_with fail
  refine (B2.out _).mono ?_
  rintro e w10 ⟨rfl, rfl⟩
  go_wp2
  go_ret
  exact ⟨rfl, K.out⟩
end Go.Proofs.Ytcndbehgklkiiaa.Ac
