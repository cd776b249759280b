import Derived.Test.YthoeolaleeogbaaSame
namespace Go.Proofs.Ythoeolaleeogbaa.Tb
open Go Go.RowKit Go.Proofs.Ythoeolaleeogbaa.Pt
set_option linter.unusedVariables false
theorem TlbIn.of_own {B c : Nat} {L : List Te} {A : Option Addr} {w : World} (h : OwnR B L A c w) (hb : L.length ≤ 9223372036854775807) (hi : ∀ o ∈ L, inW o.2.2) : TlbIn w A L c := ⟨h.mine.ts, h.cap, hb, hi⟩
theorem inw_nil : ∀ o ∈ ([] : List Te), inW o.2.2 := fun o h => by cases h
theorem inw_1 : ∀ o ∈ ([(0, 5, 257)] : List Te), inW o.2.2 := by unfold inW; decide
theorem inw_2 : ∀ o ∈ ([(0, 5, 257), (0, 6, 513)] : List Te), inW o.2.2 := by unfold inW; decide
theorem inw_3 : ∀ o ∈ ([(0, 6, 513), (1, 5, 257)] : List Te), inW o.2.2 := by unfold inW; decide
theorem inw_4 : ∀ o ∈ ([(0, 8, 4161)] : List Te), inW o.2.2 := by unfold inW; decide
theorem fl_1 : fillE 2 [] 0 5 257 = 0 ∧ fillL 2 [] 0 5 257 = [(0, 5, 257)] := by decide
theorem fl_2 : fillE 2 [(0, 5, 257)] 0 6 513 = 0 ∧ fillL 2 [(0, 5, 257)] 0 6 513 = [(0, 5, 257), (0, 6, 513)] := by decide
theorem fl_3 : fillE 2 [(0, 5, 257), (0, 6, 513)] 1 5 257 = 0 ∧ fillL 2 [(0, 5, 257), (0, 6, 513)] 1 5 257 = [(0, 6, 513), (1, 5, 257)] := by decide
theorem fl_4 : fillE 2 [] 0 12 4161 = 0 ∧ fillL 2 [] 0 12 4161 = [(0, 8, 4161)] := by decide
theorem fl_5 : fillE 2 [] 0 6 258 = 3 := by decide
theorem lk_1 : lookW 2 [(0, 6, 513), (1, 5, 257)] 1 5 = 257 ∧ lookB 2 [(0, 6, 513), (1, 5, 257)] 1 5 = true := by decide
theorem lk_2 : lookB 2 [(0, 6, 513), (1, 5, 257)] 0 5 = false := by decide
theorem lk_3 : lookB 2 [(0, 8, 4161)] 0 15 = true := by decide
theorem lk_4 : lookB 2 [(0, 8, 4161)] 0 16 = false := by decide
theorem fill_ok_at (size : Int) (A : Option Addr) (L M : List Te) (c : Nat) (s p W : Int) (w : World) (h : TlbIn w A L c) (hW : inW W) (hf : fillE size L s p W = 0 ∧ fillL size L s p W = M) :
    Calls Try.prog 22 #[.agg #[.int .i64 size, .slice A L.length c], .int .i64 s, .int .i64 p, .int .u64 W] w (TlbR size M 0 w) := by
  have := fill_any size A L c s p W w h hW
  rw [hf.1, hf.2] at this
  exact this
theorem fill_bad_at (size er : Int) (A : Option Addr) (L : List Te) (c : Nat) (s p W : Int) (w : World) (h : TlbIn w A L c) (hW : inW W) (hf : fillE size L s p W = er) (he : er ≠ 0) :
    Calls Try.prog 22 #[.agg #[.int .i64 size, .slice A L.length c], .int .i64 s, .int .i64 p, .int .u64 W] w (TlbR 0 [] er w) := by
  have := fill_any size A L c s p W w h hW
  rw [hf, resS_er he, resM_er he] at this
  exact this
set_option maxHeartbeats 4000000 in
set_option maxRecDepth 100000 in
theorem awake (w : World) : Calls Try.prog 13 #[] w fun e w' => e = .returned (.bool true) ∧ Below w.heap.size w w' := by
  have K := hide (brefl w)
  go_enter Try.func13, Try.ntmps13
  go_wp2_with fail
  refine (new_any 2 _).mono ?_
  rintro e w1 ⟨A1, c1, rfl, hown, hb⟩
  replace K := hide (btrans K.out hb)
  have B1 := hide (Box.new w1 24 #[.int .i64 2, .slice A1 0 c1])
  have T1 := hide ((TlbIn.of_own hown (by simp) inw_nil).below (bal (brefl w1) (.cells #[.int .i64 2, .slice A1 0 c1] 24)))
  replace K := hide (bal K.out (.cells #[.int .i64 2, .slice A1 0 c1] 24))
  clear hown hb
  go_wp2_with fail
  refine (fill_ok_at 2 _ [] [(0, 5, 257)] _ 0 5 257 _ T1.out (by unfold inW; omega) fl_1).mono ?_
  rintro e w2 ⟨A2, c2, rfl, hown, hb⟩
  replace B1 := hide (B1.out.below hb)
  replace T1 := hide (T1.out.below hb)
  replace K := hide (btrans K.out hb)
  replace B1 := hide (B1.out.more (.cells #[.int .i64 2, .slice A2 1 c2] 24))
  replace T1 := hide (T1.out.below (bal (brefl _) (.cells #[.int .i64 2, .slice A2 1 c2] 24)))
  have B2 := hide (Box.new w2 24 #[.int .i64 2, .slice A2 1 c2])
  have T2 := hide ((TlbIn.of_own hown (by simp) inw_1).below (bal (brefl _) (.cells #[.int .i64 2, .slice A2 1 c2] 24)))
  replace K := hide (bal K.out (.cells #[.int .i64 2, .slice A2 1 c2] 24))
  clear hown hb
  go_wp2_with fail
  refine (fill_ok_at 2 _ [(0, 5, 257)] [(0, 5, 257), (0, 6, 513)] _ 0 6 513 _ T2.out (by unfold inW; omega) fl_2).mono ?_
  rintro e w3 ⟨A3, c3, rfl, hown, hb⟩
  replace B1 := hide (B1.out.below hb)
  replace B2 := hide (B2.out.below hb)
  replace T1 := hide (T1.out.below hb)
  replace T2 := hide (T2.out.below hb)
  replace K := hide (btrans K.out hb)
  replace B1 := hide (B1.out.more (.cells #[.int .i64 2, .slice A3 2 c3] 24))
  replace B2 := hide (B2.out.more (.cells #[.int .i64 2, .slice A3 2 c3] 24))
  replace T1 := hide (T1.out.below (bal (brefl _) (.cells #[.int .i64 2, .slice A3 2 c3] 24)))
  replace T2 := hide (T2.out.below (bal (brefl _) (.cells #[.int .i64 2, .slice A3 2 c3] 24)))
  have B3 := hide (Box.new w3 24 #[.int .i64 2, .slice A3 2 c3])
  have T3 := hide ((TlbIn.of_own hown (by simp) inw_2).below (bal (brefl _) (.cells #[.int .i64 2, .slice A3 2 c3] 24)))
  replace K := hide (bal K.out (.cells #[.int .i64 2, .slice A3 2 c3] 24))
  clear hown hb
  go_wp2_with fail
  refine (fill_ok_at 2 _ [(0, 5, 257), (0, 6, 513)] [(0, 6, 513), (1, 5, 257)] _ 1 5 257 _ T3.out (by unfold inW; omega) fl_3).mono ?_
  rintro e w4 ⟨A4, c4, rfl, hown, hb⟩
  replace B1 := hide (B1.out.below hb)
  replace B2 := hide (B2.out.below hb)
  replace B3 := hide (B3.out.below hb)
  replace T1 := hide (T1.out.below hb)
  replace T2 := hide (T2.out.below hb)
  replace T3 := hide (T3.out.below hb)
  replace K := hide (btrans K.out hb)
  replace B1 := hide (B1.out.more (.cells #[.int .i64 2, .slice A4 2 c4] 24))
  replace B2 := hide (B2.out.more (.cells #[.int .i64 2, .slice A4 2 c4] 24))
  replace B3 := hide (B3.out.more (.cells #[.int .i64 2, .slice A4 2 c4] 24))
  replace T1 := hide (T1.out.below (bal (brefl _) (.cells #[.int .i64 2, .slice A4 2 c4] 24)))
  replace T2 := hide (T2.out.below (bal (brefl _) (.cells #[.int .i64 2, .slice A4 2 c4] 24)))
  replace T3 := hide (T3.out.below (bal (brefl _) (.cells #[.int .i64 2, .slice A4 2 c4] 24)))
  have B4 := hide (Box.new w4 24 #[.int .i64 2, .slice A4 2 c4])
  have T4 := hide ((TlbIn.of_own hown (by simp) inw_3).below (bal (brefl _) (.cells #[.int .i64 2, .slice A4 2 c4] 24)))
  replace K := hide (bal K.out (.cells #[.int .i64 2, .slice A4 2 c4] 24))
  clear hown hb
  go_wp2_with fail
  have C5 := look_any 2 _ [(0, 6, 513), (1, 5, 257)] _ 1 5 _ T4.out (by unfold inP; omega)
  rw [lk_1.1, lk_1.2] at C5
  refine C5.mono ?_
  rintro e w5 ⟨rfl, hb⟩
  clear C5
  replace B1 := hide (B1.out.below hb)
  replace B2 := hide (B2.out.below hb)
  replace B3 := hide (B3.out.below hb)
  replace B4 := hide (B4.out.below hb)
  replace T1 := hide (T1.out.below hb)
  replace T2 := hide (T2.out.below hb)
  replace T3 := hide (T3.out.below hb)
  replace T4 := hide (T4.out.below hb)
  replace K := hide (btrans K.out hb)
  clear hb
  have x500 := B1.out.cell 0
  have x501 := B1.out.cell 1
  simp at x500 x501
  go_wp2_with fail
  clear x500 x501
  refine (fill_ok_at 2 _ [] [(0, 8, 4161)] _ 0 12 4161 _ T1.out (by unfold inW; omega) fl_4).mono ?_
  rintro e w6 ⟨A6, c6, rfl, hown, hb⟩
  replace B1 := hide (B1.out.below hb)
  replace B2 := hide (B2.out.below hb)
  replace B3 := hide (B3.out.below hb)
  replace B4 := hide (B4.out.below hb)
  replace T1 := hide (T1.out.below hb)
  replace T2 := hide (T2.out.below hb)
  replace T3 := hide (T3.out.below hb)
  replace T4 := hide (T4.out.below hb)
  replace K := hide (btrans K.out hb)
  replace B1 := hide (B1.out.more (.cells #[.int .i64 2, .slice A6 1 c6] 24))
  replace B2 := hide (B2.out.more (.cells #[.int .i64 2, .slice A6 1 c6] 24))
  replace B3 := hide (B3.out.more (.cells #[.int .i64 2, .slice A6 1 c6] 24))
  replace B4 := hide (B4.out.more (.cells #[.int .i64 2, .slice A6 1 c6] 24))
  replace T1 := hide (T1.out.below (bal (brefl _) (.cells #[.int .i64 2, .slice A6 1 c6] 24)))
  replace T2 := hide (T2.out.below (bal (brefl _) (.cells #[.int .i64 2, .slice A6 1 c6] 24)))
  replace T3 := hide (T3.out.below (bal (brefl _) (.cells #[.int .i64 2, .slice A6 1 c6] 24)))
  replace T4 := hide (T4.out.below (bal (brefl _) (.cells #[.int .i64 2, .slice A6 1 c6] 24)))
  have B6 := hide (Box.new w6 24 #[.int .i64 2, .slice A6 1 c6])
  have T6 := hide ((TlbIn.of_own hown (by simp) inw_4).below (bal (brefl _) (.cells #[.int .i64 2, .slice A6 1 c6] 24)))
  replace K := hide (bal K.out (.cells #[.int .i64 2, .slice A6 1 c6] 24))
  clear hown hb
  have x600 := B1.out.cell 0
  have x601 := B1.out.cell 1
  simp at x600 x601
  go_wp2_with fail
  clear x600 x601
  refine (fill_bad_at 2 3 _ [] _ 0 6 258 _ T1.out (by unfold inW; omega) fl_5 (by decide)).mono ?_
  rintro e w7 ⟨A7, c7, rfl, hown, hb⟩
  replace B1 := hide (B1.out.below hb)
  replace B2 := hide (B2.out.below hb)
  replace B3 := hide (B3.out.below hb)
  replace B4 := hide (B4.out.below hb)
  replace B6 := hide (B6.out.below hb)
  replace T1 := hide (T1.out.below hb)
  replace T2 := hide (T2.out.below hb)
  replace T3 := hide (T3.out.below hb)
  replace T4 := hide (T4.out.below hb)
  replace T6 := hide (T6.out.below hb)
  replace K := hide (btrans K.out hb)
  replace B1 := hide (B1.out.more (.cells #[.int .i64 0, .slice A7 0 c7] 24))
  replace B2 := hide (B2.out.more (.cells #[.int .i64 0, .slice A7 0 c7] 24))
  replace B3 := hide (B3.out.more (.cells #[.int .i64 0, .slice A7 0 c7] 24))
  replace B4 := hide (B4.out.more (.cells #[.int .i64 0, .slice A7 0 c7] 24))
  replace B6 := hide (B6.out.more (.cells #[.int .i64 0, .slice A7 0 c7] 24))
  replace T1 := hide (T1.out.below (bal (brefl _) (.cells #[.int .i64 0, .slice A7 0 c7] 24)))
  replace T2 := hide (T2.out.below (bal (brefl _) (.cells #[.int .i64 0, .slice A7 0 c7] 24)))
  replace T3 := hide (T3.out.below (bal (brefl _) (.cells #[.int .i64 0, .slice A7 0 c7] 24)))
  replace T4 := hide (T4.out.below (bal (brefl _) (.cells #[.int .i64 0, .slice A7 0 c7] 24)))
  replace T6 := hide (T6.out.below (bal (brefl _) (.cells #[.int .i64 0, .slice A7 0 c7] 24)))
  have B7 := hide (Box.new w7 24 #[.int .i64 0, .slice A7 0 c7])
  have T7 := hide ((TlbIn.of_own hown (by simp) inw_nil).below (bal (brefl _) (.cells #[.int .i64 0, .slice A7 0 c7] 24)))
  replace K := hide (bal K.out (.cells #[.int .i64 0, .slice A7 0 c7] 24))
  clear hown hb
  have x700 := B4.out.cell 0
  have x701 := B4.out.cell 1
  simp at x700 x701
  go_wp2_with fail
  clear x700 x701
  have C8 := covers_any 2 _ [(0, 6, 513), (1, 5, 257)] _ 0 5 _ T4.out (by unfold inP; omega)
  rw [lk_2] at C8
  refine C8.mono ?_
  rintro e w8 ⟨rfl, hb⟩
  clear C8
  replace B1 := hide (B1.out.below hb)
  replace B2 := hide (B2.out.below hb)
  replace B3 := hide (B3.out.below hb)
  replace B4 := hide (B4.out.below hb)
  replace B6 := hide (B6.out.below hb)
  replace B7 := hide (B7.out.below hb)
  replace T1 := hide (T1.out.below hb)
  replace T2 := hide (T2.out.below hb)
  replace T3 := hide (T3.out.below hb)
  replace T4 := hide (T4.out.below hb)
  replace T6 := hide (T6.out.below hb)
  replace T7 := hide (T7.out.below hb)
  replace K := hide (btrans K.out hb)
  clear hb
  have x800 := B6.out.cell 0
  have x801 := B6.out.cell 1
  simp at x800 x801
  go_wp2_with fail
  clear x800 x801
  have C9 := covers_any 2 _ [(0, 8, 4161)] _ 0 15 _ T6.out (by unfold inP; omega)
  rw [lk_3] at C9
  refine C9.mono ?_
  rintro e w9 ⟨rfl, hb⟩
  clear C9
  replace B1 := hide (B1.out.below hb)
  replace B2 := hide (B2.out.below hb)
  replace B3 := hide (B3.out.below hb)
  replace B4 := hide (B4.out.below hb)
  replace B6 := hide (B6.out.below hb)
  replace B7 := hide (B7.out.below hb)
  replace T1 := hide (T1.out.below hb)
  replace T2 := hide (T2.out.below hb)
  replace T3 := hide (T3.out.below hb)
  replace T4 := hide (T4.out.below hb)
  replace T6 := hide (T6.out.below hb)
  replace T7 := hide (T7.out.below hb)
  replace K := hide (btrans K.out hb)
  clear hb
  have x900 := B6.out.cell 0
  have x901 := B6.out.cell 1
  simp at x900 x901
  go_wp2_with fail
  clear x900 x901
  have C10 := covers_any 2 _ [(0, 8, 4161)] _ 0 16 _ T6.out (by unfold inP; omega)
  rw [lk_4] at C10
  refine C10.mono ?_
  rintro e w10 ⟨rfl, hb⟩
  clear C10
  replace B1 := hide (B1.out.below hb)
  replace B2 := hide (B2.out.below hb)
  replace B3 := hide (B3.out.below hb)
  replace B4 := hide (B4.out.below hb)
  replace B6 := hide (B6.out.below hb)
  replace B7 := hide (B7.out.below hb)
  replace T1 := hide (T1.out.below hb)
  replace T2 := hide (T2.out.below hb)
  replace T3 := hide (T3.out.below hb)
  replace T4 := hide (T4.out.below hb)
  replace T6 := hide (T6.out.below hb)
  replace T7 := hide (T7.out.below hb)
  replace K := hide (btrans K.out hb)
  clear hb
  go_wp2_with fail
  go_ret
  exact ⟨rfl, K.out⟩
end Go.Proofs.Ythoeolaleeogbaa.Tb
