import Derived.Test.YthoeolaleeogbaaLChecks
import Derived.Test.YthoeolaleeogbaaRInv
namespace Go.Proofs.Ythoeolaleeogbaa.Tb
open Go Go.RowKit Go.Proofs.Ythoeolaleeogbaa.Pt
set_option linter.unusedVariables false
theorem removes_many (s : Int) (A : Option Addr) (L : List Te) (c : Nat) (x y : Int) (w : World) (h : TlbIn w A L c) (hl : 20 < L.length) :
    Calls Try.prog 6 #[.agg #[.int .i64 s, .slice A L.length c], .int .i64 x, .int .i64 y] w fun e w' => e = .returned (.bool true) ∧ Below w.heap.size w w' := by
  have K := hide (bal (brefl w) (.cells #[.int .i64 s, .slice A L.length c] 24))
  have F := hide (fun w => few_no s A L.length c w h.big hl)
  clear h hl
  go_enter Try.func6, Try.ntmps6
  go_wp2_with fail
  refine (F.out _).mono ?_
  rintro e w1 ⟨rfl, hb⟩
  replace K := hide (btrans K.out hb)
  clear hb
  go_wp2_with fail
  refine (awake _).mono ?_
  rintro e w2 ⟨rfl, hb⟩
  replace K := hide (btrans K.out hb)
  clear hb
  go_wp2
  go_ret
  exact ⟨rfl, K.out⟩
theorem res_len {M : List Te} {er : Int} (h : M.length ≤ 20) : (resM M er).length ≤ 1000 := by
  unfold resM
  split
  · omega
  · simp
set_option maxHeartbeats 8000000 in
theorem removes_few (s : Int) (A : Option Addr) (L : List Te) (c : Nat) (x y : Int) (w : World) (h : TlbIn w A L c) (hl : L.length ≤ 20) (hy : inP y) :
    Calls Try.prog 6 #[.agg #[.int .i64 s, .slice A L.length c], .int .i64 x, .int .i64 y] w fun e w' => e = .returned (.bool true) ∧ Below w.heap.size w w' := by
  have X := hide (Box.new w 24 #[.int .i64 s, .slice A L.length c])
  have K := hide (bal (brefl w) (.cells #[.int .i64 s, .slice A L.length c] 24))
  have T := hide (h.below K.out)
  have F := hide (fun w => few_yes s A L.length c w h.big hl)
  have C1 := hide (fun (W : World) (hW : TlbIn W A L c) => (inv_any s A L c x y W hW hy).mono fun e w' q => TlbR.q q)
  have C2 := hide (fun (W : World) (hW : TlbIn W A L c) => rinv_any s A L c x y W hW hy)
  have C3 := hide (fun (W : World) (hW : TlbIn W A L c) => (flush_any s A L c x W hW).mono fun e w' q => TlbR.q q)
  have C4 := hide (fun (W : World) (hW : TlbIn W A L c) => rflush_any s A L c x W hW)
  unfold TlbQ at C1 C2 C3 C4
  have hmM := res_len (M := invL L x y) (er := placeE s L x y) (Nat.le_trans (List.length_filter_le _ L) hl)
  have hmM2 := res_len (M := flL L x) (er := flE s L x) (Nat.le_trans (List.length_filter_le _ L) hl)
  generalize resS s (placeE s L x y) = rs at *
  generalize resM (invL L x y) (placeE s L x y) = M at *
  generalize placeE s L x y = er at *
  generalize resS s (flE s L x) = rs2 at *
  generalize resM (flL L x) (flE s L x) = M2 at *
  generalize flE s L x = er2 at *
  clear h hl hy
  go_enter Try.func6, Try.ntmps6
  go_wp2_with fail
  refine (F.out _).mono ?_
  rintro e w1 ⟨rfl, hb⟩
  replace X := hide (X.out.below hb)
  replace T := hide (T.out.below hb)
  replace K := hide (btrans K.out hb)
  clear hb
  have x0 := X.out.cell 0
  have x1 := X.out.cell 1
  simp at x0 x1
  go_wp2_with fail
  clear x0 x1
  refine (C1.out _ T.out).mono ?_
  rintro e w2 ⟨A2, c2, rfl, hcap, ho, hb⟩
  replace X := hide (X.out.below hb)
  replace T := hide (T.out.below hb)
  replace K := hide (btrans K.out hb)
  have O2 := hide ho
  clear hb ho hcap
  replace X := hide (X.out.more (.cells #[.int .i64 rs, .slice A2 M.length c2] 24))
  replace T := hide (T.out.below (bal (brefl _) (.cells #[.int .i64 rs, .slice A2 M.length c2] 24)))
  replace K := hide (bal K.out (.cells #[.int .i64 rs, .slice A2 M.length c2] 24))
  replace O2 := hide (Own47.below O2.out (bal (brefl _) (.cells #[.int .i64 rs, .slice A2 M.length c2] 24)))
  have B2 := hide (Box.new w2 24 #[.int .i64 rs, .slice A2 M.length c2])
  have x0 := X.out.cell 0
  have x1 := X.out.cell 1
  simp at x0 x1
  have lt0 := X.out.lt
  go_wp2_with fail
  clear x0 x1
  clear lt0
  refine (C2.out _ T.out).mono ?_
  rintro e w3 ⟨A3, c3, rfl, hcap, ho, hb⟩
  replace X := hide (X.out.below hb)
  replace B2 := hide (B2.out.below hb)
  replace T := hide (T.out.below hb)
  replace K := hide (btrans K.out hb)
  replace O2 := hide (Own47.below O2.out hb)
  have O3 := hide ho
  clear hb ho hcap
  replace X := hide (X.out.more (.cells #[.int .i64 rs, .slice A3 M.length c3] 24))
  replace B2 := hide (B2.out.more (.cells #[.int .i64 rs, .slice A3 M.length c3] 24))
  replace T := hide (T.out.below (bal (brefl _) (.cells #[.int .i64 rs, .slice A3 M.length c3] 24)))
  replace K := hide (bal K.out (.cells #[.int .i64 rs, .slice A3 M.length c3] 24))
  replace O2 := hide (Own47.below O2.out (bal (brefl _) (.cells #[.int .i64 rs, .slice A3 M.length c3] 24)))
  replace O3 := hide (Own47.below O3.out (bal (brefl _) (.cells #[.int .i64 rs, .slice A3 M.length c3] 24)))
  have B3 := hide (Box.new w3 24 #[.int .i64 rs, .slice A3 M.length c3])
  have x0 := X.out.cell 0
  have x1 := X.out.cell 1
  simp at x0 x1
  have lt0 := X.out.lt
  go_wp2_with fail
  clear x0 x1
  clear lt0
  refine (C3.out _ T.out).mono ?_
  rintro e w4 ⟨A4, c4, rfl, hcap, ho, hb⟩
  replace X := hide (X.out.below hb)
  replace B2 := hide (B2.out.below hb)
  replace B3 := hide (B3.out.below hb)
  replace T := hide (T.out.below hb)
  replace K := hide (btrans K.out hb)
  replace O2 := hide (Own47.below O2.out hb)
  replace O3 := hide (Own47.below O3.out hb)
  have O4 := hide ho
  clear hb ho hcap
  replace X := hide (X.out.more (.cells #[.int .i64 rs2, .slice A4 M2.length c4] 24))
  replace B2 := hide (B2.out.more (.cells #[.int .i64 rs2, .slice A4 M2.length c4] 24))
  replace B3 := hide (B3.out.more (.cells #[.int .i64 rs2, .slice A4 M2.length c4] 24))
  replace T := hide (T.out.below (bal (brefl _) (.cells #[.int .i64 rs2, .slice A4 M2.length c4] 24)))
  replace K := hide (bal K.out (.cells #[.int .i64 rs2, .slice A4 M2.length c4] 24))
  replace O2 := hide (Own47.below O2.out (bal (brefl _) (.cells #[.int .i64 rs2, .slice A4 M2.length c4] 24)))
  replace O3 := hide (Own47.below O3.out (bal (brefl _) (.cells #[.int .i64 rs2, .slice A4 M2.length c4] 24)))
  replace O4 := hide (Own47.below O4.out (bal (brefl _) (.cells #[.int .i64 rs2, .slice A4 M2.length c4] 24)))
  have B4 := hide (Box.new w4 24 #[.int .i64 rs2, .slice A4 M2.length c4])
  have x0 := X.out.cell 0
  have x1 := X.out.cell 1
  simp at x0 x1
  have lt0 := X.out.lt
  go_wp2_with fail
  clear x0 x1
  clear lt0
  refine (C4.out _ T.out).mono ?_
  rintro e w5 ⟨A5, c5, rfl, hcap, ho, hb⟩
  replace X := hide (X.out.below hb)
  replace B2 := hide (B2.out.below hb)
  replace B3 := hide (B3.out.below hb)
  replace B4 := hide (B4.out.below hb)
  replace T := hide (T.out.below hb)
  replace K := hide (btrans K.out hb)
  replace O2 := hide (Own47.below O2.out hb)
  replace O3 := hide (Own47.below O3.out hb)
  replace O4 := hide (Own47.below O4.out hb)
  have O5 := hide ho
  clear hb ho hcap
  replace X := hide (X.out.more (.cells #[.int .i64 rs2, .slice A5 M2.length c5] 24))
  replace B2 := hide (B2.out.more (.cells #[.int .i64 rs2, .slice A5 M2.length c5] 24))
  replace B3 := hide (B3.out.more (.cells #[.int .i64 rs2, .slice A5 M2.length c5] 24))
  replace B4 := hide (B4.out.more (.cells #[.int .i64 rs2, .slice A5 M2.length c5] 24))
  replace T := hide (T.out.below (bal (brefl _) (.cells #[.int .i64 rs2, .slice A5 M2.length c5] 24)))
  replace K := hide (bal K.out (.cells #[.int .i64 rs2, .slice A5 M2.length c5] 24))
  replace O2 := hide (Own47.below O2.out (bal (brefl _) (.cells #[.int .i64 rs2, .slice A5 M2.length c5] 24)))
  replace O3 := hide (Own47.below O3.out (bal (brefl _) (.cells #[.int .i64 rs2, .slice A5 M2.length c5] 24)))
  replace O4 := hide (Own47.below O4.out (bal (brefl _) (.cells #[.int .i64 rs2, .slice A5 M2.length c5] 24)))
  replace O5 := hide (Own47.below O5.out (bal (brefl _) (.cells #[.int .i64 rs2, .slice A5 M2.length c5] 24)))
  have B5 := hide (Box.new w5 24 #[.int .i64 rs2, .slice A5 M2.length c5])
  have q0 := B2.out.cell 0
  have q1 := B2.out.cell 1
  simp at q0 q1
  have r0 := B3.out.cell 0
  have r1 := B3.out.cell 1
  simp at r0 r1
  have lt0 := B2.out.lt
  have lt1 := B3.out.lt
  go_wp2_with fail
  clear q0 q1 r0 r1
  clear lt0 lt1
  refine (same_eq rs A2 A3 M c2 c3 _ (O2.out.ts) (O3.out.ts) hmM).mono ?_
  rintro e w6 ⟨rfl, hb⟩
  replace X := hide (X.out.below hb)
  replace B2 := hide (B2.out.below hb)
  replace B3 := hide (B3.out.below hb)
  replace B4 := hide (B4.out.below hb)
  replace B5 := hide (B5.out.below hb)
  replace T := hide (T.out.below hb)
  replace K := hide (btrans K.out hb)
  replace O2 := hide (Own47.below O2.out hb)
  replace O3 := hide (Own47.below O3.out hb)
  replace O4 := hide (Own47.below O4.out hb)
  replace O5 := hide (Own47.below O5.out hb)
  clear hb
  have q0 := B4.out.cell 0
  have q1 := B4.out.cell 1
  simp at q0 q1
  have r0 := B5.out.cell 0
  have r1 := B5.out.cell 1
  simp at r0 r1
  go_wp2_with fail
  clear q0 q1 r0 r1
  refine (same_eq rs2 A4 A5 M2 c4 c5 _ (O4.out.ts) (O5.out.ts) hmM2).mono ?_
  rintro e w7 ⟨rfl, hb⟩
  replace X := hide (X.out.below hb)
  replace B2 := hide (B2.out.below hb)
  replace B3 := hide (B3.out.below hb)
  replace B4 := hide (B4.out.below hb)
  replace B5 := hide (B5.out.below hb)
  replace T := hide (T.out.below hb)
  replace K := hide (btrans K.out hb)
  replace O2 := hide (Own47.below O2.out hb)
  replace O3 := hide (Own47.below O3.out hb)
  replace O4 := hide (Own47.below O4.out hb)
  replace O5 := hide (Own47.below O5.out hb)
  clear hb
  go_wp2_with fail
  refine (awake _).mono ?_
  rintro e wq ⟨rfl, hb⟩
  replace K := hide (btrans K.out hb)
  clear hb
  go_wp2
  go_ret
  exact ⟨rfl, K.out⟩
theorem law_removes (s : Int) (A : Option Addr) (L : List Te) (c : Nat) (x y : Int) (w : World) (h : TlbIn w A L c) (hy : inP y) :
    Calls Try.prog 6 #[.agg #[.int .i64 s, .slice A L.length c], .int .i64 x, .int .i64 y] w fun e w' => e = .returned (.bool true) ∧ Below w.heap.size w w' := by
  by_cases hl : L.length ≤ 20
  · exact removes_few s A L c x y w h hl hy
  · exact removes_many s A L c x y w h (by omega)
end Go.Proofs.Ythoeolaleeogbaa.Tb
