import Derived.Test.YthoeolaleeogbaaLChecks
import Derived.Test.YthoeolaleeogbaaRFl
namespace Go.Proofs.Ythoeolaleeogbaa.Tb
open Go Go.RowKit Go.Proofs.Ythoeolaleeogbaa.Pt
set_option linter.unusedVariables false
theorem fills_many (s : Int) (A : Option Addr) (L : List Te) (c : Nat) (x y u : Int) (w : World) (h : TlbIn w A L c) (hl : 20 < L.length) :
    Calls Try.prog 5 #[.agg #[.int .i64 s, .slice A L.length c], .agg #[.int .i64 x, .int .i64 y], .int .u64 u] w fun e w' => e = .returned (.bool true) ∧ Below w.heap.size w w' := by
  have K := hide (bal (bal (brefl w) (.cells #[.int .i64 s, .slice A L.length c] 24)) (.cells #[.int .i64 x, .int .i64 y] 35))
  have F := hide (fun w => few_no s A L.length c w h.big hl)
  clear h hl
  go_enter Try.func5, Try.ntmps5
  go_wp2_with fail
  refine (F.out _).mono ?_
  rintro e w1 ⟨rfl, hb⟩
  replace K := hide (btrans K.out hb)
  clear hb
  go_wp2_with fail
  refine (awake _).mono ?_
  rintro e w2 ⟨rfl, hb⟩
  replace K := hide (btrans K.out hb)
  clear hb
  go_wp2
  go_ret
  exact ⟨rfl, K.out⟩
theorem fill_len {size : Int} {L : List Te} {s p W : Int} : (resM (fillL size L s p W) (fillE size L s p W)).length ≤ 1000 := by
  unfold resM
  split
  · rename_i h
    obtain ⟨a, b, _⟩ := chkT_ok.1 (fill_ok h)
    omega
  · simp
set_option maxHeartbeats 8000000 in
theorem fills_few (s : Int) (A : Option Addr) (L : List Te) (c : Nat) (x y u : Int) (w : World) (h : TlbIn w A L c) (hl : L.length ≤ 20) (hy : inP y) (hu : inW u) :
    Calls Try.prog 5 #[.agg #[.int .i64 s, .slice A L.length c], .agg #[.int .i64 x, .int .i64 y], .int .u64 u] w fun e w' => e = .returned (.bool true) ∧ Below w.heap.size w w' := by
  have X := hide ((Box.new w 24 #[.int .i64 s, .slice A L.length c]).more (.cells #[.int .i64 x, .int .i64 y] 35))
  have P := hide (Box.new2 w (.cells #[.int .i64 s, .slice A L.length c] 24) 35 #[.int .i64 x, .int .i64 y])
  have K := hide (bal (bal (brefl w) (.cells #[.int .i64 s, .slice A L.length c] 24)) (.cells #[.int .i64 x, .int .i64 y] 35))
  have T := hide (h.below K.out)
  have F := hide (fun w => few_yes s A L.length c w h.big hl)
  have C1 := hide (fun (W : World) (hW : TlbIn W A L c) => (fill_any s A L c x y u W hW hu).mono fun e w' q => TlbR.q q)
  have C2 := hide (fun (W : World) (hW : TlbIn W A L c) => rfill_any s A L c x y u W hW hy hu)
  unfold TlbQ at C1 C2
  have hmM := fill_len (size := s) (L := L) (s := x) (p := y) (W := u)
  generalize resS s (fillE s L x y u) = rs at *
  generalize resM (fillL s L x y u) (fillE s L x y u) = M at *
  generalize fillE s L x y u = er at *
  clear h hl hy hu
  go_enter Try.func5, Try.ntmps5
  go_wp2_with fail
  refine (F.out _).mono ?_
  rintro e w1 ⟨rfl, hb⟩
  replace X := hide (X.out.below hb)
  replace P := hide (P.out.below hb)
  replace T := hide (T.out.below hb)
  replace K := hide (btrans K.out hb)
  clear hb
  have x0 := X.out.cell 0
  have x1 := X.out.cell 1
  simp at x0 x1
  have p0 := P.out.cell 0
  have p1 := P.out.cell 1
  simp at p0 p1
  go_wp2_with fail
  clear x0 x1 p0 p1
  refine (C1.out _ T.out).mono ?_
  rintro e w2 ⟨A2, c2, rfl, hcap, ho, hb⟩
  replace X := hide (X.out.below hb)
  replace P := hide (P.out.below hb)
  replace T := hide (T.out.below hb)
  replace K := hide (btrans K.out hb)
  have O2 := hide ho
  clear hb ho hcap
  replace X := hide (X.out.more (.cells #[.int .i64 rs, .slice A2 M.length c2] 24))
  replace P := hide (P.out.more (.cells #[.int .i64 rs, .slice A2 M.length c2] 24))
  replace T := hide (T.out.below (bal (brefl _) (.cells #[.int .i64 rs, .slice A2 M.length c2] 24)))
  replace K := hide (bal K.out (.cells #[.int .i64 rs, .slice A2 M.length c2] 24))
  replace O2 := hide (Own47.below O2.out (bal (brefl _) (.cells #[.int .i64 rs, .slice A2 M.length c2] 24)))
  have B2 := hide (Box.new w2 24 #[.int .i64 rs, .slice A2 M.length c2])
  have x0 := X.out.cell 0
  have x1 := X.out.cell 1
  simp at x0 x1
  have p0 := P.out.cell 0
  have p1 := P.out.cell 1
  simp at p0 p1
  have lt := X.out.lt
  have lt' := P.out.lt
  go_wp2_with fail
  clear x0 x1 p0 p1
  clear lt lt'
  refine (C2.out _ T.out).mono ?_
  rintro e w3 ⟨A3, c3, rfl, hcap, ho, hb⟩
  replace X := hide (X.out.below hb)
  replace P := hide (P.out.below hb)
  replace B2 := hide (B2.out.below hb)
  replace T := hide (T.out.below hb)
  replace K := hide (btrans K.out hb)
  replace O2 := hide (Own47.below O2.out hb)
  have O3 := hide ho
  clear hb ho hcap
  replace X := hide (X.out.more (.cells #[.int .i64 rs, .slice A3 M.length c3] 24))
  replace P := hide (P.out.more (.cells #[.int .i64 rs, .slice A3 M.length c3] 24))
  replace B2 := hide (B2.out.more (.cells #[.int .i64 rs, .slice A3 M.length c3] 24))
  replace T := hide (T.out.below (bal (brefl _) (.cells #[.int .i64 rs, .slice A3 M.length c3] 24)))
  replace K := hide (bal K.out (.cells #[.int .i64 rs, .slice A3 M.length c3] 24))
  replace O2 := hide (Own47.below O2.out (bal (brefl _) (.cells #[.int .i64 rs, .slice A3 M.length c3] 24)))
  replace O3 := hide (Own47.below O3.out (bal (brefl _) (.cells #[.int .i64 rs, .slice A3 M.length c3] 24)))
  have B3 := hide (Box.new w3 24 #[.int .i64 rs, .slice A3 M.length c3])
  have q0 := B2.out.cell 0
  have q1 := B2.out.cell 1
  simp at q0 q1
  have r0 := B3.out.cell 0
  have r1 := B3.out.cell 1
  simp at r0 r1
  have lt := B2.out.lt
  go_wp2_with fail
  clear q0 q1 r0 r1
  clear lt
  refine (same_eq rs A2 A3 M c2 c3 _ (O2.out.ts) (O3.out.ts) hmM).mono ?_
  rintro e w4 ⟨rfl, hb⟩
  replace X := hide (X.out.below hb)
  replace P := hide (P.out.below hb)
  replace B2 := hide (B2.out.below hb)
  replace B3 := hide (B3.out.below hb)
  replace T := hide (T.out.below hb)
  replace K := hide (btrans K.out hb)
  replace O2 := hide (Own47.below O2.out hb)
  replace O3 := hide (Own47.below O3.out hb)
  clear hb
  go_wp2_with fail
  refine (awake _).mono ?_
  rintro e wq ⟨rfl, hb⟩
  replace K := hide (btrans K.out hb)
  clear hb
  go_wp2
  go_ret
  exact ⟨rfl, K.out⟩
theorem law_fills (s : Int) (A : Option Addr) (L : List Te) (c : Nat) (x y u : Int) (w : World) (h : TlbIn w A L c) (hy : inP y) (hu : inW u) :
    Calls Try.prog 5 #[.agg #[.int .i64 s, .slice A L.length c], .agg #[.int .i64 x, .int .i64 y], .int .u64 u] w fun e w' => e = .returned (.bool true) ∧ Below w.heap.size w w' := by
  by_cases hl : L.length ≤ 20
  · exact fills_few s A L c x y u w h hl hy hu
  · exact fills_many s A L c x y u w h (by omega)
end Go.Proofs.Ythoeolaleeogbaa.Tb
