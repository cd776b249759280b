import Derived.Test.YthoeolaleeogbaaLOnce
import Derived.Test.YthoeolaleeogbaaRDo
namespace Go.Proofs.Ythoeolaleeogbaa.Tb
open Go Go.RowKit Go.Proofs.Ythoeolaleeogbaa.Pt
set_option linter.unusedVariables false
theorem Box.aside {w : World} {g h : Nat} {t : TypeId} {cs : Array Value} (X : Box w g t cs) (ne : g ≠ h) (i : Nat) (u : Value) : Box (w.setCell ⟨h, i, none⟩ u) g t cs :=
  (heap_setCell_other w ⟨h, i, none⟩ g u ne).trans X
theorem two_put {w : World} {g h : Nat} {n : Int} {A A' B B' : Option Addr} {m m2 c c' d d' : Nat} {M : List Te} {b : World} (X : Box w g 24 #[.int .i64 n, .slice A m c]) (D : Box w h 24 #[.int .i64 n, .slice B m2 d]) (ne : g ≠ h) (O5 : Own47 w A' M) (O6 : Own47 w B' M) (K : Below b.heap.size b w) (hg : b.heap.size ≤ g) (hh : b.heap.size ≤ h) :
    Box ((((w.setCell ⟨g, 0, none⟩ (.int .i64 n)).setCell ⟨g, 1, none⟩ (.slice A' M.length c')).setCell ⟨h, 0, none⟩ (.int .i64 n)).setCell ⟨h, 1, none⟩ (.slice B' M.length d')).drew g 24 #[.int .i64 n, .slice A' M.length c']
    ∧ Box ((((w.setCell ⟨g, 0, none⟩ (.int .i64 n)).setCell ⟨g, 1, none⟩ (.slice A' M.length c')).setCell ⟨h, 0, none⟩ (.int .i64 n)).setCell ⟨h, 1, none⟩ (.slice B' M.length d')).drew h 24 #[.int .i64 n, .slice B' M.length d']
    ∧ Own47 ((((w.setCell ⟨g, 0, none⟩ (.int .i64 n)).setCell ⟨g, 1, none⟩ (.slice A' M.length c')).setCell ⟨h, 0, none⟩ (.int .i64 n)).setCell ⟨h, 1, none⟩ (.slice B' M.length d')).drew A' M
    ∧ Own47 ((((w.setCell ⟨g, 0, none⟩ (.int .i64 n)).setCell ⟨g, 1, none⟩ (.slice A' M.length c')).setCell ⟨h, 0, none⟩ (.int .i64 n)).setCell ⟨h, 1, none⟩ (.slice B' M.length d')).drew B' M
    ∧ Below b.heap.size b ((((w.setCell ⟨g, 0, none⟩ (.int .i64 n)).setCell ⟨g, 1, none⟩ (.slice A' M.length c')).setCell ⟨h, 0, none⟩ (.int .i64 n)).setCell ⟨h, 1, none⟩ (.slice B' M.length d')).drew := by
  obtain ⟨w1, h1⟩ : ∃ w1, w1 = w.setCell ⟨g, 0, none⟩ (.int .i64 n) := ⟨_, rfl⟩
  have X1 : Box w1 g 24 #[.int .i64 n, .slice A m c] := by rw [h1]; exact X.put 0 (.int .i64 n)
  have D1 : Box w1 h 24 #[.int .i64 n, .slice B m2 d] := by rw [h1]; exact D.aside ne.symm 0 _
  have P1 : Own47 w1 A' M := by rw [h1]; exact O5.boxset X 0 _
  have Q1 : Own47 w1 B' M := by rw [h1]; exact O6.boxset X 0 _
  have K1 : Below b.heap.size b w1 := by rw [h1]; exact bset K hg _
  rw [← h1]
  clear h1 X D O5 O6 K
  obtain ⟨w2, h2⟩ : ∃ w2, w2 = w1.setCell ⟨g, 1, none⟩ (.slice A' M.length c') := ⟨_, rfl⟩
  have X2 : Box w2 g 24 #[.int .i64 n, .slice A' M.length c'] := by rw [h2]; exact X1.put 1 (.slice A' M.length c')
  have D2 : Box w2 h 24 #[.int .i64 n, .slice B m2 d] := by rw [h2]; exact D1.aside ne.symm 1 _
  have P2 : Own47 w2 A' M := by rw [h2]; exact P1.boxset X1 1 _
  have Q2 : Own47 w2 B' M := by rw [h2]; exact Q1.boxset X1 1 _
  have K2 : Below b.heap.size b w2 := by rw [h2]; exact bset K1 hg _
  rw [← h2]
  clear h2 X1 D1 P1 Q1 K1
  obtain ⟨w3, h3⟩ : ∃ w3, w3 = w2.setCell ⟨h, 0, none⟩ (.int .i64 n) := ⟨_, rfl⟩
  have X3 : Box w3 g 24 #[.int .i64 n, .slice A' M.length c'] := by rw [h3]; exact X2.aside ne 0 _
  have D3 : Box w3 h 24 #[.int .i64 n, .slice B m2 d] := by rw [h3]; exact D2.put 0 (.int .i64 n)
  have P3 : Own47 w3 A' M := by rw [h3]; exact P2.boxset D2 0 _
  have Q3 : Own47 w3 B' M := by rw [h3]; exact Q2.boxset D2 0 _
  have K3 : Below b.heap.size b w3 := by rw [h3]; exact bset K2 hh _
  rw [← h3]
  clear h3 X2 D2 P2 Q2 K2
  obtain ⟨w4, h4⟩ : ∃ w4, w4 = w3.setCell ⟨h, 1, none⟩ (.slice B' M.length d') := ⟨_, rfl⟩
  have X4 : Box w4 g 24 #[.int .i64 n, .slice A' M.length c'] := by rw [h4]; exact X3.aside ne 1 _
  have D4 : Box w4 h 24 #[.int .i64 n, .slice B' M.length d'] := by rw [h4]; exact D3.put 1 (.slice B' M.length d')
  have P4 : Own47 w4 A' M := by rw [h4]; exact P3.boxset D3 1 _
  have Q4 : Own47 w4 B' M := by rw [h4]; exact Q3.boxset D3 1 _
  have K4 : Below b.heap.size b w4 := by rw [h4]; exact bset K3 hh _
  rw [← h4]
  clear h4 X3 D3 P3 Q3 K3
  have Z : Below w4.heap.size w4 w4.drew := below_drewN (brefl _) 1
  exact ⟨X4.below Z, D4.below Z, P4.below Z, Q4.below Z, btrans K4 Z⟩
theorem plays_many (sz : Int) (A : Option Addr) (O : List To) (c : Nat) (w : World) (h : 30 < O.length) (hn : O.length ≤ 9223372036854775807) :
    Calls Try.prog 7 #[.int .u8 sz, .slice A O.length c] w fun e w' => e = .returned (.bool true) ∧ Below w.heap.size w w' := by
  have hd : decide (30 < (O.length : Int)) = true := decide_eq_true (by omega)
  clear h
  go_enter Try.func7, Try.ntmps7
  go_wp2_with fail
  refine (awake _).mono ?_
  rintro e w1 ⟨rfl, hb⟩
  have K := hide hb
  clear hb
  go_wp2
  go_ret
  exact ⟨rfl, K.out⟩
set_option maxHeartbeats 8000000 in
set_option maxRecDepth 100000 in
theorem plays_few (sz : Int) (A : Option Addr) (O : List To) (c : Nat) (w : World) (h : O.length ≤ 30) (hr : Ops w A O) (hi : OpsIn O) (h0 : 0 ≤ sz) (h1 : sz ≤ 255) :
    Calls Try.prog 7 #[.int .u8 sz, .slice A O.length c] w fun e w' => e = .returned (.bool true) ∧ Below w.heap.size w w' := by
  have HR := hide hr
  have HI := hide hi
  have hd : decide (30 < (O.length : Int)) = false := decide_eq_false (by omega)
  have HN := hide (show 1 ≤ (1 + sz % 16) ∧ (1 + sz % 16) ≤ 16 by omega)
  have CN := hide (new_any (1 + sz % 16))
  have CR := hide (rnew_any (1 + sz % 16))
  rw [show szB (1 + sz % 16) = true by unfold szB; rw [decide_eq_true_eq]; omega, if_pos rfl, if_pos rfl] at CN CR
  have HZ := hide (show chkT (1 + sz % 16) [] = 0 from chkT_ok.2 ⟨by omega, by simp; omega, ⟨fun e he => by simp at he, List.Pairwise.nil⟩⟩)
  clear hr hi
  go_enter Try.func7, Try.ntmps7
  go_wp2_with fail
  refine (CN.out _).mono ?_
  rintro e w1 ⟨A1, c1, rfl, hown, hb⟩
  have HG1 := hide hb.size
  have K1 := hide (bal hb (.cells #[.int .i64 (1 + sz % 16), .slice A1 0 c1] 24))
  have B1 := hide (Box.new w1 24 #[.int .i64 (1 + sz % 16), .slice A1 0 c1])
  have T1 := hide ((TlbIn.of_own (L := []) hown (by simp) inw_nil).below (bal (brefl _) (.cells #[.int .i64 (1 + sz % 16), .slice A1 0 c1] 24)))
  clear hown hb
  go_wp2_with fail
  refine (CR.out _).mono ?_
  rintro e w2 ⟨A2, c2, rfl, hown, hb⟩
  obtain ⟨w3, hw3⟩ : ∃ w3, w3 = w2.alloc (.cells #[.int .i64 (1 + sz % 16), .slice A2 0 c2] 24) := ⟨_, rfl⟩
  have K3 := hide (show Below w.heap.size w w3 by rw [hw3]; exact bal (btrans K1.out hb) _)
  have B3 := hide (show Box w3 w1.heap.size 24 #[.int .i64 (1 + sz % 16), .slice A1 0 c1] by rw [hw3]; exact (B1.out.below hb).more _)
  have T3 := hide (show TlbIn w3 A1 [] c1 by rw [hw3]; exact (T1.out.below hb).below (bal (brefl _) _))
  have D3 := hide (show Box w3 w2.heap.size 24 #[.int .i64 (1 + sz % 16), .slice A2 0 c2] by rw [hw3]; exact Box.new _ _ _)
  have U3 := hide (show TlbIn w3 A2 [] c2 by rw [hw3]; exact (TlbIn.of_own (L := []) hown (by simp) inw_nil).below (bal (brefl _) _))
  have HG2 := hide (show w1.heap.size < w2.heap.size from Nat.lt_of_lt_of_le B1.out.lt hb.size)
  have HW3 := hide hw3
  clear hw3 hown hb
  go_wp2
  rw [← HW3.out]
  go_loopw [10] (fun i wr => ∃ (k : Nat) (M : List Te) (A' : Option Addr) (c' : Nat) (A'' : Option Addr) (c'' : Nat), k ≤ O.length ∧ i = .int .i64 k ∧ Hid (Box wr w1.heap.size 24 #[.int .i64 (1 + sz % 16), .slice A' M.length c']) ∧ Hid (Box wr w2.heap.size 24 #[.int .i64 (1 + sz % 16), .slice A'' M.length c'']) ∧ Hid (TlbIn wr A' M c' ∧ Own47 wr A' M) ∧ Hid (TlbIn wr A'' M c'' ∧ Own47 wr A'' M) ∧ Hid (chkT (1 + sz % 16) M = 0) ∧ Hid (Below w.heap.size w wr)) (fun i _ => O.length - (intOf i).toNat)
  case atStart => exact ⟨0, [], A1, c1, A2, c2, Nat.zero_le _, rfl, B3, D3, hide ⟨T3.out, fun h => absurd rfl h⟩, hide ⟨U3.out, fun h => absurd rfl h⟩, HZ, K3⟩
  case round =>
    obtain ⟨k, M, A', c', A'', c'', hk, rfl, BX, DX, TX, UX, CX, KX⟩ := hrel
    have x0 := BX.out.cell 0; have x1 := BX.out.cell 1; have xf0 := BX.out.frozen 0; have xf1 := BX.out.frozen 1; simp at x0 x1
    by_cases hlt : k < O.length
    · obtain ⟨b, off, rfl, hbl, o0, o1, o2, o3⟩ := HR.out.cells KX.out hlt
      have HOC := hide (fun (W : World) (hW : Below wr.heap.size wr W) => (HR.out.below KX.out).cells hW hlt)
      have hoi := HI.out.at_ hlt
      have D1 := hide (fun (W : World) (hW : Below wr.heap.size wr W) => do_any (1 + sz % 16) A' M c' (opAt O k).1 (opAt O k).2.1 (opAt O k).2.2.1 (opAt O k).2.2.2 W (TX.out.1.below hW) (TX.out.2.below hW) hoi.1 hoi.2)
      have D2 := hide (fun (W : World) (hW : Below wr.heap.size wr W) => rdo_any (1 + sz % 16) A'' M c'' (opAt O k).1 (opAt O k).2.1 (opAt O k).2.2.1 (opAt O k).2.2.2 W (UX.out.1.below hW) (UX.out.2.below hW) hoi.1 hoi.2)
      have CK := hide (doM_ok (k := (opAt O k).1) (s := (opAt O k).2.1) (p := (opAt O k).2.2.1) (W := (opAt O k).2.2.2) CX.out)
      generalize doM (1 + sz % 16) M (opAt O k).1 (opAt O k).2.1 (opAt O k).2.2.1 (opAt O k).2.2.2 = M2 at *
      generalize doE (1 + sz % 16) M (opAt O k).1 (opAt O k).2.1 (opAt O k).2.2.1 (opAt O k).2.2.2 = er at *
      generalize (opAt O k).1 = q0 at *
      generalize (opAt O k).2.1 = q1 at *
      generalize (opAt O k).2.2.1 = q2 at *
      generalize (opAt O k).2.2.2 = q3 at *
      have HML := hide (show M2.length ≤ 1000 by have := (chkT_ok.1 CK.out).2.1; have := HN.out; omega)
      have hk0 : (0 : Int) ≤ (k : Int) := by omega
      have hkl : (k : Int) < (O.length : Int) := by omega
      have ltX := BX.out.lt
      have ltD := DX.out.lt
      have ltb := Nat.lt_of_lt_of_le hbl KX.out.size
      clear hoi
      go_wp2
      have CE1 := hide (fun (W : World) (hW : Below wr.heap.size wr W) => show W.cell? ⟨w1.heap.size, 0, none⟩ = some (.int .i64 (1 + sz % 16)) ∧ W.cell? ⟨w1.heap.size, 1, none⟩ = some (.slice A' M.length c') ∧ W.cell? ⟨b, off + k * 4, none⟩ = some (.int .i64 q0) ∧ W.cell? ⟨b, off + k * 4 + 1, none⟩ = some (.int .i64 q1) ∧ W.cell? ⟨b, off + k * 4 + 2, none⟩ = some (.int .i64 q2) ∧ W.cell? ⟨b, off + k * 4 + 3, none⟩ = some (.int .u64 q3) by
        obtain ⟨b', off', e, _, h1, h2, h3, h4⟩ := HOC.out W hW
        injection e with e
        injection e with e1 e2
        subst e1 e2
        exact ⟨(BX.out.below hW).cell 0, (BX.out.below hW).cell 1, h1, h2, h3, h4⟩)
      have KK := hide (brefl wr)
      go_region_held3 (fun W => W.cell? ⟨w1.heap.size, 0, none⟩ = some (.int .i64 (1 + sz % 16)) ∧ W.cell? ⟨w1.heap.size, 1, none⟩ = some (.slice A' M.length c') ∧ W.cell? ⟨b, off + k * 4, none⟩ = some (.int .i64 q0) ∧ W.cell? ⟨b, off + k * 4 + 1, none⟩ = some (.int .i64 q1) ∧ W.cell? ⟨b, off + k * 4 + 2, none⟩ = some (.int .i64 q2) ∧ W.cell? ⟨b, off + k * 4 + 3, none⟩ = some (.int .u64 q3))
        ((exact CE1.out _ (by first | exact KK.out | exact below_drewN (KK.out) _ | exact bal (KK.out) _ | exact bal (below_drewN (KK.out) _) _ | exact below_drewN (bal (KK.out) _) _ | exact bset (bset (KK.out) (p := ⟨wr.heap.size, 0, none⟩) (Nat.le_refl _) _) (p := ⟨wr.heap.size, 1, none⟩) (Nat.le_refl _) _)))
        (first | (go_at_call 28; refine (D1.out _ (by first | exact brefl _ | exact below_drewN (brefl _) _ | exact below_drewN (bal (brefl _) _) _ | exact bal (below_drewN (brefl _) _) _)).mono ?_; rintro e w5 ⟨A5, c5, rfl, hT5, hO5, hb5⟩; have R5 := hide (show Below wr.heap.size wr w5 by first | exact hb5 | exact btrans (below_drewN (brefl _) _) hb5 | exact btrans (below_drewN (bal (brefl _) _) _) hb5 | exact btrans (bal (below_drewN (brefl _) _) _) hb5); replace KK := hide R5.out; have T5 := hide hT5; have O5 := hide hO5; (first | (have Z5 := hide (Box.below (Box.new wr 24 #[.int .i64 0, .slice none 0 0]) (show Below (wr.alloc (.cells #[.int .i64 0, .slice none 0 0] 24)).heap.size (wr.alloc (.cells #[.int .i64 0, .slice none 0 0] 24)) w5 by first | exact hb5 | exact btrans (below_drewN (brefl _) 1) hb5)); have z0 := Z5.out.cell 0; have z1 := Z5.out.cell 1; have zf0 := Z5.out.frozen 0; have zf1 := Z5.out.frozen 1; simp at z0 z1) | skip); clear hT5 hO5 hb5))
      all_goals
        (first
          | (obtain ⟨W5, hW5⟩ : ∃ W5, W5 = w5.alloc (.cells #[.int .i64 (1 + sz % 16), .slice A5 M2.length c5] 24) := ⟨_, rfl⟩
             obtain ⟨g5, hg5⟩ : ∃ g5, g5 = w5.heap.size := ⟨_, rfl⟩
             have E5 := hide (show Box W5 g5 24 #[.int .i64 (1 + sz % 16), .slice A5 M2.length c5] by rw [hW5, hg5]; exact Box.new _ _ _)
             have KA := hide (show Below wr.heap.size wr W5 by rw [hW5]; exact bal R5.out _)
             have OA := hide (show Own47 W5 A5 M2 by rw [hW5]; exact O5.out.below (bal (brefl _) _))
             have GG := hide (show wr.heap.size ≤ g5 by rw [hg5]; exact R5.out.size)
             rw [← hW5, ← hg5]
             clear hW5 hg5)
          | (obtain ⟨W5, hW5⟩ : ∃ W5, W5 = (w5.setCell ⟨wr.heap.size, 0, none⟩ (.int .i64 (1 + sz % 16))).setCell ⟨wr.heap.size, 1, none⟩ (.slice A5 M2.length c5) := ⟨_, rfl⟩
             obtain ⟨g5, hg5⟩ : ∃ g5, g5 = wr.heap.size := ⟨_, rfl⟩
             have E5 := hide (show Box W5 g5 24 #[.int .i64 (1 + sz % 16), .slice A5 M2.length c5] by rw [hW5, hg5]; exact (Z5.out.put 0 (.int .i64 (1 + sz % 16))).put 1 (.slice A5 M2.length c5))
             have KA := hide (show Below wr.heap.size wr W5 by rw [hW5]; exact bset (bset R5.out (Nat.le_refl _) _) (Nat.le_refl _) _)
             have OA := hide (show Own47 W5 A5 M2 by rw [hW5]; exact (O5.out.boxset Z5.out 0 _).boxset (Z5.out.put 0 (.int .i64 (1 + sz % 16))) 1 _)
             have GG := hide (show wr.heap.size ≤ g5 by rw [hg5]; exact Nat.le_refl _)
             clear z0 z1 zf0 zf1 Z5
             rw [← hW5, ← hg5]
             clear hW5 hg5))
        have C5 := hide (And.intro T5.out.cap (And.intro T5.out.big T5.out.inw))
        clear R5 O5 T5
        have DX5 := hide (DX.out.below KA.out)
        have d0 := DX5.out.cell 0
        have d1 := DX5.out.cell 1
        simp at d0 d1
        obtain ⟨b', off', eb, _, p0, p1, p2, p3⟩ := HOC.out _ KA.out
        injection eb with eb
        injection eb with eb1 eb2
        subst eb1 eb2
        have lt5 := DX5.out.lt
        have lt6 := Nat.lt_of_lt_of_le ltb KA.out.size
        clear x0 x1 xf0 xf1 o0 o1 o2 o3
        go_wp2_with fail
        have CE2 := hide (fun (W : World) (hW : Below W5.heap.size W5 W) => show W.cell? ⟨w2.heap.size, 0, none⟩ = some (.int .i64 (1 + sz % 16)) ∧ W.cell? ⟨w2.heap.size, 1, none⟩ = some (.slice A'' M.length c'') ∧ W.cell? ⟨b, off + k * 4, none⟩ = some (.int .i64 q0) ∧ W.cell? ⟨b, off + k * 4 + 1, none⟩ = some (.int .i64 q1) ∧ W.cell? ⟨b, off + k * 4 + 2, none⟩ = some (.int .i64 q2) ∧ W.cell? ⟨b, off + k * 4 + 3, none⟩ = some (.int .u64 q3) by
          obtain ⟨b', off', e, _, h1, h2, h3, h4⟩ := HOC.out W (btrans KA.out hW)
          injection e with e
          injection e with e1 e2
          subst e1 e2
          exact ⟨(DX5.out.below hW).cell 0, (DX5.out.below hW).cell 1, h1, h2, h3, h4⟩)
        have KK2 := hide (brefl W5)
        go_region_held3 (fun W => W.cell? ⟨w2.heap.size, 0, none⟩ = some (.int .i64 (1 + sz % 16)) ∧ W.cell? ⟨w2.heap.size, 1, none⟩ = some (.slice A'' M.length c'') ∧ W.cell? ⟨b, off + k * 4, none⟩ = some (.int .i64 q0) ∧ W.cell? ⟨b, off + k * 4 + 1, none⟩ = some (.int .i64 q1) ∧ W.cell? ⟨b, off + k * 4 + 2, none⟩ = some (.int .i64 q2) ∧ W.cell? ⟨b, off + k * 4 + 3, none⟩ = some (.int .u64 q3))
          ((exact CE2.out _ (by first | exact KK2.out | exact below_drewN (KK2.out) _ | exact bal (KK2.out) _ | exact bal (below_drewN (KK2.out) _) _ | exact below_drewN (bal (KK2.out) _) _ | exact bset (bset (KK2.out) (p := ⟨W5.heap.size, 0, none⟩) (Nat.le_refl _) _) (p := ⟨W5.heap.size, 1, none⟩) (Nat.le_refl _) _)))
          (first | (go_at_call 29; refine (D2.out _ (by first | exact KA.out | exact below_drewN KA.out _ | exact below_drewN (bal KA.out _) _ | exact bal (below_drewN KA.out _) _)).mono ?_; rintro e w6 ⟨A6, c6, rfl, hT6, hO6, hb6⟩; have R6 := hide (show Below W5.heap.size W5 w6 by first | exact hb6 | exact btrans (below_drewN (brefl _) _) hb6 | exact btrans (below_drewN (bal (brefl _) _) _) hb6 | exact btrans (bal (below_drewN (brefl _) _) _) hb6); replace KK2 := hide R6.out; have T6 := hide hT6; have O6 := hide hO6; (first | (have Z6 := hide (Box.below (Box.new W5 24 #[.int .i64 0, .slice none 0 0]) (show Below (W5.alloc (.cells #[.int .i64 0, .slice none 0 0] 24)).heap.size (W5.alloc (.cells #[.int .i64 0, .slice none 0 0] 24)) w6 by first | exact hb6 | exact btrans (below_drewN (brefl _) 1) hb6)); have z0 := Z6.out.cell 0; have z1 := Z6.out.cell 1; have zf0 := Z6.out.frozen 0; have zf1 := Z6.out.frozen 1; simp at z0 z1) | skip); clear hT6 hO6 hb6))
        all_goals
          (first
            | (obtain ⟨W6, hW6⟩ : ∃ W6, W6 = w6.alloc (.cells #[.int .i64 (1 + sz % 16), .slice A6 M2.length c6] 24) := ⟨_, rfl⟩
               obtain ⟨g6, hg6⟩ : ∃ g6, g6 = w6.heap.size := ⟨_, rfl⟩
               have F6 := hide (show Box W6 g6 24 #[.int .i64 (1 + sz % 16), .slice A6 M2.length c6] by rw [hW6, hg6]; exact Box.new _ _ _)
               have KR := hide (show Below W5.heap.size W5 W6 by rw [hW6]; exact bal R6.out _)
               have OB := hide (show Own47 W6 A6 M2 by rw [hW6]; exact O6.out.below (bal (brefl _) _))
               have GH := hide (show W5.heap.size ≤ g6 by rw [hg6]; exact R6.out.size)
               rw [← hW6, ← hg6]
               clear hW6 hg6)
            | (obtain ⟨W6, hW6⟩ : ∃ W6, W6 = (w6.setCell ⟨W5.heap.size, 0, none⟩ (.int .i64 (1 + sz % 16))).setCell ⟨W5.heap.size, 1, none⟩ (.slice A6 M2.length c6) := ⟨_, rfl⟩
               obtain ⟨g6, hg6⟩ : ∃ g6, g6 = W5.heap.size := ⟨_, rfl⟩
               have F6 := hide (show Box W6 g6 24 #[.int .i64 (1 + sz % 16), .slice A6 M2.length c6] by rw [hW6, hg6]; exact (Z6.out.put 0 (.int .i64 (1 + sz % 16))).put 1 (.slice A6 M2.length c6))
               have KR := hide (show Below W5.heap.size W5 W6 by rw [hW6]; exact bset (bset R6.out (Nat.le_refl _) _) (Nat.le_refl _) _)
               have OB := hide (show Own47 W6 A6 M2 by rw [hW6]; exact (O6.out.boxset Z6.out 0 _).boxset (Z6.out.put 0 (.int .i64 (1 + sz % 16))) 1 _)
               have GH := hide (show W5.heap.size ≤ g6 by rw [hg6]; exact Nat.le_refl _)
               clear z0 z1 zf0 zf1 Z6
               rw [← hW6, ← hg6]
               clear hW6 hg6))
          have C6 := hide (And.intro T6.out.cap (And.intro T6.out.big T6.out.inw))
          clear R6 O6 T6
          have KB := hide (btrans KA.out KR.out)
          have E6 := hide (E5.out.below KR.out)
          have O56 := hide (OA.out.below KR.out)
          have e0 := E6.out.cell 0
          have e1 := E6.out.cell 1
          have q0' := F6.out.cell 0
          have q1' := F6.out.cell 1
          simp at e0 e1 q0' q1'
          clear d0 d1 p0 p1 p2 p3
          go_wp2_with fail
          refine (same_eq (1 + sz % 16) A5 A6 M2 c5 c6 _ O56.out.ts OB.out.ts HML.out).mono ?_
          rintro e w7 ⟨rfl, hb7⟩
          have K7 := hide (btrans KB.out hb7)
          have E7 := hide (E6.out.below hb7)
          have F7 := hide (F6.out.below hb7)
          have O57 := hide (O56.out.below hb7)
          have O67 := hide (OB.out.below hb7)
          have B7 := hide (BX.out.below K7.out)
          have D7 := hide (DX.out.below K7.out)
          clear e0 e1 q0' q1' hb7
          have e0 := E7.out.cell 0; have e1 := E7.out.cell 1; have ef0 := E7.out.frozen 0; have ef1 := E7.out.frozen 1; simp at e0 e1
          have f0 := F7.out.cell 0; have f1 := F7.out.cell 1; have ff0 := F7.out.frozen 0; have ff1 := F7.out.frozen 1; simp at f0 f1
          have g0 := B7.out.cell 0; have g1 := B7.out.cell 1; have gf0 := B7.out.frozen 0; have gf1 := B7.out.frozen 1; simp at g0 g1
          have h0 := D7.out.cell 0; have h1 := D7.out.cell 1; have hf0 := D7.out.frozen 0; have hf1 := D7.out.frozen 1; simp at h0 h1
          have l1 := HG2.out
          have l2 := ltD
          have l3 := GG.out
          have l4 := E5.out.lt
          have l5 := GH.out
          have ne1 : w1.heap.size ≠ w2.heap.size := by omega
          have ne2 : w1.heap.size ≠ g5 := by omega
          have ne3 : w1.heap.size ≠ g6 := by omega
          have ne4 : w2.heap.size ≠ g5 := by omega
          have ne5 : w2.heap.size ≠ g6 := by omega
          have ne6 : g5 ≠ g6 := by omega
          go_wp2_with fail
          go_region
          all_goals
            go_wp2_with fail
            go_roundw
            case rel =>
              have P := two_put (c' := c5) (d' := c6) B7.out D7.out ne1 O57.out O67.out (btrans KX.out K7.out) HG1.out (Nat.le_trans HG1.out (Nat.le_of_lt l1))
              exact ⟨k + 1, M2, A5, c5, A6, c6, by omega, by go_num, hide P.1, hide P.2.1, hide ⟨⟨P.2.2.1.ts, C5.out.1, C5.out.2.1, C5.out.2.2⟩, P.2.2.1⟩, hide ⟨⟨P.2.2.2.1.ts, C6.out.1, C6.out.2.1, C6.out.2.2⟩, P.2.2.2.1⟩, CK, hide P.2.2.2.2⟩
            case measure => simp [intOf]; omega
    · have hkl : ¬ (k : Int) < (O.length : Int) := by omega
      go_wp2_with fail
      refine (awake _).mono ?_
      rintro e w9 ⟨rfl, hb9⟩
      have K9 := hide (btrans KX.out hb9)
      clear hb9
      go_wp2
      go_ret
      exact ⟨rfl, K9.out⟩
theorem law_plays (sz : Int) (A : Option Addr) (O : List To) (c : Nat) (w : World) (hn : O.length ≤ 9223372036854775807) (hr : Ops w A O) (hi : OpsIn O) (h0 : 0 ≤ sz) (h1 : sz ≤ 255) :
    Calls Try.prog 7 #[.int .u8 sz, .slice A O.length c] w fun e w' => e = .returned (.bool true) ∧ Below w.heap.size w w' := by
  by_cases h : 30 < O.length
  · exact plays_many sz A O c w h hn
  · exact plays_few sz A O c w (by omega) hr hi h0 h1
end Go.Proofs.Ythoeolaleeogbaa.Tb
