import Derived.Test.YtimclgmajhhheaaG9
namespace Go.Proofs.Ytimclgmajhhheaa.Gr
open Go Go.RowKit Ac
set_option linter.unusedVariables false
set_option linter.unusedSimpArgs false
theorem sv_ck {Q : List A4} {L : List A5} (h : ckQ Q ≠ 0) : svE Q L = ckQ Q := if_neg h
theorem sv_ac {Q : List A4} {L : List A5} (h : ckQ Q = 0) (h2 : chE L ≠ 0) : svE Q L = chE L := by unfold svE; rw [if_pos h, if_neg h2]
theorem sv_6 {Q : List A4} {L : List A5} (h : ckQ Q = 0) (h2 : chE L = 0) (h3 : ¬ accs Q L) : svE Q L = 6 := by unfold svE; rw [if_pos h, if_pos h2, if_neg h3]
theorem sv_0 {Q : List A4} {L : List A5} (h : ckQ Q = 0) (h2 : chE L = 0) (h3 : accs Q L) : svE Q L = 0 := by unfold svE; rw [if_pos h, if_pos h2, if_pos h3]
theorem sv_ok {Q : List A4} {L : List A5} (h : svE Q L = 0) : ckQ Q = 0 ∧ chE L = 0 ∧ accs Q L := by
  by_cases h1 : ckQ Q = 0
  · by_cases h2 : chE L = 0
    · by_cases h3 : accs Q L
      · exact ⟨h1, h2, h3⟩
      · rw [sv_6 h1 h2 h3] at h; omega
    · rw [sv_ac h1 h2] at h; exact absurd h h2
  · rw [sv_ck h1] at h; exact absurd h h1
def svN (Q : List A4) (L : List A5) (n m : Int) : Nat := if svE Q L = 0 then svK Q L n m else 0
def svR (Q : List A4) (L : List A5) (n m : Int) : List A5 := if svE Q L = 0 then svL Q L (svK Q L n m) else []
/-- what Serve answers -/
def SvR (k : Nat) (M : List A5) (er : Int) (w : World) (e : Ending) (w' : World) : Prop := ∃ A c, e = .returned (.tuple #[.int .i64 (k : Int), .slice A M.length c, .int .i64 er]) ∧ OwA w.heap.size w' (.slice A M.length c) M ∧ Below w.heap.size w w'
theorem sv_bad {Q : List A4} {L : List A5} {n m : Int} (h : svE Q L ≠ 0) : svN Q L n m = 0 ∧ svR Q L n m = [] := ⟨if_neg h, if_neg h⟩
theorem sv_good {Q : List A4} {L : List A5} {n m : Int} (h : svE Q L = 0) : svN Q L n m = svK Q L n m ∧ svR Q L n m = svL Q L (svK Q L n m) := ⟨if_pos h, if_pos h⟩
/-- what holds behind the first k asks -/
structure Sk (Q : List A4) (L : List A5) (n m : Int) (k : Nat) : Prop where
  vd : Vd (svL Q L k)
  len : (svL Q L k).length = L.length
  gr : ∀ j, j < k → gr Q L n m j
  n1 : n - sumK Q k ≤ n
  m1 : m - sumT Q k ≤ m
  n0 : n - sumK Q k = n ∨ 0 ≤ n - sumK Q k
  m0 : m - sumT Q k = m ∨ 0 ≤ m - sumT Q k
theorem sk_0 {Q : List A4} {L : List A5} {n m : Int} (V : Vd L) : Sk Q L n m 0 := ⟨V, rfl, fun j h => by omega, by show n - 0 ≤ n; omega, by show m - 0 ≤ m; omega, .inl (by show n - 0 = n; omega), .inl (by show m - 0 = m; omega)⟩
/-- what is asked for at place k, if it is granted -/
theorem sk_in {Q : List A4} {L : List A5} {n m : Int} {k : Nat} (S : Sk Q L n m k) (ok : okQ (qAt Q k)) (hac : (qAt Q k).ac < L.length) (hg : gr Q L n m k) :
    stp (svL Q L k) (tot (qAt Q k)) (pth (svL Q L k) (qAt Q k).ac) = -1 ∧ (qAt Q k).ke ≤ n - sumK Q k ∧ tot (qAt Q k) ≤ m - sumT Q k ∧ inr (tot (qAt Q k)) ∧ Vd (adL (svL Q L k) (qAt Q k).ac (tot (qAt Q k))) := by
  have g := sh_pos S.vd ok (by rw [S.len]; exact hac) hg
  have f := sh_fit S.vd ok (by rw [S.len]; exact hac) g.1
  exact ⟨g.1, g.2.1, g.2.2, f.1, f.2⟩
theorem sk_next {Q : List A4} {L : List A5} {n m : Int} {k : Nat} (S : Sk Q L n m k) (ok : okQ (qAt Q k)) (hac : (qAt Q k).ac < L.length) (hg : gr Q L n m k) : Sk Q L n m (k + 1) := by
  obtain ⟨g1, g2, g3, g4, g5⟩ := sk_in S ok hac hg
  have i1 := ok.2.2.1
  unfold inr at g4 i1
  have eK : sumK Q (k + 1) = sumK Q k + (qAt Q k).ke := rfl
  have eT : sumT Q (k + 1) = sumT Q k + tot (qAt Q k) := rfl
  have n1 := S.n1
  have m1 := S.m1
  exact ⟨g5, by show (adL _ _ _).length = _; rw [adL_len, S.len], fun j hj => if e : j = k then e ▸ hg else S.gr j (by omega), by omega, by omega, .inr (by omega), .inr (by omega)⟩
theorem fld38 (W : World) (c s : Int) (k : Bool) : (Instr.field 38 (.agg #[.int .i64 c, .int .i64 s, .bool k]) 0).run Try.prog W = .ok (.int .i64 c) W := by kernel_rfl
theorem cgR_ok {L : List A5} {a t : Int} (V : Vd L) (h0 : 0 ≤ a) (h1 : a < L.length) (ht : inr t) (hs : stp L t (pth L a) = -1) : cgE L a t = 0 ∧ cgB L a t = -1 ∧ cgL L a t = adL L a t :=
  cg_ok (by rw [arE_in (mE_0 (chE_0 V) ⟨h0, h1⟩), if_pos ht]) hs
set_option maxRecDepth 100000 in
set_option maxHeartbeats 8000000 in
theorem cserve_any (A : Option Addr) (cp : Nat) (Q : List A4) (B : Option Addr) (cq : Nat) (L : List A5) (w : World) (hq : Qs w A Q) (hr : As w B L) (hQ : Q.length ≤ 100) (hcq : L.length ≤ cq) (hL : L.length ≤ 9223372036854775807) : Calls Try.prog 78 #[.slice A Q.length cp, .slice B L.length cq] w fun e w' => e = .returned (.int .i64 (svE Q L)) ∧ Below w.heap.size w w' := by
  have X := hide (Box.new w 35 #[.slice B L.length cq])
  have K := hide (bal (brefl w) (.cells #[.slice B L.length cq] 35))
  obtain ⟨W0, hW0⟩ : ∃ W0, W0 = w.alloc (.cells #[.slice B L.length cq] 35) := ⟨_, rfl⟩
  rw [← hW0] at X K
  obtain ⟨g3, hg3⟩ : ∃ g, g = w.heap.size := ⟨_, rfl⟩
  rw [← hg3] at X
  have HW := hide hW0
  have HB := hide hg3
  clear hW0 hg3
  have CK := hide (fun w' (h : Below w.heap.size w w') => qcheck_any A cp Q w' (hq.below h) (by omega))
  have AK := hide (fun w' (h : Below w.heap.size w w') => check_any B cq L w' (hr.below h) hcq hL)
  have FC := hide (fun w' (h : Below w.heap.size w w') g (X : w'.cell? ⟨g, 0, none⟩ = some (.slice B L.length cq)) (hg : g < w'.heap.size) => far_cont A cp Q B cq L g w' (hq.below h) (by omega) X hg hL)
  have E1 := hide (fun (h : ckQ Q ≠ 0) => sv_ck (L := L) h)
  have E2 := hide (fun (h : ckQ Q = 0) (h2 : chE L ≠ 0) => sv_ac h h2)
  have E3 := hide (fun (h : ckQ Q = 0) (h2 : chE L = 0) h3 => sv_6 h h2 h3)
  have E4 := hide (fun (h : ckQ Q = 0) (h2 : chE L = 0) h3 => sv_0 h h2 h3)
  obtain ⟨se, hse⟩ : ∃ s, s = svE Q L := ⟨_, rfl⟩
  rw [← hse] at E1 E2 E3 E4 ⊢
  clear hse hr hq
  by_cases h1 : ckQ Q = 0
  rotate_left 1
  · have G := hide (E1.out h1)
    have b := ne_bool h1
    generalize ckQ Q = ce at *
    clear E1 E2 E3 E4 h1
    go_enter Try.func78, Try.ntmps78
    go_upto_region 1 with fail
    rw [← HW.out]
    go_wp2_with fail
    refine (CK.out _ K.out).mono ?_
    rintro e w2 ⟨rfl, hb⟩
    replace K := hide (btrans K.out hb)
    replace X := hide (X.out.below hb)
    clear hb
    go_wp2
    go_ret
    exact ⟨ret_int G.out.symm, K.out⟩
  rw [h1] at CK
  by_cases h2 : chE L = 0
  rotate_left 1
  · have G := hide (E2.out h1 h2)
    have b := ne_bool h2
    generalize chE L = ce at *
    clear E1 E2 E3 E4 h1 h2
    go_enter Try.func78, Try.ntmps78
    go_upto_region 1 with fail
    rw [← HW.out, ← HB.out]
    go_wp2_with fail
    refine (CK.out _ K.out).mono ?_
    rintro e w2 ⟨rfl, hb⟩
    replace K := hide (btrans K.out hb)
    replace X := hide (X.out.below hb)
    clear hb
    have x0 := Box.cell X.out 0
    simp at x0
    go_wp2_with fail
    refine (AK.out _ K.out).mono ?_
    rintro e w3 ⟨rfl, hb⟩
    replace K := hide (btrans K.out hb)
    clear hb
    go_wp2
    go_ret
    exact ⟨ret_int G.out.symm, K.out⟩
  rw [h2] at AK
  by_cases h3 : accs Q L
  · have G := hide (E4.out h1 h2 h3)
    rw [decide_eq_true h3] at FC
    clear E1 E2 E3 E4 h1 h2 h3
    go_enter Try.func78, Try.ntmps78
    go_upto_region 1 with fail
    rw [← HW.out, ← HB.out]
    go_wp2_with fail
    refine (CK.out _ K.out).mono ?_
    rintro e w2 ⟨rfl, hb⟩
    replace K := hide (btrans K.out hb)
    replace X := hide (X.out.below hb)
    clear hb
    have x0 := Box.cell X.out 0
    simp at x0
    go_wp2_with fail
    refine (AK.out _ K.out).mono ?_
    rintro e w3 ⟨rfl, hb⟩
    replace K := hide (btrans K.out hb)
    replace X := hide (X.out.below hb)
    clear hb
    clear x0
    go_wp2_with fail
    refine (FC.out _ K.out _ (Box.cell X.out 0) (Box.lt X.out)).mono ?_
    rintro e w4 ⟨rfl, hb⟩
    replace K := hide (btrans K.out hb)
    clear hb
    go_wp2
    go_ret
    exact ⟨ret_int G.out.symm, K.out⟩
  · have G := hide (E3.out h1 h2 h3)
    rw [decide_eq_false h3] at FC
    clear E1 E2 E3 E4 h1 h2 h3
    go_enter Try.func78, Try.ntmps78
    go_upto_region 1 with fail
    rw [← HW.out, ← HB.out]
    go_wp2_with fail
    refine (CK.out _ K.out).mono ?_
    rintro e w2 ⟨rfl, hb⟩
    replace K := hide (btrans K.out hb)
    replace X := hide (X.out.below hb)
    clear hb
    have x0 := Box.cell X.out 0
    simp at x0
    go_wp2_with fail
    refine (AK.out _ K.out).mono ?_
    rintro e w3 ⟨rfl, hb⟩
    replace K := hide (btrans K.out hb)
    replace X := hide (X.out.below hb)
    clear hb
    clear x0
    go_wp2_with fail
    refine (FC.out _ K.out _ (Box.cell X.out 0) (Box.lt X.out)).mono ?_
    rintro e w4 ⟨rfl, hb⟩
    replace K := hide (btrans K.out hb)
    clear hb
    go_wp2
    go_ret
    exact ⟨ret_int G.out.symm, K.out⟩
theorem owa_as {B c : Nat} {w : World} {A : Option Addr} {L : List A5} (h : OwA B w (.slice A L.length c) L) : As w A L ∧ L.length ≤ c := by
  obtain ⟨A', c', e, hc⟩ := row_form h
  injection e with _ _ e2
  subst e2
  exact ⟨OwA.as h, hc⟩
set_option maxRecDepth 100000 in
set_option maxHeartbeats 8000000 in
theorem serve_any (A : Option Addr) (cp : Nat) (Q : List A4) (B : Option Addr) (cq : Nat) (L : List A5) (n m : Int) (w : World) (hq : Qs w A Q) (hr : As w B L) (hQ : Q.length ≤ 100) (hcq : L.length ≤ cq) (hL : L.length ≤ 9223372036854775807) (hn : i64r n) (hm : i64r m) : Calls Try.prog 31 #[.slice A Q.length cp, .slice B L.length cq, .int .i64 n, .int .i64 m] w (SvR (svN Q L n m) (svR Q L n m) (svE Q L) w) := by
  have HQ := hide (fun w' (h : Below w.heap.size w w') => hq.below h)
  have CS := hide (fun w' (h : Below w.heap.size w w') => cserve_any A cp Q B cq L w' (hq.below h) (hr.below h) hQ hcq hL)
  have K := hide (brefl w)
  unfold SvR
  by_cases h0 : svE Q L = 0
  rotate_left 1
  · obtain ⟨b1, b2⟩ := sv_bad (n := n) (m := m) h0
    rw [b1, b2]
    have b := ne_bool h0
    generalize svE Q L = se at *
    clear b1 b2 h0 hq hr
    go_enter Try.func31, Try.ntmps31
    go_wp2_with fail
    refine (CS.out _ K.out).mono ?_
    rintro e w2 ⟨rfl, hb⟩
    replace K := hide (btrans K.out hb)
    clear hb
    go_wp2
    go_ret3
    exact ⟨none, 0, rfl, owa_nil _ _, K.out⟩
  obtain ⟨e1, e2, e3⟩ := sv_ok h0
  have V := vd_of e2
  have AO := hide (ckQ_ok e1).1
  have AC := hide e3
  have L8 := V.len
  have S0 := hide (sk_0 (Q := Q) (n := n) (m := m) V)
  have EG := sv_good (n := n) (m := m) h0
  have EKN := hide (fun k (h : svK Q L n m = k) => (⟨EG.1.trans h, EG.2.trans (by rw [h])⟩ : svN Q L n m = k ∧ svR Q L n m = svL Q L k))
  obtain ⟨sn, hsn⟩ : ∃ x, x = svN Q L n m := ⟨_, rfl⟩
  obtain ⟨sr, hsr⟩ : ∃ x, x = svR Q L n m := ⟨_, rfl⟩
  rw [← hsn, ← hsr] at EKN
  rw [h0, ← hsn, ← hsr]
  unfold i64r at hn hm
  clear hsn hsr EG e1 e3
  rw [h0] at CS
  have CL := hide (fun w' (h : Below w.heap.size w w') => clone_any B L cq w' (hr.below h) (by omega) L8.1)
  unfold LR at CL
  clear h0 hq hr e2 V
  go_enter Try.func31, Try.ntmps31
  go_wp2_with fail
  refine (CS.out _ K.out).mono ?_
  rintro e w2 ⟨rfl, hb⟩
  replace K := hide (btrans K.out hb)
  clear hb
  go_wp2_with fail
  refine (CL.out _ K.out).mono ?_
  rintro e w3 ⟨A1, c1, rfl, hO, hb⟩
  have O := hide (row_mono hO K.out.size)
  replace K := hide (btrans K.out hb)
  clear hb hO CL CS
  go_wp2
  go_loopw [25, 12, 2, 3, 13, 14] (fun i v nv mv _ _ wr => ∃ (k : Nat) (A1 : Option Addr) (c1 : Nat), k ≤ Q.length ∧ i = .int .i64 k ∧ v = .slice A1 (svL Q L k).length c1 ∧ nv = .int .i64 (n - sumK Q k) ∧ mv = .int .i64 (m - sumT Q k) ∧ Hid (OwA w.heap.size wr (.slice A1 (svL Q L k).length c1) (svL Q L k)) ∧ Hid (Below w.heap.size w wr) ∧ Hid (Sk Q L n m k)) (fun i _ _ _ _ _ _ => Q.length - (intOf i).toNat)
  case atStart => exact ⟨0, A1, c1, Nat.zero_le _, rfl, rfl, by show _ = Value.int .i64 (n - 0); simp, by show _ = Value.int .i64 (m - 0); simp, O, K, S0⟩
  case round =>
    clear K O S0
    obtain ⟨k, A1, c1, hk, rfl, rfl, rfl, rfl, O, K, S⟩ := hrel
    by_cases hlt : k < Q.length
    · have hl2 : (k : Int) < (Q.length : Int) := by omega
      have hk0 : (0 : Int) ≤ (k : Int) := by omega
      have hQk := S.out.vd.len.2
      have QK := hide ((HQ.out _ K.out).cells (brefl _) hlt)
      have ok := AO.out k hlt
      have hac := AC.out k hlt
      have SI := hide (fun hg => sk_in S.out ok hac hg)
      have SN := hide (fun hg => sk_next S.out ok hac hg)
      have SE := hide (fun (hg : ¬ gr Q L n m k) => EKN.out k (svK_eq S.out.gr (by omega) (fun _ => hg)))
      have NN := hide (sh_nn (n := n - sumK Q k) (m := m - sumT Q k) S.out.vd ok (by rw [S.out.len]; exact hac))
      have eL : svL Q L (k + 1) = adL (svL Q L k) (qAt Q k).ac (tot (qAt Q k)) := rfl
      have eK : sumK Q (k + 1) = sumK Q k + (qAt Q k).ke := rfl
      have eT : sumT Q (k + 1) = sumT Q k + tot (qAt Q k) := rfl
      have eG : gr Q L n m k = ((shS (qAt Q k) (svL Q L k) (n - sumK Q k) (m - sumT Q k)).c ≤ 0) := rfl
      have hlM := S.out.len
      have hV := S.out.vd
      have nb := S.out.n1
      have mb := S.out.m1
      have nc := S.out.n0
      have mc := S.out.m0
      have hlo : -9223372036854775808 ≤ n - sumK Q k := by omega
      have hlp : -9223372036854775808 ≤ m - sumT Q k := by omega
      rw [eG] at SI SN SE
      obtain ⟨a, ha⟩ : ∃ a, a = qAt Q k := ⟨_, rfl⟩
      obtain ⟨M, hM⟩ : ∃ M, M = svL Q L k := ⟨_, rfl⟩
      obtain ⟨nn, hnn⟩ : ∃ x, x = n - sumK Q k := ⟨_, rfl⟩
      obtain ⟨mm, hmm⟩ : ∃ x, x = m - sumT Q k := ⟨_, rfl⟩
      have eK2 : n - sumK Q (k + 1) = nn - (qAt Q k).ke := by omega
      have eT2 : m - sumT Q (k + 1) = mm - tot (qAt Q k) := by omega
      rw [← hM, ← hnn, ← hmm] at SI NN
      rw [← hM, ← hnn, ← hmm] at SN
      rw [← hM, ← hnn, ← hmm] at SE
      rw [← hM] at eL hlM hV
      rw [← hnn] at hlo nb nc
      rw [← hmm] at hlp mb mc
      rw [← hM] at O
      rw [← hM, ← hnn, ← hmm]
      rw [← ha] at QK ok hac SI SN SE NN eL eK2 eT2
      have EL := hide eL
      have LEM := hide hM
      have EK2 := hide eK2
      have ET2 := hide eT2
      clear eL eK eT eG eK2 eT2 ha hM hnn hmm S
      obtain ⟨pc, ac, ke, us⟩ := a
      dsimp only at QK hac SI SN SE NN EL EK2 ET2
      have TT : tot ⟨pc, ac, ke, us⟩ = ke + us := rfl
      rw [TT] at SI EL ET2
      clear TT
      obtain ⟨b, off, rfl, hbl, y0, y1, y2, y3⟩ := QK.out
      have i1 := ok.2.2.1
      have i2 := ok.2.2.2
      have i0 := ok.2.1
      unfold inr at i1 i2
      dsimp only at i1 i2 i0
      obtain ⟨a1, a2⟩ := i1
      obtain ⟨d1, d2⟩ := i2
      have TQ := hide (fun w => tot_q pc ac ke us w ok)
      obtain ⟨hA1, hcM⟩ := owa_as O.out
      have Mm := bal (brefl wr) (.cells #[.int .i64 pc, .int .i64 ac, .int .i64 ke, .int .i64 us] 27)
      have X := hide (QB.new wr pc ac ke us)
      have SC := hide (fun w' (h : Below wr.heap.size wr w') => shortage_any pc ac ke us A1 c1 M nn mm w' (hA1.below h) hcM hV ok (by omega))
      have CG := hide (fun (hs : stp M (ke + us) (pth M ac) = -1) (ht : inr (ke + us)) w' (h : Below wr.heap.size wr w') => charge_any A1 c1 M ac (ke + us) w' (hA1.below h) hcM (by omega))
      have CO := hide (fun (hs : stp M (ke + us) (pth M ac) = -1) (ht : inr (ke + us)) => cgR_ok hV i0 (show ac < M.length by omega) ht hs)
      have KR := hide Mm
      replace K := hide (btrans K.out Mm)
      replace O := hide (row_below O.out Mm)
      clear Mm hA1 ok hlM nc mc hV
      go_upto_region 8 with fail
      obtain ⟨b14, hb14⟩ : ∃ x, x = wr.heap.size := ⟨_, rfl⟩
      rw [← hb14] at X ⊢
      clear hb14 y0 y1 y2 y3
      generalize wr.alloc (.cells #[.int .i64 pc, .int .i64 ac, .int .i64 ke, .int .i64 us] 27) = wa at *
      obtain ⟨ss, hss⟩ : ∃ s, s = shS ⟨pc, ac, ke, us⟩ M nn mm := ⟨_, rfl⟩
      rw [← hss] at SC SI SN SE NN
      clear hss
      obtain ⟨s0, s1, s2⟩ := ss
      dsimp only at SC SI SN SE NN
      obtain ⟨x0, x1, x2, x3⟩ := QB.cells X.out
      go_wp2_with fail
      refine (SC.out _ KR.out).mono ?_
      rintro e wb ⟨rfl, hb⟩
      replace K := hide (btrans K.out hb)
      replace KR := hide (btrans KR.out hb)
      replace X := hide (X.out.below hb)
      replace O := hide (row_below O.out hb)
      clear hb x0 x1 x2 x3 SC
      have hfld := fld38
      by_cases hc : 0 < s0
      · have EN := hide (SE.out (by omega)).1
        have ER := hide (SE.out (by omega)).2
        clear SE SI SN NN CG CO
        go_wp2
        go_ret3
        refine ⟨A1, c1, ?_, ?_, K.out⟩
        · rw [EN.out, ER.out, LEM.out]; rfl
        · rw [ER.out]; exact O.out
      · obtain ⟨g1, g2, g3, g4, g5⟩ := SI.out (by omega)
        have S' := hide (SN.out (by omega))
        have co := CO.out g1 g4
        have CG2 := hide (CG.out g1 g4)
        unfold CgR at CG2
        rw [co.1, co.2.1, co.2.2, ← EL.out] at CG2
        have hlen2 := hide (show (svL Q L (k + 1)).length ≤ 8 from S'.out.vd.len.2)
        have hc' : ¬ 0 < s0 := hc
        clear SE SI SN NN CG CO hc g1 g5 co
        go_upto_region 10 with fail
        replace K := hide (show Below w.heap.size w wb.drew from btrans K.out (below_drewN (brefl _) 1))
        replace KR := hide (show Below wr.heap.size wr wb.drew from btrans KR.out (below_drewN (brefl _) 1))
        replace X := hide (X.out.below (show Below wb.heap.size wb wb.drew from below_drewN (brefl _) 1))
        refine wp_region_noPanic ?_
        refine wp_region_held_drew (S := (fun W => W.cell? ⟨b14, 0, none⟩ = some (.int .i64 pc) ∧ W.cell? ⟨b14, 1, none⟩ = some (.int .i64 ac) ∧ W.cell? ⟨b14, 2, none⟩ = some (.int .i64 ke) ∧ W.cell? ⟨b14, 3, none⟩ = some (.int .i64 us))) (by kernel_rfl) ?_ (fun hHeld => ?_)
        · exact QB.cells X.out
        refine wpAnyH_take (i := 0) (oi := ⟨some 40, _, _, _, _, _⟩) (v := ?_) rfl (by kernel_rfl) (by kernel_rfl) (by kernel_rfl) (fun _ _ _ h => h) (Or.inl ⟨by kernel_rfl, ?_⟩) (by assumption) ?_
        rotate_left 1
        · (intro w hSw; (try dsimp only at hSw); go_simp) <;> (with_reducible rfl)
        (try simp only [Act.put, List.setIfInBounds_toArray, List.set_cons_succ, List.set_cons_zero])
        refine wpAnyH_take (i := 1) (oi := ⟨some 41, _, _, _, _, _⟩) (v := ?_) rfl (by kernel_rfl) (by kernel_rfl) (by kernel_rfl) (fun _ _ _ h => h) (Or.inl ⟨by kernel_rfl, ?_⟩) (by assumption) ?_
        rotate_left 1
        · (intro w hSw; (try dsimp only at hSw); go_simp) <;> (with_reducible rfl)
        (try simp only [Act.put, List.setIfInBounds_toArray, List.set_cons_succ, List.set_cons_zero])
        refine wpAnyH_take (i := 2) (oi := ⟨some 42, _, _, _, _, _⟩) (v := ?_) rfl (by kernel_rfl) (by kernel_rfl) (by kernel_rfl) (fun _ _ _ h => h) (Or.inl ⟨by kernel_rfl, ?_⟩) (by assumption) ?_
        rotate_left 1
        · (intro w hSw; (try dsimp only at hSw); go_simp) <;> (with_reducible rfl)
        (try simp only [Act.put, List.setIfInBounds_toArray, List.set_cons_succ, List.set_cons_zero])
        refine wpAnyH_take (i := 3) (oi := ⟨some 43, _, _, _, _, _⟩) (v := ?_) rfl (by kernel_rfl) (by kernel_rfl) (by kernel_rfl) (fun _ _ _ h => h) (Or.inl ⟨by kernel_rfl, ?_⟩) (by assumption) ?_
        rotate_left 1
        · (intro w hSw; (try dsimp only at hSw); go_simp) <;> (with_reducible rfl)
        (try simp only [Act.put, List.setIfInBounds_toArray, List.set_cons_succ, List.set_cons_zero])
        refine wpAnyH_ready (rs := [4]) (by kernel_rfl) (by simp) ?_
        refine AllReadyH.cons (o := ⟨some 44, _, _, _, _, _⟩) rfl (fun K' hK => ?_) AllReadyH.nil
        go_simp
        refine (TQ.out _).mono ?_
        rintro e wc ⟨rfl, hb⟩
        replace K := hide (btrans K.out hb)
        replace KR := hide (btrans KR.out hb)
        replace X := hide (X.out.below hb)
        clear hb
        refine hK.out _ _ ?_ (fun hHeld => ?_)
        · exact QB.cells X.out
        clear hK K'
        (try simp only [Act.put, List.setIfInBounds_toArray, List.set_cons_succ, List.set_cons_zero])
        refine wpAnyH_ready (rs := [5]) (by kernel_rfl) (by simp) ?_
        refine AllReadyH.cons (o := ⟨some 45, _, _, _, _, _⟩) rfl (fun K' hK => ?_) AllReadyH.nil
        go_simp
        refine (CG2.out _ KR.out).mono ?_
        rintro e wd ⟨A2, c2, rfl, hO, hb⟩
        have O2 := hide (row_mono hO K.out.size)
        replace K := hide (btrans K.out hb)
        replace X := hide (X.out.below hb)
        replace KR := hide (btrans KR.out hb)
        clear hb hO
        refine hK.out _ _ ?_ (fun hHeld => ?_)
        · exact QB.cells X.out
        clear hK K'
        (try simp only [Act.put, List.setIfInBounds_toArray, List.set_cons_succ, List.set_cons_zero])
        refine wpAnyH_take (i := 6) (oi := ⟨some 39, _, _, _, _, _⟩) (v := ?_) rfl (by kernel_rfl) (by kernel_rfl) (by kernel_rfl) (fun _ _ _ h => h) (Or.inl ⟨by kernel_rfl, ?_⟩) (by assumption) ?_
        rotate_left 1
        · (intro w hSw; (try dsimp only at hSw); go_simp) <;> (with_reducible rfl)
        (try simp only [Act.put, List.setIfInBounds_toArray, List.set_cons_succ, List.set_cons_zero])
        refine wpAnyH_take (i := 7) (oi := ⟨some 46, _, _, _, _, _⟩) (v := ?_) rfl (by kernel_rfl) (by kernel_rfl) (by kernel_rfl) (fun _ _ _ h => h) (Or.inl ⟨by kernel_rfl, ?_⟩) (by assumption) ?_
        rotate_left 1
        · (intro w hSw; (try dsimp only at hSw); go_simp) <;> (with_reducible rfl)
        (try simp only [Act.put, List.setIfInBounds_toArray, List.set_cons_succ, List.set_cons_zero])
        refine wpAnyH_take (i := 8) (oi := ⟨some 47, _, _, _, _, _⟩) (v := ?_) rfl (by kernel_rfl) (by kernel_rfl) (by kernel_rfl) (fun _ _ _ h => h) (Or.inl ⟨by kernel_rfl, ?_⟩) (by assumption) ?_
        rotate_left 1
        · (intro w hSw; (try dsimp only at hSw); go_simp) <;> (with_reducible rfl)
        (try simp only [Act.put, List.setIfInBounds_toArray, List.set_cons_succ, List.set_cons_zero])
        refine wpAnyH_take (i := 9) (oi := ⟨some 48, _, _, _, _, _⟩) (v := ?_) rfl (by kernel_rfl) (by kernel_rfl) (by kernel_rfl) (fun _ _ _ h => h) (Or.inl ⟨by kernel_rfl, ?_⟩) (by assumption) ?_
        rotate_left 1
        · (intro w hSw; (try dsimp only at hSw); go_simp) <;> (with_reducible rfl)
        (try simp only [Act.put, List.setIfInBounds_toArray, List.set_cons_succ, List.set_cons_zero])
        refine wpAnyH_take (i := 10) (oi := ⟨some 12, _, _, _, _, _⟩) (v := ?_) rfl (by kernel_rfl) (by kernel_rfl) (by kernel_rfl) (fun _ _ _ h => h) (Or.inl ⟨by kernel_rfl, ?_⟩) (by assumption) ?_
        rotate_left 1
        · (intro w hSw; (try dsimp only at hSw); go_simp) <;> (with_reducible rfl)
        (try simp only [Act.put, List.setIfInBounds_toArray, List.set_cons_succ, List.set_cons_zero])
        refine wpAnyH_done (by kernel_rfl) ?_ _
        refine NoPanic.normal ?_
        obtain ⟨x0, x1, x2, x3⟩ := QB.cells X.out
        go_wp2_with fail
        refine (TQ.out _).mono ?_
        rintro e we ⟨rfl, hb⟩
        replace K := hide (btrans K.out hb)
        replace O2 := hide (row_below O2.out hb)
        clear hb
        go_wp2
        go_roundw
        case rel => exact ⟨k + 1, A2, c2, by omega, by go_num, rfl, by rw [EK2.out], by rw [ET2.out], O2, K, S'⟩
        case measure => simp [intOf]; omega
    · obtain rfl : k = Q.length := by omega
      have EN := hide (EKN.out _ (svK_eq S.out.gr (Nat.le_refl _) (fun h => by omega))).1
      have ER := hide (EKN.out _ (svK_eq S.out.gr (Nat.le_refl _) (fun h => by omega))).2
      clear EKN
      go_wp2
      go_ret3
      refine ⟨A1, c1, ?_, ?_, K.out⟩
      · rw [EN.out, ER.out]; rfl
      · rw [ER.out]; exact O.out
end Go.Proofs.Ytimclgmajhhheaa.Gr
