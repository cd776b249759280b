import Derived.Test.YtimclgmajhhheaaG13
namespace Go.Proofs.Ytimclgmajhhheaa.Gr
open Go Go.RowKit Ac
set_option linter.unusedVariables false
set_option linter.unusedSimpArgs false
theorem sv_7 {Q : List A4} {L : List A5} (h1 : ckQ Q = 0) (h2 : chE L = 0) (h3 : accs Q L) : svE Q L = 0 := by unfold svE; rw [if_pos h1, if_pos h2, if_pos h3]
theorem sv_no1 {Q : List A4} {L : List A5} (h1 : ckQ Q ≠ 0) : svE Q L ≠ 0 := by unfold svE; rw [if_neg h1]; exact h1
theorem sv_no2 {Q : List A4} {L : List A5} (h1 : ckQ Q = 0) (h2 : chE L ≠ 0) : svE Q L ≠ 0 := by unfold svE; rw [if_pos h1, if_neg h2]; exact h2
theorem sv_no3 {Q : List A4} {L : List A5} (h1 : ckQ Q = 0) (h2 : chE L = 0) (h3 : ¬ accs Q L) : svE Q L ≠ 0 := by unfold svE; rw [if_pos h1, if_pos h2, if_neg h3]; decide
theorem sum_bd {Q : List A4} (ok : aok Q) : ∀ j, j ≤ Q.length → (0 ≤ sumK Q j ∧ sumK Q j ≤ j * 1048576) ∧ 0 ≤ sumT Q j ∧ sumT Q j ≤ j * 2097152
  | 0, _ => by
    have e1 : sumK Q 0 = 0 := rfl
    have e2 : sumT Q 0 = 0 := rfl
    omega
  | j + 1, h => by
    obtain ⟨⟨a, b⟩, c, d⟩ := sum_bd ok j (by omega)
    have e1 : sumK Q (j + 1) = sumK Q j + (qAt Q j).ke := rfl
    have e2 : sumT Q (j + 1) = sumT Q j + ((qAt Q j).ke + (qAt Q j).us) := rfl
    have k := ok j (by omega)
    have k1 := k.2.2.1
    have k2 := k.2.2.2
    unfold inr at k1 k2
    rw [e1, e2]
    push_cast
    omega
theorem results_tmp5 {fn : Func} {a b c d e : Tmp} (h : fn.results = #[.tmp a, .tmp b, .tmp c, .tmp d, .tmp e]) (tmps : Array Value) (P : Program) (w : World) :
    (results fn tmps).run P w = .ok (.tuple #[tmps.getD a undef, tmps.getD b undef, tmps.getD c undef, tmps.getD d undef, tmps.getD e undef]) w := by
  simp [results, h]
theorem neq_of_le {a b : Int} (h : ¬ b ≤ a) : decide (b ≤ a) = false := decide_eq_false h
set_option maxRecDepth 100000 in
set_option maxHeartbeats 8000000 in
theorem valid_any (A : Option Addr) (cp : Nat) (Q : List A4) (B : Option Addr) (cq : Nat) (L : List A5) (w : World) (hq : Qs w A Q) (hr : As w B L) (hQ : Q.length ≤ 100) (hcq : L.length ≤ cq) (hL : L.length ≤ 9223372036854775807) : Calls Try.prog 34 #[.slice A Q.length cp, .slice B L.length cq] w fun e w' => e = .returned (.bool (decide (svE Q L = 0))) ∧ Below w.heap.size w w' := by
  have CK := hide (fun w' (h : Below w.heap.size w w') => qcheck_any A cp Q w' (hq.below h) (by omega))
  have AK := hide (fun w' (h : Below w.heap.size w w') => check_any B cq L w' (hr.below h) hcq hL)
  have HQ := hide hq
  have K := hide (brefl w)
  by_cases h1 : ckQ Q = 0
  rotate_left 1
  · rw [decide_eq_false (sv_no1 (L := L) h1)]
    have b := ne_bool h1
    generalize ckQ Q = z at *
    clear hq hr h1
    go_enter Try.func34, Try.ntmps34
    go_wp2_with fail
    refine (CK.out _ K.out).mono ?_
    rintro e w1 ⟨rfl, hb⟩
    replace K := hide (btrans K.out hb)
    clear hb
    go_wp2
    go_ret
    exact ⟨rfl, K.out⟩
  by_cases h2 : chE L = 0
  rotate_left 1
  · rw [decide_eq_false (sv_no2 h1 h2)]
    rw [h1] at CK
    have b := ne_bool h2
    generalize chE L = z at *
    clear hq hr h1 h2
    go_enter Try.func34, Try.ntmps34
    go_wp2_with fail
    refine (CK.out _ K.out).mono ?_
    rintro e w1 ⟨rfl, hb⟩
    replace K := hide (btrans K.out hb)
    clear hb
    go_wp2_with fail
    refine (AK.out _ K.out).mono ?_
    rintro e w2 ⟨rfl, hb⟩
    replace K := hide (btrans K.out hb)
    clear hb
    go_wp2
    go_ret
    exact ⟨rfl, K.out⟩
  have OK := hide (ckQ_ok h1).1
  have T1 := hide (fun (h : accs Q L) => decide_eq_true (sv_7 h1 h2 h))
  have T2 := hide (fun (h : ¬ accs Q L) => decide_eq_false (sv_no3 h1 h2 h))
  obtain ⟨res, hres⟩ : ∃ b, b = decide (svE Q L = 0) := ⟨_, rfl⟩
  rw [← hres] at T1 T2
  rw [← hres]
  rw [h1] at CK
  rw [h2] at AK
  clear hq hr h1 h2 hres
  go_enter Try.func34, Try.ntmps34
  go_wp2_with fail
  refine (CK.out _ K.out).mono ?_
  rintro e w1 ⟨rfl, hb⟩
  replace K := hide (btrans K.out hb)
  clear hb
  go_wp2_with fail
  refine (AK.out _ K.out).mono ?_
  rintro e w2 ⟨rfl, hb⟩
  replace K := hide (btrans K.out hb)
  clear hb
  clear CK AK
  go_wp2
  go_loopw [17, 6] (fun i _ wr => ∃ k : Nat, k ≤ Q.length ∧ i = .int .i64 k ∧ Hid (∀ j, j < k → (qAt Q j).ac < L.length) ∧ Hid (Below w.heap.size w wr)) (fun i _ _ => Q.length - (intOf i).toNat)
  case atStart => exact ⟨0, Nat.zero_le _, rfl, hide (fun j h => by omega), K⟩
  case round =>
    clear K
    obtain ⟨k, hk, rfl, N, K⟩ := hrel
    by_cases hlt : k < Q.length
    · have hl2 : (k : Int) < (Q.length : Int) := by omega
      have hk0 : (0 : Int) ≤ (k : Int) := by omega
      obtain ⟨b, off, rfl, hbl, y0, y1, y2, y3⟩ := HQ.out.cells K.out hlt
      have ok := OK.out k hlt
      have NX := hide (fun (h : (qAt Q k).ac < L.length) => all_next (P := fun j => (qAt Q j).ac < L.length) N.out h)
      have BD := hide (fun (h : ¬ (qAt Q k).ac < L.length) => T2.out (fun g => h (g k hlt)))
      have i0 := ok.2.1
      obtain ⟨a, ha⟩ : ∃ a, a = qAt Q k := ⟨_, rfl⟩
      rw [← ha] at y0 y1 y2 y3 NX BD i0
      obtain ⟨pc, ac, ke, us⟩ := a
      dsimp only at y0 y1 y2 y3 NX BD i0
      clear ha ok
      have X := hide (QB.new wr pc ac ke us)
      have M := bal (brefl wr) (.cells #[.int .i64 pc, .int .i64 ac, .int .i64 ke, .int .i64 us] 27)
      replace K := hide (btrans K.out M)
      clear M
      go_upto_region 6 with fail
      generalize wr.alloc (.cells #[.int .i64 pc, .int .i64 ac, .int .i64 ke, .int .i64 us] 27) = wa at *
      obtain ⟨x0, x1, x2, x3⟩ := QB.cells X.out
      clear y0 y1 y2 y3
      have j0 : ¬ ac < 0 := by omega
      by_cases h : ac < L.length
      · have G := hide (NX.out h)
        have h' : ¬ (L.length : Int) ≤ ac := by omega
        clear NX BD
        go_wp2
        go_roundw
        case rel => exact ⟨k + 1, by omega, by go_num, G, K⟩
        case measure => simp [intOf]; omega
      · have h' : (L.length : Int) ≤ ac := by omega
        have BB := hide (BD.out h)
        clear NX BD
        go_wp2
        go_ret
        exact ⟨by rw [BB.out]; rfl, K.out⟩
    · obtain rfl : k = Q.length := by omega
      have TT := hide (T1.out (fun j hj => N.out j hj))
      go_wp2
      go_ret
      exact ⟨by rw [TT.out]; rfl, K.out⟩
def SdR (k : Nat) (ke ta : Int) (n : Nat) (M : List A5) (w : World) (e : Ending) (w' : World) : Prop := ∃ A c, e = .returned (.tuple #[.int .i64 (k : Int), .int .i64 ke, .int .i64 ta, .slice A n c, .bool true]) ∧ OwA w.heap.size w' (.slice A n c) M ∧ Below w.heap.size w w'
set_option maxRecDepth 100000 in
set_option maxHeartbeats 8000000 in
theorem served_any (A : Option Addr) (cp : Nat) (Q : List A4) (B : Option Addr) (cq : Nat) (L : List A5) (n m : Int) (w : World) (hq : Qs w A Q) (hr : As w B L) (hQ : Q.length ≤ 100) (hcq : L.length ≤ cq) (hL : L.length ≤ 9223372036854775807) (hn : i64r n) (hm : i64r m) (hQc : Q.length ≤ cp) (h0 : svE Q L = 0) : Calls Try.prog 35 #[.slice A Q.length cp, .slice B L.length cq, .int .i64 n, .int .i64 m] w (SdR (svK Q L n m) (sumK Q (svK Q L n m)) (sumT Q (svK Q L n m)) L.length (svL Q L (svK Q L n m)) w) := by
  obtain ⟨e1, e2, e3⟩ := sv_ok h0
  have OKQ := (ckQ_ok e1).1
  have SA := svK_all Q L n m
  have LE := sv_vd (vd_of e2) OKQ e3 _ SA.2.1 SA.1
  have SB := hide (fun j (h : j ≤ svK Q L n m) => sum_bd OKQ j (by omega))
  have SVc := fun w' (h : Below w.heap.size w w') => serve_any A cp Q B cq L n m w' (hq.below h) (hr.below h) hQ hcq hL hn hm
  unfold SvR at SVc
  rw [h0, (sv_good h0).1, (sv_good h0).2] at SVc
  have HQ := hide hq
  have K := hide (brefl w)
  have SUK := hide (show ∀ j, sumK Q (j + 1) = sumK Q j + (qAt Q j).ke from fun j => rfl)
  have SUT := hide (show ∀ j, sumT Q (j + 1) = sumT Q j + ((qAt Q j).ke + (qAt Q j).us) from fun j => rfl)
  unfold SdR
  obtain ⟨k0, hk0⟩ : ∃ k, k = svK Q L n m := ⟨_, rfl⟩
  rw [← hk0] at SA LE SB SVc ⊢
  have hle := SA.2.1
  have hlen := LE.2
  obtain ⟨M, hM⟩ : ∃ M, M = svL Q L k0 := ⟨_, rfl⟩
  rw [← hM] at hlen SVc ⊢
  rw [hlen] at SVc
  have OKH := hide OKQ
  clear hk0 hM hlen LE SA e1 e2 e3 h0 hq hr OKQ
  replace SVc := hide SVc
  have hle2 : (k0 : Int) ≤ (Q.length : Int) := by omega
  have hle3 : (k0 : Int) ≤ (cp : Int) := by omega
  have hle4 : ¬ (Q.length : Int) < k0 := by omega
  have hle5 : ¬ (k0 : Int) < 0 := by omega
  go_enter Try.func35, Try.ntmps35
  go_wp2_with fail
  refine (SVc.out _ K.out).mono ?_
  rintro e w1 ⟨A1, c1, rfl, hO, hb⟩
  have O := hide hO
  have K1 := hide (brefl w1)
  clear hO
  replace K := hide (btrans K.out hb)
  clear hb
  clear SVc
  go_wp2
  go_loopw [48, 9, 10, 15] (fun i kv tv _ wr => ∃ j : Nat, j ≤ k0 ∧ i = .int .i64 j ∧ kv = .int .i64 (sumK Q j) ∧ tv = .int .i64 (sumT Q j) ∧ Hid (Below w.heap.size w wr) ∧ Hid (Below w1.heap.size w1 wr)) (fun i _ _ _ _ => k0 - (intOf i).toNat)
  case atStart => exact ⟨0, Nat.zero_le _, rfl, rfl, rfl, K, K1⟩
  case round =>
    clear K K1
    obtain ⟨j, hj, rfl, rfl, rfl, K, K1⟩ := hrel
    by_cases hlt : j < k0
    · have hl2 : (j : Int) < (k0 : Int) := by omega
      have hj0 : (0 : Int) ≤ (j : Int) := by omega
      obtain ⟨b, off, rfl, hbl, y0, y1, y2, y3⟩ := HQ.out.cells K.out (show j < Q.length by omega)
      have ok := OKH.out j (by omega)
      have i1 := ok.2.2.1
      have i2 := ok.2.2.2
      have s1 := SB.out j (by omega)
      have EK := SUK.out j
      have ET := SUT.out j
      obtain ⟨a, ha⟩ : ∃ a, a = qAt Q j := ⟨_, rfl⟩
      rw [← ha] at y0 y1 y2 y3 i1 i2 EK ET
      obtain ⟨pc, ac, ke, us⟩ := a
      dsimp only at y0 y1 y2 y3 i1 i2 EK ET
      replace EK := hide EK
      replace ET := hide ET
      clear ha ok
      unfold inr at i1 i2
      generalize sumK Q j = sk at *
      generalize sumT Q j = st at *
      have X := hide (QB.new wr pc ac ke us)
      have M1 := bal (brefl wr) (.cells #[.int .i64 pc, .int .i64 ac, .int .i64 ke, .int .i64 us] 27)
      replace K := hide (btrans K.out M1)
      replace K1 := hide (btrans K1.out M1)
      clear M1
      go_upto_region 7 with fail
      generalize wr.alloc (.cells #[.int .i64 pc, .int .i64 ac, .int .i64 ke, .int .i64 us] 27) = wa at *
      obtain ⟨x0, x1, x2, x3⟩ := QB.cells X.out
      clear y0 y1 y2 y3
      have w1 : IntKind.i64.wrap (sk + ke) = sk + ke := IntWalk.i64_in _ (by omega)
      have w2 : IntKind.i64.wrap (ke + us) = ke + us := IntWalk.i64_in _ (by omega)
      have w3 : IntKind.i64.wrap (st + (ke + us)) = st + (ke + us) := IntWalk.i64_in _ (by omega)
      go_wp2
      go_roundw
      case rel => exact ⟨j + 1, by omega, by go_num, by rw [EK.out], by rw [ET.out], K, K1⟩
      case measure => simp [intOf]; omega
    · obtain rfl : j = k0 := by omega
      have O1 := hide (row_below O.out K1.out)
      clear O
      go_wp2
      (try simp only [Exit.inBlock, Exit.then])
      refine bodyPost_ret (results_tmp5 rfl _ _ _) rfl ?_
      exact ⟨A1, c1, rfl, O1.out, K.out⟩
end Go.Proofs.Ytimclgmajhhheaa.Gr
