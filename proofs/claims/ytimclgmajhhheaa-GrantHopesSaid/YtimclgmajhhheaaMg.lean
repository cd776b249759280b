import Derived.Test.YtimclgmajhhheaaAd
import Derived.Laws.EntriesVeiled
namespace Go.Proofs.Ytimclgmajhhheaa.Ac
open Go Go.RowKit
set_option linter.unusedVariables false
set_option linter.unusedSimpArgs false
theorem quiet_more {P : Program} {f : FuncId} {args : Array Value} {w : World} {n : Nat} {v : Value}
    (h : Calls P f args (w.drewN n) fun e w' => e = .returned v ∧ ∃ q, w' = (w.drewN n).drewN q) : Calls P f args (w.drewN n) fun e w'' => e = .returned v ∧ ∃ m, w'' = w.drewN m :=
  h.mono fun _ _ ⟨he, q, hm⟩ => ⟨he, n + q, by rw [hm, World.drewN_drewN]⟩
theorem As.drew {w : World} {A : Option Addr} {L : List A5} (h : As w A L) (n : Nat) : As (w.drewN n) A L := h.below (below_drewN (brefl _) n)
theorem Bi.drew {w : World} {A : Option Addr} {l : Is} (h : Bi w A l) (n : Nat) : Bi (w.drewN n) A l := h.below (below_drewN (brefl _) n)
def c3 (a b : Int) : Int := if a < b then -1 else if b < a then 1 else 0
theorem nan_any (a : Int) (w : World) : Calls Try.prog 115 #[.int .i64 a] w fun e w' => e = .returned (.bool false) ∧ w = w' := by
  have d : (a != a) = false := by simp
  go_enter Try.func115, Try.ntmps115
  go_wp2
  go_ret
  exact ⟨rfl, rfl⟩
theorem cmp_any (a b : Int) (w : World) : Calls Try.prog 102 #[.int .i64 a, .int .i64 b] w fun e w' => e = .returned (.int .i64 (c3 a b)) ∧ w = w' := by
  have N := hide (fun a w => nan_any a w)
  by_cases h1 : a < b
  · have E := hide (show c3 a b = -1 from if_pos h1)
    go_enter Try.func102, Try.ntmps102
    go_wp2_with (go_at_call 115; refine (N.out _ _).mono ?_; rintro e w' ⟨rfl, rfl⟩)
    go_ret
    exact ⟨ret_int E.out.symm, rfl⟩
  · by_cases h2 : b < a
    · have E := hide (show c3 a b = 1 by unfold c3; rw [if_neg h1, if_pos h2])
      go_enter Try.func102, Try.ntmps102
      go_wp2_with (go_at_call 115; refine (N.out _ _).mono ?_; rintro e w' ⟨rfl, rfl⟩)
      go_ret
      exact ⟨ret_int E.out.symm, rfl⟩
    · have E := hide (show c3 a b = 0 by unfold c3; rw [if_neg h1, if_neg h2])
      go_enter Try.func102, Try.ntmps102
      go_wp2_with (go_at_call 115; refine (N.out _ _).mono ?_; rintro e w' ⟨rfl, rfl⟩)
      go_ret
      exact ⟨ret_int E.out.symm, rfl⟩
/-- the room of an account -/
def rm (L : List A5) (x : Int) : Int := mx L x.toNat - us L x.toNat
theorem rm_n (L : List A5) (k : Nat) : rm L k = mx L k - us L k := by unfold rm; rw [Int.toNat_natCast]
theorem rm_bd {L : List A5} (V : Vd L) {k : Nat} (hk : k < L.length) : inr (us L k) ∧ inr (mx L k) := ⟨(V.rg k hk).1.1, (V.rg k hk).2.2⟩
set_option maxHeartbeats 4000000 in
theorem room_any (g : Nat) (A : Option Addr) (cp : Nat) (L : List A5) (x : Int) (hx : 0 ≤ x ∧ x < L.length) (V : Vd L) (w : World) (X : w.cell? ⟨g, 0, none⟩ = some (.slice A L.length cp)) (hr : As w A L) :
    Calls Try.prog 99 #[.int .i64 x, .pointer (some ⟨g, 0, none⟩)] w fun e w' => e = .returned (.int .i64 (rm L x)) ∧ ∃ q, w' = w.drewN q := by
  obtain ⟨k, rfl⟩ := Int.eq_ofNat_of_zero_le hx.1
  have hk : k < L.length := by omega
  have hk2 : (k : Int) < (L.length : Int) := by omega
  have hk0 : (0 : Int) ≤ (k : Int) := by omega
  obtain ⟨b, off, rfl, hbl, y0, y1, y2, y3, y4⟩ := hr.cells (brefl _) hk
  have bd := rm_bd V hk
  unfold inr at bd
  have E := hide (rm_n L k)
  clear hr V hx y0 y2 y3
  generalize us L k = u at *
  generalize mx L k = m at *
  generalize L.length = n at *
  obtain ⟨b1, b2⟩ := bd
  go_enter Try.func99, Try.ntmps99
  go_wp2
  go_quiet (fail)
  go_wp2
  go_ret
  exact ⟨ret_int E.out.symm, _, rfl⟩
set_option maxHeartbeats 4000000 in
theorem cmpr_any (g8 g : Nat) (A : Option Addr) (cp : Nat) (L : List A5) (x y : Int) (hx : 0 ≤ x ∧ x < L.length) (hy : 0 ≤ y ∧ y < L.length) (V : Vd L) (w : World) (X8 : w.cell? ⟨g8, 0, none⟩ = some (.func (.func 99) #[] #[.pointer (some ⟨g, 0, none⟩)])) (X : w.cell? ⟨g, 0, none⟩ = some (.slice A L.length cp)) (hr : As w A L) :
    Calls Try.prog 101 #[.int .i64 x, .int .i64 y, .pointer (some ⟨g8, 0, none⟩)] w fun e w' => e = .returned (.int .i64 (c3 (rm L x) (rm L y))) ∧ ∃ q, w' = w.drewN q := by
  have KK := hide (fun (z : Int) (hz : 0 ≤ z ∧ z < L.length) n => room_any g A cp L z hz V (w.drewN n) X (hr.drew n))
  have HI := hide hx
  have HJ := hide hy
  have C := hide (fun a b w => cmp_any a b w)
  have eg : ∀ args w, (callFunc 99 args).run Try.prog w = .ok (.enter 99 args) w := Go.Proofs.enters_of Try.func99 (by kernel_rfl) rfl
  clear X hr hx hy V
  go_enter Try.func101, Try.ntmps101
  go_wp2
  go_quiet (first
    | (go_at_call 102; exact quiet_left (C.out _ _ _))
    | (go_at_call 99; exact quiet_more (KK.out _ (by first | exact HI.out | exact HJ.out) _)))
  go_wp2
  go_ret
  exact ⟨rfl, _, rfl⟩
theorem bst_snoc (L : List A5) (x : Int) : ∀ (Q : Is) (m : Int), bst L m (Q ++ [x]) = if rm L x < rm L (bst L m Q) then x else bst L m Q
  | [], m => rfl
  | y :: l, m => bst_snoc L x l _
theorem bst_one (L : List A5) (x : Int) : bst L x [x] = x := by show (if _ then x else x) = x; split <;> rfl
theorem bst_ok {L : List A5} {P : Is} (hP : ∀ x ∈ P, 0 ≤ x ∧ x < (L.length : Int)) (k : Nat) (h1 : 1 ≤ P.length) : 0 ≤ bst L (P.getD 0 0) (P.take k) ∧ bst L (P.getD 0 0) (P.take k) < (L.length : Int) := by
  have h := (bst_le (L := L) (P.take k) (P.getD 0 0)).2
  rcases List.mem_cons.1 h with e | e
  · rw [e]; exact hP _ (getD_mem (by omega))
  · exact hP _ (List.mem_of_mem_take e)
/-- the account with the least room -/
def MfP (L : List A5) (P : Is) (w : World) (e : Ending) (w' : World) : Prop := e = .returned (.int .i64 (bst L (P.getD 0 0) P)) ∧ Below w.heap.size w w'
set_option maxRecDepth 100000 in
set_option maxHeartbeats 4000000 in
theorem minf_any (AP : Option Addr) (c2 : Nat) (P : Is) (g8 g : Nat) (A : Option Addr) (cp : Nat) (L : List A5) (hP : ∀ x ∈ P, 0 ≤ x ∧ x < (L.length : Int)) (h1 : 1 ≤ P.length) (h9 : P.length ≤ 1000) (V : Vd L) (w : World) (hp : Bi w AP P)
    (X8 : Box w g8 101 #[.func (.func 99) #[] #[.pointer (some ⟨g, 0, none⟩)]]) (X : Box w g 35 #[.slice A L.length cp]) (hr : As w A L) :
    Calls Try.prog 100 #[.slice AP P.length c2, .func (.func 101) #[] #[.pointer (some ⟨g8, 0, none⟩)]] w (MfP L P w) := by
  have HP := hide hp
  have HH := hide hP
  have CR := hide (fun (x y : Int) (hx : 0 ≤ x ∧ x < L.length) (hy : 0 ≤ y ∧ y < L.length) w' (h : Below w.heap.size w w') => cmpr_any g8 g A cp L x y hx hy V w' ((X8.below h).cell 0) ((X.below h).cell 0) (hr.below h))
  have eg : ∀ args w, (callFunc 101 args).run Try.prog w = .ok (.enter 101 args) w := Go.Proofs.enters_of Try.func101 (by kernel_rfl) rfl
  have K0 := hide (brefl w)
  obtain ⟨b0, off0, hAP, hbl0, z0⟩ := hp.cells (brefl w) (show 0 < P.length by omega)
  rw [Nat.add_zero] at z0
  subst hAP
  have S0 := hide (show P.getD 0 0 = bst L (P.getD 0 0) (P.take 1) by rw [take_snocI P (show 0 < P.length by omega), List.take_zero, List.nil_append, bst_one])
  have OKB := hide (fun k => bst_ok hP k h1)
  have d1 : ¬ (P.length : Int) < 1 := by omega
  have h1i : (0 : Int) < (P.length : Int) := by omega
  clear hp hP X8 X hr
  unfold MfP
  generalize P.getD 0 0 = a at *
  go_enter Try.func100, Try.ntmps100
  go_wp2
  clear z0
  go_loopw [5, 6] (fun s c wr => ∃ (k : Nat) (m : Int), 1 ≤ k ∧ k ≤ P.length ∧ c = .int .i64 k ∧ s = .int .i64 m ∧ Hid (m = bst L a (P.take k)) ∧ Hid (Below w.heap.size w wr)) (fun _ c _ => P.length - (intOf c).toNat)
  case atStart => exact ⟨1, a, by omega, h1, rfl, rfl, S0, K0⟩
  case round =>
    clear S0 K0
    obtain ⟨k, m, hk1, hk, rfl, rfl, S, K⟩ := hrel
    by_cases hlt : k < P.length
    · have hl2 : (k : Int) < (P.length : Int) := by omega
      have hk0 : (0 : Int) ≤ (k : Int) := by omega
      obtain ⟨b, off, eA, hbl, y0⟩ := HP.out.cells K.out hlt
      injection eA with eA
      injection eA with e1 e2
      subst e1 e2
      have HX := hide (HH.out _ (getD_mem hlt))
      have HM := hide (OKB.out k)
      rw [← S.out] at HM
      have SN := hide (show bst L a (P.take (k + 1)) = if rm L (P.getD k 0) < rm L m then P.getD k 0 else m by rw [take_snocI P hlt, bst_snoc, ← S.out])
      generalize P.getD k 0 = z at *
      have C := hide (CR.out z m HX.out HM.out wr K.out)
      clear S
      by_cases hc : rm L z < rm L m
      · have E := hide (SN.out.trans (if_pos hc))
        rw [show c3 (rm L z) (rm L m) = -1 from if_pos hc] at C
        clear SN hc
        go_wp2_with fail
        refine C.out.mono ?_
        rintro e w' ⟨rfl, q, rfl⟩
        have KB := hide (btrans K.out (below_drewN (brefl wr) q))
        have y1 : (wr.drewN q).cell? ⟨b0, off0 + k, none⟩ = some (.int .i64 z) := y0
        clear C K y0
        generalize wr.drewN q = w2 at *
        go_wp2
        go_roundw
        case rel => exact ⟨k + 1, z, by omega, by omega, by go_num, rfl, hide E.out.symm, KB⟩
        case measure => simp [intOf]; omega
      · have E := hide (SN.out.trans (if_neg hc))
        obtain ⟨v, hv, hv0⟩ : ∃ v, c3 (rm L z) (rm L m) = v ∧ ¬ v < 0 := ⟨_, rfl, by unfold c3; rw [if_neg hc]; split <;> omega⟩
        rw [hv] at C
        clear SN hc hv
        go_wp2_with fail
        refine C.out.mono ?_
        rintro e w' ⟨rfl, q, rfl⟩
        have KB := hide (btrans K.out (below_drewN (brefl wr) q))
        clear C K y0
        generalize wr.drewN q = w2 at *
        go_wp2
        go_roundw
        case rel => exact ⟨k + 1, m, by omega, by omega, by go_num, rfl, hide E.out.symm, KB⟩
        case measure => simp [intOf]; omega
    · obtain rfl : k = P.length := by omega
      rw [List.take_length] at S
      go_wp2
      go_ret
      exact ⟨ret_int S.out, K.out⟩
theorem ret_iii {a b c a' b' c' : Int} (h1 : a = a') (h2 : b = b') (h3 : c = c') : Ending.returned (.tuple #[.int .i64 a, .int .i64 b, .int .i64 c]) = .returned (.tuple #[.int .i64 a', .int .i64 b', .int .i64 c']) := by rw [h1, h2, h3]
theorem mB_ok {L : List A5} {a : Int} (h : mE L a = 0) : mB L a = bst L a (pth L a) := if_pos h
theorem mM_ok {L : List A5} {a : Int} (h : mE L a = 0) : mM L a = rm L (mB L a) := if_pos h
theorem mB_no {L : List A5} {a : Int} (h : mE L a ≠ 0) : mB L a = 0 := if_neg h
theorem mM_no {L : List A5} {a : Int} (h : mE L a ≠ 0) : mM L a = 0 := if_neg h
theorem pth_0 {L : List A5} (V : Vd L) {a : Int} (h0 : 0 ≤ a) (h1 : a < L.length) : (pth L a).getD 0 0 = a := by
  obtain ⟨k, rfl⟩ := Int.eq_ofNat_of_zero_le h0
  rw [pth_cons V.tr V.len.2 (a := k) (by omega)]
  rfl
theorem mB_in {L : List A5} {a : Int} (h : mE L a = 0) : 0 ≤ mB L a ∧ mB L a < L.length := by
  have g := mE_ok h
  have V := vd_of g.1
  have b := bst_ok (fun x hx => (PIn.pth V g.2.1 g.2.2).mem x hx) (pth L a).length (pth_nlen g).1
  rw [List.take_length, pth_0 V g.2.1 g.2.2] at b
  rw [mB_ok h]; exact b
set_option maxRecDepth 100000 in
set_option maxHeartbeats 8000000 in
theorem margin_any (A : Option Addr) (cp : Nat) (L : List A5) (a : Int) (w : World) (hr : As w A L) (hcp : L.length ≤ cp) (hn : L.length ≤ 9223372036854775807) :
    Calls Try.prog 69 #[.slice A L.length cp, .int .i64 a] w fun e w' => e = .returned (.tuple #[.int .i64 (mM L a), .int .i64 (mB L a), .int .i64 (mE L a)]) ∧ Below w.heap.size w w' := by
  have X := hide (Box.new w 35 #[.slice A L.length cp])
  have K := hide (bal (brefl w) (.cells #[.slice A L.length cp] 35))
  obtain ⟨W0, hW0⟩ : ∃ W0, W0 = w.alloc (.cells #[.slice A L.length cp] 35) := ⟨_, rfl⟩
  rw [← hW0] at X K
  obtain ⟨g, hg⟩ : ∃ g, g = w.heap.size := ⟨_, rfl⟩
  rw [← hg] at X
  have HR := hide (fun w' (h : Below w.heap.size w w') => hr.below h)
  have C := hide (cacc_any A cp L a W0 (HR.out _ K.out) hcp hn)
  by_cases h : mE L a = 0
  · have q := mE_ok h
    have V := hide (vd_of q.1)
    have PT := hide (fun w' (h : Below w.heap.size w w') => path_any A cp L a w' (HR.out _ h) hcp hn)
    unfold PR at PT
    rw [pR_ok q] at PT
    have PN := pth_nlen q
    have PM := hide (fun x hx => (PIn.pth V.out q.2.1 q.2.2).mem x hx)
    have P0 := hide (pth_0 V.out q.2.1 q.2.2)
    have EB := hide (mB_ok h)
    have EM := hide (mM_ok h)
    have BI := hide (mB_in h)
    have EE := hide h
    rw [h] at C
    clear h q hr hcp
    generalize pth L a = P at *
    obtain ⟨PN1, PN8⟩ := PN
    have eg : ∀ args w, (callFunc 99 args).run Try.prog w = .ok (.enter 99 args) w := Go.Proofs.enters_of Try.func99 (by kernel_rfl) rfl
    go_enter Try.func69, Try.ntmps69
    go_upto_region 1 with fail
    rw [← hg, ← hW0]
    clear hg hW0
    have x0 := X.out.cell 0
    simp at x0
    go_wp2_with fail
    refine C.out.mono ?_
    rintro e w1 ⟨rfl, hb⟩
    replace K := hide (btrans K.out hb)
    replace X := hide (X.out.below hb)
    clear hb C x0
    go_upto_region 4 with fail
    have M := bal (brefl w1) (.cells #[.func (.func 99) #[] #[.pointer (some ⟨g, 0, none⟩)]] 101)
    have X8 := hide (Box.new w1 101 #[.func (.func 99) #[] #[.pointer (some ⟨g, 0, none⟩)]])
    replace K := hide (btrans K.out M)
    replace X := hide (X.out.below M)
    clear M
    go_upto_region 5 with fail
    obtain ⟨g8, hg8⟩ : ∃ g8, g8 = w1.heap.size := ⟨_, rfl⟩
    rw [← hg8] at X8 ⊢
    generalize w1.alloc (.cells #[.func (.func 99) #[] #[.pointer (some ⟨g, 0, none⟩)]] 101) = w2 at *
    clear hg8
    have x0 := X.out.cell 0
    simp at x0
    go_wp2_with fail
    refine (PT.out _ K.out).mono ?_
    rintro e w3 ⟨AP, c2, rfl, hO, hb⟩
    replace K := hide (btrans K.out hb)
    replace X := hide (X.out.below hb)
    replace X8 := hide (X8.out.below hb)
    have MF := hide (minf_any AP c2 P g8 g A cp L PM.out PN1 (by omega) V.out w3 (OwI.bi hO) X8.out X.out (HR.out _ K.out))
    unfold MfP at MF
    rw [P0.out, ← EB.out] at MF
    clear hb x0 hO PT
    go_wp2_with fail
    refine MF.out.mono ?_
    rintro e w4 ⟨rfl, hb⟩
    replace K := hide (btrans K.out hb)
    replace X := hide (X.out.below hb)
    replace X8 := hide (X8.out.below hb)
    have RA := hide (room_any g A cp L (mB L a) BI.out V.out w4 (X.out.cell 0) (HR.out _ K.out))
    have x8 := X8.out.cell 0
    simp at x8
    rw [← EM.out] at RA
    clear hb MF EB EM BI
    generalize hmb : mB L a = mb at *
    generalize hmm : mM L a = mm at *
    have HMB := hide hmb
    have HMM := hide hmm
    clear hmb hmm
    go_wp2_with fail
    refine RA.out.mono ?_
    rintro e w5 ⟨rfl, q, rfl⟩
    replace K := hide (btrans K.out (below_drewN (brefl w4) q))
    clear RA x8
    go_wp2
    go_ret3
    exact ⟨ret_iii HMM.out.symm HMB.out.symm EE.out.symm, K.out⟩
  · have EB := hide (mB_no h)
    have EM := hide (mM_no h)
    have de : (mE L a != 0) = true := by simpa using h
    clear h hr hcp
    generalize mE L a = ce at *
    go_enter Try.func69, Try.ntmps69
    go_upto_region 1 with fail
    rw [← hg, ← hW0]
    clear hg hW0
    have x0 := X.out.cell 0
    simp at x0
    go_wp2_with fail
    refine C.out.mono ?_
    rintro e w1 ⟨rfl, hb⟩
    replace K := hide (btrans K.out hb)
    clear hb C x0
    go_wp2
    go_ret3
    exact ⟨ret_iii EM.out.symm EB.out.symm rfl, K.out⟩
end Go.Proofs.Ytimclgmajhhheaa.Ac
