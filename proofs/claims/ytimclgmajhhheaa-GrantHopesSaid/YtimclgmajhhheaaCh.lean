import Derived.Test.YtimclgmajhhheaaMg
namespace Go.Proofs.Ytimclgmajhhheaa.Ac
open Go Go.RowKit
set_option linter.unusedVariables false
set_option linter.unusedSimpArgs false
theorem stp_at {L : List A5} {n : Int} : ∀ {P : Is} {k : Nat}, k < P.length → (∀ j, j < k → ¬ rm L (P.getD j 0) < n) → rm L (P.getD k 0) < n → stp L n P = P.getD k 0
  | x :: l, 0, _, _, h => if_pos h
  | x :: l, k + 1, hk, hb, h => by
    have e : stp L n (x :: l) = stp L n l := if_neg (hb 0 (by omega))
    rw [e]
    exact stp_at (P := l) (k := k) (by simpa using hk) (fun j hj => hb (j + 1) (by omega)) h
theorem stp_none {L : List A5} {n : Int} : ∀ {P : Is}, (∀ j, j < P.length → ¬ rm L (P.getD j 0) < n) → stp L n P = -1
  | [], _ => rfl
  | x :: l, hb => by
    have e : stp L n (x :: l) = stp L n l := if_neg (hb 0 (by simp))
    rw [e]
    exact stp_none (P := l) (fun j hj => hb (j + 1) (by simpa using hj))
set_option maxHeartbeats 4000000 in
theorem stop_any (g5 g : Nat) (A : Option Addr) (cp : Nat) (L : List A5) (x n : Int) (hx : 0 ≤ x ∧ x < L.length) (V : Vd L) (w : World) (X5 : w.cell? ⟨g5, 0, none⟩ = some (.int .i64 n)) (X : w.cell? ⟨g, 0, none⟩ = some (.slice A L.length cp)) (hr : As w A L) :
    Calls Try.prog 110 #[.int .i64 x, .pointer (some ⟨g5, 0, none⟩), .pointer (some ⟨g, 0, none⟩)] w fun e w' => e = .returned (.bool (decide (rm L x < n))) ∧ ∃ q, w' = w.drewN q := by
  obtain ⟨k, rfl⟩ := Int.eq_ofNat_of_zero_le hx.1
  have hk : k < L.length := by omega
  have hk2 : (k : Int) < (L.length : Int) := by omega
  have hk0 : (0 : Int) ≤ (k : Int) := by omega
  obtain ⟨b, off, rfl, hbl, y0, y1, y2, y3, y4⟩ := hr.cells (brefl _) hk
  have bd := rm_bd V hk
  unfold inr at bd
  have E := hide (rm_n L k)
  clear hr V hx y0 y2 y3
  generalize us L k = u at *
  generalize mx L k = m at *
  generalize L.length = q at *
  obtain ⟨b1, b2⟩ := bd
  by_cases h : m - u < n
  · have E2 := hide (decide_eq_true (show rm L k < n by rw [E.out]; exact h))
    go_enter Try.func110, Try.ntmps110
    go_wp2
    go_quiet (fail)
    go_wp2
    go_ret
    exact ⟨ret_bool E2.out.symm, _, rfl⟩
  · have E2 := hide (decide_eq_false (show ¬ rm L k < n by rw [E.out]; exact h))
    have hd := decide_eq_false h
    go_enter Try.func110, Try.ntmps110
    go_wp2
    go_quiet (fail)
    go_wp2
    go_ret
    exact ⟨ret_bool E2.out.symm, _, rfl⟩
/-- the place of the first account on a path that does not permit n -/
def IfP (L : List A5) (n : Int) (P : Is) (w : World) (e : Ending) (w' : World) : Prop := ∃ i : Int, e = .returned (.int .i64 i) ∧ ((i = -1 ∧ stp L n P = -1) ∨ (∃ j, j < P.length ∧ i = (j : Nat) ∧ P.getD j 0 = stp L n P ∧ 0 ≤ stp L n P)) ∧ Below w.heap.size w w'
set_option maxRecDepth 100000 in
set_option maxHeartbeats 4000000 in
theorem ifun_any (AP : Option Addr) (c2 : Nat) (P : Is) (g5 g : Nat) (A : Option Addr) (cp : Nat) (L : List A5) (n : Int) (hP : ∀ x ∈ P, 0 ≤ x ∧ x < (L.length : Int)) (h9 : P.length ≤ 1000) (V : Vd L) (w : World) (hp : Bi w AP P)
    (X5 : Box w g5 3 #[.int .i64 n]) (X : Box w g 35 #[.slice A L.length cp]) (hr : As w A L) :
    Calls Try.prog 107 #[.slice AP P.length c2, .func (.func 110) #[] #[.pointer (some ⟨g5, 0, none⟩), .pointer (some ⟨g, 0, none⟩)]] w (IfP L n P w) := by
  have HP := hide hp
  have HH := hide hP
  have CR := hide (fun (x : Int) (hx : 0 ≤ x ∧ x < L.length) w' (h : Below w.heap.size w w') => stop_any g5 g A cp L x n hx V w' ((X5.below h).cell 0) ((X.below h).cell 0) (hr.below h))
  have eg : ∀ args w, (callFunc 110 args).run Try.prog w = .ok (.enter 110 args) w := Go.Proofs.enters_of Try.func110 (by kernel_rfl) rfl
  have K0 := hide (brefl w)
  clear hp hP X5 X hr V
  unfold IfP
  go_enter Try.func107, Try.ntmps107
  go_wp2
  go_loopw [5, 8] (fun _ c wr => ∃ k : Nat, k ≤ P.length ∧ c = .int .i64 k ∧ Hid (∀ j, j < k → n ≤ rm L (P.getD j 0)) ∧ Hid (Below w.heap.size w wr)) (fun _ c _ => P.length - (intOf c).toNat)
  case atStart => exact ⟨0, Nat.zero_le _, rfl, hide (fun j h => by omega), K0⟩
  case round =>
    clear K0
    obtain ⟨k, hk, rfl, N, K⟩ := hrel
    by_cases hlt : k < P.length
    · have hl2 : (k : Int) < (P.length : Int) := by omega
      have hk0 : (0 : Int) ≤ (k : Int) := by omega
      obtain ⟨b, off, rfl, hbl, y0⟩ := HP.out.cells K.out hlt
      have C := hide (CR.out (P.getD k 0) (HH.out _ (getD_mem hlt)) wr K.out)
      by_cases hc : rm L (P.getD k 0) < n
      · have E := hide (stp_at hlt (fun j hj => by have := N.out j hj; omega) hc)
        have E0 := hide (HH.out _ (getD_mem hlt))
        rw [decide_eq_true hc] at C
        clear hc N
        obtain ⟨z, hz⟩ : ∃ z, z = P.getD k 0 := ⟨_, rfl⟩
        have HZ := hide hz
        rw [← hz] at C y0
        clear hz
        go_wp2_with fail
        refine C.out.mono ?_
        rintro e w' ⟨rfl, q, rfl⟩
        have KB := hide (btrans K.out (below_drewN (brefl wr) q))
        clear C K y0
        generalize wr.drewN q = w2 at *
        go_wp2
        go_ret
        exact ⟨_, rfl, .inr ⟨k, hlt, rfl, E.out.symm, by rw [E.out]; exact E0.out.1⟩, KB.out⟩
      · have N2 := hide (all_next (P := fun j => n ≤ rm L (P.getD j 0)) N.out (by omega))
        rw [decide_eq_false hc] at C
        clear hc N
        generalize P.getD k 0 = z at *
        go_wp2_with fail
        refine C.out.mono ?_
        rintro e w' ⟨rfl, q, rfl⟩
        have KB := hide (btrans K.out (below_drewN (brefl wr) q))
        clear C K y0
        generalize wr.drewN q = w2 at *
        go_wp2
        go_roundw
        case rel => exact ⟨k + 1, by omega, by go_num, N2, KB⟩
        case measure => simp [intOf]; omega
    · obtain rfl : k = P.length := by omega
      have E := hide (stp_none (L := L) (n := n) (fun j hj => by have := N.out j hj; omega))
      go_wp2
      go_ret
      exact ⟨_, rfl, .inl ⟨rfl, E.out⟩, K.out⟩
/-- what Charge answers -/
def CgR (L : List A5) (by' er : Int) (w : World) (e : Ending) (w' : World) : Prop := ∃ A c, e = .returned (.tuple #[.slice A L.length c, .int .i64 by', .int .i64 er]) ∧ OwA w.heap.size w' (.slice A L.length c) L ∧ Below w.heap.size w w'
/-- what Uncharge answers -/
def UcR (L : List A5) (er : Int) (w : World) (e : Ending) (w' : World) : Prop := ∃ A c, e = .returned (.tuple #[.slice A L.length c, .int .i64 er]) ∧ OwA w.heap.size w' (.slice A L.length c) L ∧ Below w.heap.size w w'
theorem ret_sii {A : Option Addr} {n n' c : Nat} {a b a' b' : Int} (h0 : n = n') (h1 : a = a') (h2 : b = b') : Ending.returned (.tuple #[.slice A n c, .int .i64 a, .int .i64 b]) = .returned (.tuple #[.slice A n' c, .int .i64 a', .int .i64 b']) := by rw [h0, h1, h2]
theorem ret_si {A : Option Addr} {n n' c : Nat} {a a' : Int} (h0 : n = n') (h1 : a = a') : Ending.returned (.tuple #[.slice A n c, .int .i64 a]) = .returned (.tuple #[.slice A n' c, .int .i64 a']) := by rw [h0, h1]
theorem cg_bad {L : List A5} {a n : Int} (h : arE L a n ≠ 0) : cgE L a n = arE L a n ∧ cgB L a n = -1 ∧ cgL L a n = [] := by
  have e : cgE L a n = arE L a n := if_neg h
  exact ⟨e, if_neg h, if_neg (by rw [e]; exact h)⟩
theorem cg_stop {L : List A5} {a n : Int} (h : arE L a n = 0) (h2 : 0 ≤ stp L n (pth L a)) : cgE L a n = 17 ∧ cgB L a n = stp L n (pth L a) ∧ cgL L a n = [] := by
  have e : cgE L a n = 17 := by unfold cgE; rw [if_pos h, if_neg (by omega)]
  exact ⟨e, if_pos h, if_neg (by rw [e]; decide)⟩
theorem cg_ok {L : List A5} {a n : Int} (h : arE L a n = 0) (h2 : stp L n (pth L a) = -1) : cgE L a n = 0 ∧ cgB L a n = -1 ∧ cgL L a n = adL L a n := by
  have e : cgE L a n = 0 := by unfold cgE; rw [if_pos h, if_pos (by omega)]
  exact ⟨e, by unfold cgB; rw [if_pos h, h2], if_pos e⟩
theorem uc_bad {L : List A5} {a n : Int} (h : arE L a n ≠ 0) : ucE L a n = arE L a n ∧ ucL L a n = [] := by
  have e : ucE L a n = arE L a n := if_neg h
  exact ⟨e, if_neg (by rw [e]; exact h)⟩
theorem uc_stop {L : List A5} {a n : Int} (h : arE L a n = 0) (h2 : n > own L a.toNat) : ucE L a n = 11 ∧ ucL L a n = [] := by
  have e : ucE L a n = 11 := by unfold ucE; rw [if_pos h, if_pos h2]
  exact ⟨e, if_neg (by rw [e]; decide)⟩
theorem uc_ok {L : List A5} {a n : Int} (h : arE L a n = 0) (h2 : ¬ n > own L a.toNat) : ucE L a n = 0 ∧ ucL L a n = adL L a (-n) := by
  have e : ucE L a n = 0 := by unfold ucE; rw [if_pos h, if_neg h2]
  exact ⟨e, if_pos e⟩
theorem arE_ok {L : List A5} {a n : Int} (h : arE L a n = 0) : (chE L = 0 ∧ 0 ≤ a ∧ a < L.length) ∧ inr n := by
  unfold arE at h
  by_cases h1 : chE L = 0
  · rw [if_pos h1] at h
    by_cases h2 : 0 ≤ a ∧ a < L.length
    · rw [if_pos h2] at h
      by_cases h3 : inr n
      · exact ⟨⟨h1, h2⟩, h3⟩
      · rw [if_neg h3] at h; omega
    · rw [if_neg h2] at h; omega
  · rw [if_neg h1] at h; exact absurd h h1
set_option maxRecDepth 100000 in
set_option maxHeartbeats 8000000 in
theorem charge_any (A : Option Addr) (cp : Nat) (L : List A5) (a n : Int) (w : World) (hr : As w A L) (hcp : L.length ≤ cp) (hn : L.length ≤ 9223372036854775807) :
    Calls Try.prog 80 #[.slice A L.length cp, .int .i64 a, .int .i64 n] w (CgR (cgL L a n) (cgB L a n) (cgE L a n) w) := by
  unfold CgR
  have X := hide ((Box.new w 35 #[.slice A L.length cp]).more (.cells #[.int .i64 n] 3))
  have X5 := hide (Box.new2 w (.cells #[.slice A L.length cp] 35) 3 #[.int .i64 n])
  have K := hide (bal (bal (brefl w) (.cells #[.slice A L.length cp] 35)) (.cells #[.int .i64 n] 3))
  obtain ⟨W0, hW0⟩ : ∃ W0, W0 = (w.alloc (.cells #[.slice A L.length cp] 35)).alloc (.cells #[.int .i64 n] 3) := ⟨_, rfl⟩
  rw [← hW0] at X X5 K
  obtain ⟨g, hg⟩ : ∃ g, g = w.heap.size := ⟨_, rfl⟩
  rw [← hg] at X
  obtain ⟨g5, hg5⟩ : ∃ g5, g5 = w.heap.size + 1 := ⟨_, rfl⟩
  rw [← hg5] at X5
  have HR := hide (fun w' (h : Below w.heap.size w w') => hr.below h)
  have C := hide (cchg_any A cp L a n W0 (HR.out _ K.out) hcp hn)
  by_cases h : arE L a n = 0
  · obtain ⟨q, hin⟩ := arE_ok h
    have V := hide (vd_of q.1)
    have PT := hide (fun w' (h : Below w.heap.size w w') => path_any A cp L a w' (HR.out _ h) hcp hn)
    unfold PR at PT
    rw [pR_ok q] at PT
    have PN := pth_nlen q
    have PI := hide (PIn.pth V.out q.2.1 q.2.2)
    have ES := hide (fun h2 => cg_stop h h2)
    have EO := hide (fun h2 => cg_ok h h2)
    have AQ := hide (adQ_path L n a)
    rw [h] at C
    have HU := hide (fun k hk => (V.out.rg k hk).1.1)
    have hv1 := V.out.len.1
    have hv8 := V.out.len.2
    unfold inr at hin
    obtain ⟨hin0, hin1⟩ := hin
    clear h q hr hcp
    generalize pth L a = P at *
    obtain ⟨PN1, PN8⟩ := PN
    go_enter Try.func80, Try.ntmps80
    go_upto_region 1 with fail
    rw [← hg5, ← hg, ← hW0]
    clear hg hg5 hW0
    have x0 := X.out.cell 0
    have x5 := X5.out.cell 0
    simp at x0 x5
    go_wp2_with fail
    refine C.out.mono ?_
    rintro e w1 ⟨rfl, hb⟩
    replace K := hide (btrans K.out hb)
    replace X := hide (X.out.below hb)
    replace X5 := hide (X5.out.below hb)
    clear hb C x0 x5
    have x0 := X.out.cell 0
    simp at x0
    go_wp2_with fail
    refine (PT.out _ K.out).mono ?_
    rintro e w3 ⟨AP, c2, rfl, hO, hb⟩
    replace K := hide (btrans K.out hb)
    replace X := hide (X.out.below hb)
    replace X5 := hide (X5.out.below hb)
    have HP := hide (OwI.bi hO)
    have IF := hide (ifun_any AP c2 P g5 g A cp L n PI.out.mem (by omega) V.out w3 HP.out X5.out X.out (HR.out _ K.out))
    unfold IfP at IF
    clear hb x0 hO PT
    go_wp2_with fail
    refine IF.out.mono ?_
    rintro e w4 ⟨i, rfl, hi, hb⟩
    replace K := hide (btrans K.out hb)
    replace X := hide (X.out.below hb)
    replace X5 := hide (X5.out.below hb)
    replace HP := hide (HP.out.below hb)
    clear hb IF
    rcases hi with ⟨rfl, hs⟩ | ⟨j, hj, rfl, hjs, hs⟩
    · obtain ⟨e1, e2, e3⟩ := EO.out hs
      have x0 := X.out.cell 0
      have x5 := X5.out.cell 0
      simp at x0 x5
      have AD := hide (add_any A AP cp c2 L P n w4 (HR.out _ K.out) HP.out PI.out hv1 hv8 (by omega) HU.out (by omega) (by omega))
      unfold LR at AD
      rw [AQ.out] at AD
      have E1 := hide e1
      have E2 := hide e2
      have E3 := hide e3
      clear e1 e2 e3 hs
      go_wp2_with fail
      refine AD.out.mono ?_
      rintro e w5 ⟨A6, c6, rfl, hO, hb⟩
      have HO := hide (row_mono hO K.out.size)
      replace K := hide (btrans K.out hb)
      clear hO hb AD x0 x5
      go_wp2
      go_ret3
      exact ⟨A6, c6, ret_sii (by rw [E3.out]) E2.out.symm E1.out.symm, by rw [E3.out]; exact HO.out, K.out⟩
    · obtain ⟨e1, e2, e3⟩ := ES.out hs
      have hj2 : (j : Int) < (P.length : Int) := by omega
      have hj0 : (0 : Int) ≤ (j : Int) := by omega
      obtain ⟨b, off, rfl, hbl, p0⟩ := HP.out.cells (brefl _) hj
      rw [hjs] at p0
      have E1 := hide e1
      have E2 := hide e2
      have E3 := hide e3
      clear e1 e2 e3 hs hjs
      generalize stp L n P = st at *
      go_wp2
      go_quiet (fail)
      generalize hwy : World.drewN w4 _ = wy
      have hbq : Below w4.heap.size w4 wy := by rw [← hwy]; exact below_drewN (brefl _) _
      replace K := hide (btrans K.out hbq)
      clear hwy hbq
      go_wp2
      go_ret3
      exact ⟨none, 0, ret_sii (by rw [E3.out]; rfl) E2.out.symm E1.out.symm, by rw [E3.out]; exact owa_nil _ _, K.out⟩
  · obtain ⟨e1, e2, e3⟩ := cg_bad h
    have E1 := hide e1
    have E2 := hide e2
    have E3 := hide e3
    have de : (arE L a n != 0) = true := by simpa using h
    clear h e1 e2 e3 hr hcp
    generalize arE L a n = ce at *
    go_enter Try.func80, Try.ntmps80
    go_upto_region 1 with fail
    rw [← hg5, ← hg, ← hW0]
    clear hg hg5 hW0
    have x0 := X.out.cell 0
    have x5 := X5.out.cell 0
    simp at x0 x5
    go_wp2_with fail
    refine C.out.mono ?_
    rintro e w1 ⟨rfl, hb⟩
    replace K := hide (btrans K.out hb)
    clear hb C x0 x5
    go_wp2
    go_ret3
    exact ⟨none, 0, ret_sii (by rw [E3.out]; rfl) E2.out.symm E1.out.symm, by rw [E3.out]; exact owa_nil _ _, K.out⟩
end Go.Proofs.Ytimclgmajhhheaa.Ac
