import Derived.Test.YtclkflnonckajaaL2
import Derived.Test.YtclkflnonckajaaOs
namespace Go.Proofs.Ytclkflnonckajaa.Ac
open Go Go.RowKit
set_option linter.unusedVariables false
set_option linter.unusedSimpArgs false
theorem charge_unf (A : Option Addr) (cp : Nat) (L : List A5) (a n : Int) (w : World) (hr : As w A L) (hcp : L.length ≤ cp) (hn : L.length ≤ 9223372036854775807) :
    Calls Try.prog 32 #[.slice A L.length cp, .int .i64 a, .int .i64 n] w fun e w' => ∃ A c, e = .returned (.tuple #[.slice A (cgL L a n).length c, .int .i64 (cgB L a n), .int .i64 (cgE L a n)]) ∧ OwA w.heap.size w' (.slice A (cgL L a n).length c) (cgL L a n) ∧ Below w.heap.size w w' := charge_any A cp L a n w hr hcp hn
theorem uncharge_unf (A : Option Addr) (cp : Nat) (L : List A5) (a n : Int) (w : World) (hr : As w A L) (hcp : L.length ≤ cp) (hn : L.length ≤ 9223372036854775807) :
    Calls Try.prog 34 #[.slice A L.length cp, .int .i64 a, .int .i64 n] w fun e w' => ∃ A c, e = .returned (.tuple #[.slice A (ucL L a n).length c, .int .i64 (ucE L a n)]) ∧ OwA w.heap.size w' (.slice A (ucL L a n).length c) (ucL L a n) ∧ Below w.heap.size w w' := uncharge_any A cp L a n w hr hcp hn
theorem cg_0 {L : List A5} {a n : Int} (h : cgE L a n = 0) : (chE L = 0 ∧ 0 ≤ a ∧ a < L.length) ∧ inr n ∧ (∀ x ∈ pth L a, n ≤ mx L x.toNat - us L x.toNat) ∧ Vd (adL L a n) ∧ cgL L a n = adL L a n ∧ cgB L a n = -1 := by
  by_cases h0 : arE L a n = 0
  · obtain ⟨q, hi⟩ := arE_ok h0
    have V := vd_of q.1
    have PI := PIn.pth V q.2.1 q.2.2
    rcases stp_or (L := L) (n := n) (pth L a) (fun x hx => (PI.mem x hx).1) with e | e
    · have hle := (stp_mem (L := L) (n := n) (l := pth L a) (fun x hx => (PI.mem x hx).1)).1 (by omega)
      obtain ⟨_, e2, e3⟩ := cg_ok h0 e
      refine ⟨q, hi, hle, vd_ad V q.2.1 q.2.2 hle ?_, e3, e2⟩
      have := V.sta a.toNat (by omega)
      unfold inr at hi
      omega
    · have := (cg_stop h0 e).1; omega
  · have := (cg_bad h0).1; omega
theorem cg_of {L : List A5} {a n : Int} (q : chE L = 0 ∧ 0 ≤ a ∧ a < L.length) (hi : inr n) (h : ∀ x ∈ pth L a, n ≤ mx L x.toNat - us L x.toNat) : cgE L a n = 0 := by
  have V := vd_of q.1
  have PI := PIn.pth V q.2.1 q.2.2
  have h0 : arE L a n = 0 := by unfold arE; rw [if_pos q.1, if_pos q.2, if_pos hi]
  rcases stp_or (L := L) (n := n) (pth L a) (fun x hx => (PI.mem x hx).1) with e | e
  · exact (cg_ok h0 e).1
  · have s := (stp_mem (L := L) (n := n) (l := pth L a) (fun x hx => (PI.mem x hx).1)).2 e
    have := h _ s.1
    omega
theorem adL_ext {L M : List A5} (hl : M.length = L.length) (h : ∀ k, k < L.length → pa M k = pa L k ∧ us M k = us L k ∧ mn M k = mn L k ∧ lo M k = lo L k ∧ mx M k = mx L k) : M = L :=
  ext5 hl fun k hk => by rw [hl] at hk; obtain ⟨h0, h1, h2, h3, h4⟩ := h k hk; exact a5_ext h0 h1 h2 h3 h4
theorem ad_ad {L : List A5} (V : tr L) {a b n m : Int} (ha : a < L.length) (hb : b < L.length) : adL (adL L a n) b m = adL (adL L b m) a n := by
  refine adL_ext (by rw [adL_len, adL_len, adL_len, adL_len]) fun k hk => ?_
  rw [adL_len, adL_len] at hk
  have h1 : k < (adL L a n).length := by rw [adL_len]; exact hk
  have h2 : k < (adL L b m).length := by rw [adL_len]; exact hk
  rw [adL_pa h1, adL_pa h2, adL_pa hk, adL_pa hk, adL_us h1, adL_us h2, adL_us hk, adL_us hk, adL_mn h1, adL_mn h2, adL_mn hk, adL_mn hk, adL_lo h1, adL_lo h2, adL_lo hk, adL_lo hk, adL_mx h1, adL_mx h2, adL_mx hk, adL_mx hk, ip_ad V hb, ip_ad V ha]
  exact ⟨rfl, by omega, rfl, rfl, rfl⟩
theorem ad_back {L : List A5} (V : tr L) {a n : Int} (ha : a < L.length) : adL (adL L a n) a (-n) = L := by
  refine adL_ext (by rw [adL_len, adL_len]) fun k hk => ?_
  have h1 : k < (adL L a n).length := by rw [adL_len]; exact hk
  rw [adL_pa h1, adL_pa hk, adL_us h1, adL_us hk, adL_mn h1, adL_mn hk, adL_lo h1, adL_lo hk, adL_mx h1, adL_mx hk, ip_ad V ha]
  exact ⟨rfl, by rw [Int.neg_mul]; omega, rfl, rfl, rfl⟩
/-- two charges that succeed one after the other do so in the other order, with the same result -/
theorem cg_swap {L : List A5} {a b n m : Int} (h1 : cgE L a n = 0) (h2 : cgE (adL L a n) b m = 0) : cgE L b m = 0 ∧ cgE (adL L b m) a n = 0 ∧ adL (adL L a n) b m = adL (adL L b m) a n := by
  obtain ⟨qa, hn, hla, V1, _, _⟩ := cg_0 h1
  obtain ⟨qb, hm, hlb, V2, _, _⟩ := cg_0 h2
  have V := vd_of qa.1
  rw [adL_len] at qb
  have ha := qa.2.2
  have hb := qb.2.2
  have e := ad_ad V.tr (n := n) (m := m) ha hb
  have key : ∀ k, k < L.length → us L k + n * ip L a k + m * ip L b k ≤ mx L k := fun k hk => by
    have h1 : k < (adL L a n).length := by rw [adL_len]; exact hk
    have := V2.lim k (by rw [adL_len, adL_len]; exact hk)
    rw [adL_us h1, adL_us hk, adL_mx h1, adL_mx hk, ip_ad V.tr hb] at this
    exact this
  have nn : ∀ (c x z : Int), 0 ≤ z → 0 ≤ z * ip L c x ∧ z * ip L c x ≤ z := fun c x z hz => by
    unfold ip; split
    · rw [Int.mul_one]; omega
    · rw [Int.mul_zero]; omega
  have one : ∀ (c x : Int), x ∈ pth L c → ip L c x = 1 := fun c x hx => if_pos hx
  unfold inr at hn hm
  have c1 : cgE L b m = 0 := cg_of ⟨qa.1, qb.2.1, hb⟩ hm fun x hx => by
    have hxr := (PIn.pth V qb.2.1 hb).mem x hx
    have k := key x.toNat (by omega)
    rw [show ((x.toNat : Nat) : Int) = x by omega] at k
    rw [one b x hx] at k
    have := nn a x n hn.1
    omega
  refine ⟨c1, ?_, e⟩
  obtain ⟨_, _, _, V3, _, _⟩ := cg_0 c1
  refine cg_of ⟨chE_0 V3, qa.2.1, by rw [adL_len]; exact ha⟩ hn fun x hx => ?_
  rw [pth_ad V.tr ha] at hx
  have hxr := (PIn.pth V qa.2.1 ha).mem x hx
  have hk : x.toNat < L.length := by omega
  have k := key x.toNat hk
  rw [adL_us hk, adL_mx hk]
  rw [show ((x.toNat : Nat) : Int) = x by omega] at k ⊢
  rw [one a x hx] at k
  omega
theorem cg_uc {L : List A5} {a n : Int} (h : cgE L a n = 0) : ucE (adL L a n) a n = 0 ∧ ucL (adL L a n) a n = L := by
  obtain ⟨q, hn, hle, V1, _, _⟩ := cg_0 h
  have V := vd_of q.1
  have h0 : arE (adL L a n) a n = 0 := by unfold arE; rw [adL_len, if_pos (chE_0 V1), if_pos q.2, if_pos hn]
  have ho : ¬ n > own (adL L a n) a.toNat := by
    have hl : a.toNat < L.length := by omega
    rw [own_ad V.tr V.len.2 q.2.1 q.2.2 hl, if_pos (by omega)]
    have := V.sta a.toNat hl
    omega
  obtain ⟨e1, e2⟩ := uc_ok h0 ho
  exact ⟨e1, by rw [e2, ad_back V.tr q.2.2]⟩
set_option maxRecDepth 100000 in
set_option maxHeartbeats 8000000 in
theorem law_commute (A : Option Addr) (cp : Nat) (L : List A5) (x y : O3) (W : World) (h : AIn W A L cp) : Calls Try.prog 9 #[.slice A L.length cp, .agg #[.bool x.tk, .int .i64 x.ac, .int .i64 x.n], .agg #[.bool y.tk, .int .i64 y.ac, .int .i64 y.n]] W fun e w' => e = .returned (.bool true) ∧ Below W.heap.size W w' := by
  have AWK := hide (fun w => awake_any w)
  have C0 := hide (fun w => few_any A L.length cp w h.len)
  have HR := hide (fun w' (hb : Below W.heap.size W w') => h.rd.below hb)
  have HCP := hide h.cap
  have HN := hide h.len
  clear h
  obtain ⟨xt, xa, xn⟩ := x
  obtain ⟨yt, ya, yn⟩ := y
  simp only
  have X4 := hide ((Box.new W 34 #[.bool xt, .int .i64 xa, .int .i64 xn]).more (.cells #[.bool yt, .int .i64 ya, .int .i64 yn] 34))
  have X5 := hide (Box.new2 W (.cells #[.bool xt, .int .i64 xa, .int .i64 xn] 34) 34 #[.bool yt, .int .i64 ya, .int .i64 yn])
  have K := hide (bal (bal (brefl W) (.cells #[.bool xt, .int .i64 xa, .int .i64 xn] 34)) (.cells #[.bool yt, .int .i64 ya, .int .i64 yn] 34))
  obtain ⟨W0, hW0⟩ : ∃ W0, W0 = ((W.alloc (.cells #[.bool xt, .int .i64 xa, .int .i64 xn] 34)).alloc (.cells #[.bool yt, .int .i64 ya, .int .i64 yn] 34)) := ⟨_, rfl⟩
  rw [← hW0] at X4 X5 K
  obtain ⟨g4, hg4⟩ : ∃ g4, g4 = W.heap.size := ⟨_, rfl⟩
  rw [← hg4] at X4
  obtain ⟨g5, hg5⟩ : ∃ g5, g5 = W.heap.size + 1 := ⟨_, rfl⟩
  rw [← hg5] at X5
  by_cases h20 : (L.length : Int) ≤ 20
  · have d20 := decide_eq_true h20
    rw [d20] at C0
    clear h20 d20
    by_cases e1 : cgE L xa xn = 0
    · obtain ⟨q1, hi1, _, V1, ec1, eb1⟩ := cg_0 e1
      have L8 := hide (vd_of q1.1).len.2
      by_cases e2 : cgE (adL L xa xn) ya yn = 0
      · obtain ⟨q2, hi2, _, V2, ec2, eb2⟩ := cg_0 e2
        obtain ⟨e3, e4, e5⟩ := cg_swap e1 e2
        obtain ⟨q3, hi3, _, V3, ec3, eb3⟩ := cg_0 e3
        obtain ⟨q4, hi4, _, V4, ec4, eb4⟩ := cg_0 e4
        have H1 := hide (And.intro e1 ec1)
        have H2 := hide (And.intro e2 ec2)
        have H3 := hide (And.intro e3 ec3)
        have H4 := hide (And.intro e4 ec4)
        have H5 := hide e5
        clear q1 q2 q3 q4 hi1 hi2 hi3 hi4 V1 V2 V3 V4 ec1 ec2 ec3 ec4 eb1 eb2 eb3 eb4 e1 e2 e3 e4 e5
        have ln := L8.out
        go_enter Try.func9, Try.ntmps9
        go_upto_region 1 with fail
        rw [← hg5, ← hg4, ← hW0]
        clear hg5 hg4 hW0
        go_wp2_with fail
        refine (AWK.out _).mono ?_
        rintro e w1 ⟨rfl, hb⟩
        replace K := hide (btrans K.out hb)
        replace X4 := hide (X4.out.below hb)
        replace X5 := hide (X5.out.below hb)
        clear hb
        go_wp2_with fail
        refine (C0.out _).mono ?_
        rintro e w2 ⟨rfl, rfl⟩
        have x1 := X4.out.cell 1
        have x2 := X4.out.cell 2
        have x3 := X5.out.cell 1
        have x4 := X5.out.cell 2
        simp at x1 x2 x3 x4
        go_wp2_with fail
        refine (charge_unf A cp L xa xn _ (HR.out _ K.out) HCP.out HN.out).mono ?_
        rintro e w3 ⟨A1, c1, rfl, hO, hb⟩
        replace K := hide (btrans K.out hb)
        replace X4 := hide (X4.out.below hb)
        replace X5 := hide (X5.out.below hb)
        rw [H1.out.2] at hO ⊢
        rw [H1.out.1]
        have R1 := hide (OwA.as hO)
        have hc1 : (adL L xa xn).length ≤ c1 := by obtain ⟨_, _, ev, hq⟩ := row_form hO; injection ev with _ _ ev; omega
        have hl1 : (adL L xa xn).length ≤ 9223372036854775807 := by rw [adL_len]; omega
        have HC1 := hide hc1
        have HL1 := hide hl1
        clear hb hO x1 x2 x3 x4 hc1 hl1
        have x1 := X4.out.cell 1
        have x2 := X4.out.cell 2
        have x3 := X5.out.cell 1
        have x4 := X5.out.cell 2
        simp at x1 x2 x3 x4
        go_wp2_with fail
        refine (charge_unf A1 c1 (adL L xa xn) ya yn _ R1.out HC1.out HL1.out).mono ?_
        rintro e w4 ⟨A2, c2, rfl, hO, hb⟩
        replace K := hide (btrans K.out hb)
        replace X4 := hide (X4.out.below hb)
        replace X5 := hide (X5.out.below hb)
        rw [H2.out.2] at hO ⊢
        rw [H2.out.1]
        have R2 := hide (OwA.as hO)
        clear hb hO x1 x2 x3 x4 R1
        have x1 := X4.out.cell 1
        have x2 := X4.out.cell 2
        have x3 := X5.out.cell 1
        have x4 := X5.out.cell 2
        simp at x1 x2 x3 x4
        go_wp2_with fail
        refine (charge_unf A cp L ya yn _ (HR.out _ K.out) HCP.out HN.out).mono ?_
        rintro e w5 ⟨A3, c3, rfl, hO, hb⟩
        replace K := hide (btrans K.out hb)
        replace X4 := hide (X4.out.below hb)
        replace X5 := hide (X5.out.below hb)
        rw [H3.out.2] at hO ⊢
        rw [H3.out.1]
        have R3 := hide (OwA.as hO)
        replace R2 := hide (R2.out.below hb)
        have hc1 : (adL L ya yn).length ≤ c3 := by obtain ⟨_, _, ev, hq⟩ := row_form hO; injection ev with _ _ ev; omega
        have hl1 : (adL L ya yn).length ≤ 9223372036854775807 := by rw [adL_len]; omega
        have HC3 := hide hc1
        have HL3 := hide hl1
        clear hb hO x1 x2 x3 x4 hc1 hl1
        have x1 := X4.out.cell 1
        have x2 := X4.out.cell 2
        have x3 := X5.out.cell 1
        have x4 := X5.out.cell 2
        simp at x1 x2 x3 x4
        go_wp2_with fail
        refine (charge_unf A3 c3 (adL L ya yn) xa xn _ R3.out HC3.out HL3.out).mono ?_
        rintro e w6 ⟨A4, c4, rfl, hO, hb⟩
        replace K := hide (btrans K.out hb)
        replace X4 := hide (X4.out.below hb)
        replace X5 := hide (X5.out.below hb)
        rw [H4.out.2, ← H5.out] at hO ⊢
        rw [H4.out.1]
        have R4 := hide (OwA.as hO)
        replace R2 := hide (R2.out.below hb)
        clear hb hO x1 x2 x3 x4 R3
        have SM := hide (same_refl A2 A4 c2 c4 (adL (adL L xa xn) ya yn) w6 R2.out R4.out (by rw [adL_len, adL_len]; omega))
        go_wp2_with fail
        refine SM.out.mono ?_
        rintro e w7 ⟨rfl, hb⟩
        replace K := hide (btrans K.out hb)
        clear hb
        go_wp2
        go_ret
        exact ⟨rfl, K.out⟩
      · have H1 := hide (And.intro e1 ec1)
        have de : (cgE (adL L xa xn) ya yn != 0) = true := by simpa using e2
        clear q1 hi1 V1 ec1 eb1 e1 e2
        have ln := L8.out
        go_enter Try.func9, Try.ntmps9
        go_upto_region 1 with fail
        rw [← hg5, ← hg4, ← hW0]
        clear hg5 hg4 hW0
        go_wp2_with fail
        refine (AWK.out _).mono ?_
        rintro e w1 ⟨rfl, hb⟩
        replace K := hide (btrans K.out hb)
        replace X4 := hide (X4.out.below hb)
        replace X5 := hide (X5.out.below hb)
        clear hb
        go_wp2_with fail
        refine (C0.out _).mono ?_
        rintro e w2 ⟨rfl, rfl⟩
        have x1 := X4.out.cell 1
        have x2 := X4.out.cell 2
        have x3 := X5.out.cell 1
        have x4 := X5.out.cell 2
        simp at x1 x2 x3 x4
        go_wp2_with fail
        refine (charge_unf A cp L xa xn _ (HR.out _ K.out) HCP.out HN.out).mono ?_
        rintro e w3 ⟨A1, c1, rfl, hO, hb⟩
        replace K := hide (btrans K.out hb)
        replace X4 := hide (X4.out.below hb)
        replace X5 := hide (X5.out.below hb)
        rw [H1.out.2] at hO ⊢
        rw [H1.out.1]
        have R1 := hide (OwA.as hO)
        have hc1 : (adL L xa xn).length ≤ c1 := by obtain ⟨_, _, ev, hq⟩ := row_form hO; injection ev with _ _ ev; omega
        have hl1 : (adL L xa xn).length ≤ 9223372036854775807 := by rw [adL_len]; omega
        have HC1 := hide hc1
        have HL1 := hide hl1
        clear hb hO x1 x2 x3 x4 hc1 hl1
        have x1 := X4.out.cell 1
        have x2 := X4.out.cell 2
        have x3 := X5.out.cell 1
        have x4 := X5.out.cell 2
        simp at x1 x2 x3 x4
        go_wp2_with fail
        refine (charge_unf A1 c1 (adL L xa xn) ya yn _ R1.out HC1.out HL1.out).mono ?_
        rintro e w4 ⟨A2, c2, rfl, hO, hb⟩
        replace K := hide (btrans K.out hb)
        replace X4 := hide (X4.out.below hb)
        replace X5 := hide (X5.out.below hb)
        clear hb hO x1 x2 x3 x4
        generalize cgE (adL L xa xn) ya yn = ce at *
        go_wp2
        go_ret
        exact ⟨rfl, K.out⟩
    · have de : (cgE L xa xn != 0) = true := by simpa using e1
      clear e1
      go_enter Try.func9, Try.ntmps9
      go_upto_region 1 with fail
      rw [← hg5, ← hg4, ← hW0]
      clear hg5 hg4 hW0
      go_wp2_with fail
      refine (AWK.out _).mono ?_
      rintro e w1 ⟨rfl, hb⟩
      replace K := hide (btrans K.out hb)
      replace X4 := hide (X4.out.below hb)
      replace X5 := hide (X5.out.below hb)
      clear hb
      go_wp2_with fail
      refine (C0.out _).mono ?_
      rintro e w2 ⟨rfl, rfl⟩
      have x1 := X4.out.cell 1
      have x2 := X4.out.cell 2
      have x3 := X5.out.cell 1
      have x4 := X5.out.cell 2
      simp at x1 x2 x3 x4
      go_wp2_with fail
      refine (charge_unf A cp L xa xn _ (HR.out _ K.out) HCP.out HN.out).mono ?_
      rintro e w3 ⟨A1, c1, rfl, hO, hb⟩
      replace K := hide (btrans K.out hb)
      replace X4 := hide (X4.out.below hb)
      replace X5 := hide (X5.out.below hb)
      clear hb hO x1 x2 x3 x4
      generalize cgE L xa xn = ce at *
      go_wp2
      go_ret
      exact ⟨rfl, K.out⟩
  · have d20 := decide_eq_false h20
    rw [d20] at C0
    clear h20 d20
    go_enter Try.func9, Try.ntmps9
    go_upto_region 1 with fail
    rw [← hg5, ← hg4, ← hW0]
    clear hg5 hg4 hW0
    go_wp2_with fail
    refine (AWK.out _).mono ?_
    rintro e w1 ⟨rfl, hb⟩
    replace K := hide (btrans K.out hb)
    replace X4 := hide (X4.out.below hb)
    replace X5 := hide (X5.out.below hb)
    clear hb
    go_wp2_with fail
    refine (C0.out _).mono ?_
    rintro e w2 ⟨rfl, rfl⟩
    go_wp2_with fail
    refine (AWK.out _).mono ?_
    rintro e w3 ⟨rfl, hb⟩
    replace K := hide (btrans K.out hb)
    clear hb
    go_wp2
    go_ret
    exact ⟨rfl, K.out⟩
end Go.Proofs.Ytclkflnonckajaa.Ac
