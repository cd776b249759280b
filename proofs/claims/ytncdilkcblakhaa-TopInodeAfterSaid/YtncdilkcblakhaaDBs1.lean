import Derived.Test.YtncdilkcblakhaaDPg1
namespace Go.Proofs.Ytncdilkcblakhaa.Dv
open Go Go.RowKit
set_option linter.unusedVariables false
def cmpI (x y : Int) : Int := if x < y then -1 else if y < x then 1 else 0
theorem nan_any (x : Int) (w : World) : Calls Try.prog 76 #[.int .i64 x] w fun e w' => e = .returned (.bool false) ∧ w = w' := by
  have hd : (x != x) = false := by simp
  go_enter Try.func76, Try.ntmps76
  go_wp2
  go_ret
  exact ⟨rfl, rfl⟩
theorem cmp_any (x y : Int) (w : World) : Calls Try.prog 73 #[.int .i64 x, .int .i64 y] w fun e w' => e = .returned (.int .i64 (cmpI x y)) ∧ w = w' := by
  have C := hide nan_any
  by_cases h1 : x < y
  · have E := hide (show cmpI x y = -1 by unfold cmpI; rw [if_pos h1])
    have hd : decide (x < y) = true := decide_eq_true h1
    go_enter Try.func73, Try.ntmps73
    go_wp2_with (go_at_call 76; refine (C.out _ _).mono ?_; rintro e w' ⟨rfl, rfl⟩)
    go_ret
    exact ⟨ret_int E.out.symm, rfl⟩
  · have hd : decide (x < y) = false := decide_eq_false h1
    by_cases h2 : y < x
    · have E := hide (show cmpI x y = 1 by unfold cmpI; rw [if_neg h1, if_pos h2])
      have hd2 : decide (y < x) = true := decide_eq_true h2
      go_enter Try.func73, Try.ntmps73
      go_wp2_with (go_at_call 76; refine (C.out _ _).mono ?_; rintro e w' ⟨rfl, rfl⟩)
      go_ret
      exact ⟨ret_int E.out.symm, rfl⟩
    · have E := hide (show cmpI x y = 0 by unfold cmpI; rw [if_neg h1, if_neg h2])
      have hd2 : decide (y < x) = false := decide_eq_false h2
      go_enter Try.func73, Try.ntmps73
      go_wp2_with (go_at_call 76; refine (C.out _ _).mono ?_; rintro e w' ⟨rfl, rfl⟩)
      go_ret
      exact ⟨ret_int E.out.symm, rfl⟩
theorem key_any (z b : Int) (v : Value) (w : World) : Calls Try.prog 72 #[.agg #[.int .i64 z, v], .int .i64 b] w fun e w' => e = .returned (.int .i64 (cmpI z b)) ∧ Below w.heap.size w w' := by
  have C := hide (fun w => cmp_any z b w)
  have K := hide (bal (brefl w) (.cells #[.int .i64 z, v] 89))
  generalize cmpI z b = r at *
  go_enter Try.func72, Try.ntmps72
  go_wp2_with (go_at_call 73; refine (C.out _).mono ?_; rintro e w' ⟨rfl, rfl⟩)
  go_ret
  exact ⟨rfl, K.out⟩
/-- the place of a block in a cache, and whether it is there -/
def caP : List Ca → Int → Nat
  | [], _ => 0
  | c :: l, b => if c.1 < b then caP l b + 1 else 0
theorem caP_eq : ∀ (L : List Ca) (b : Int) (i : Nat), i ≤ L.length → (∀ t, t < i → (cAt L t).1 < b) → (i < L.length → ¬ (cAt L i).1 < b) → caP L b = i
  | [], b, i, h, _, _ => by simp at h; subst h; rfl
  | c :: l, b, 0, _, _, h3 => by
    have : ¬ c.1 < b := h3 (by simp)
    unfold caP; rw [if_neg this]
  | c :: l, b, i + 1, h1, h2, h3 => by
    have : c.1 < b := h2 0 (by omega)
    unfold caP
    rw [if_pos this, caP_eq l b i (by simpa using h1) (fun t ht => h2 (t + 1) (by omega)) (fun hi => h3 (by simpa using hi))]
def hitP (L : List Ca) (b : Int) : Bool := decide (caP L b < L.length ∧ (cAt L (caP L b)).1 = b)
def Asc (L : List Ca) : Prop := ∀ s t, s < t → t < L.length → (cAt L s).1 < (cAt L t).1
theorem enters72 : Enters 72 := Go.Proofs.enters_of Try.func72 (by kernel_rfl) rfl
set_option maxHeartbeats 2000000 in
theorem bsearch_any (A : Option Addr) (L : List Ca) (c : Nat) (b : Int) (w : World) (hr : RdC w A L) (hn : L.length ≤ 1000) (ha : Asc L) :
    Calls Try.prog 71 #[.slice A L.length c, .int .i64 b, .func (.func 72) #[] #[]] w fun e w' => e = .returned (.tuple #[.int .i64 (caP L b), .bool (hitP L b)]) ∧ Below w.heap.size w w' := by
  have HR := hide hr
  have HS := hide ha
  have eg := enters72
  unfold Enters at eg
  clear hr ha
  go_enter Try.func71, Try.ntmps71
  go_wp2
  go_loopw [9, 10, 11] (fun i j _ wr => ∃ p q : Nat, p ≤ q ∧ q ≤ L.length ∧ i = .int .i64 p ∧ j = .int .i64 q ∧ Hid (∀ t, t < p → (cAt L t).1 < b) ∧ Hid (∀ t, q ≤ t → t < L.length → b ≤ (cAt L t).1) ∧ Hid (Below w.heap.size w wr)) (fun i j _ _ => (intOf j).toNat - (intOf i).toNat)
  case atStart => exact ⟨0, L.length, Nat.zero_le _, Nat.le_refl _, rfl, rfl, hide fun t ht => absurd ht (Nat.not_lt_zero _), hide fun t h1 h2 => absurd h2 (by omega), hide (brefl _)⟩
  case round =>
    obtain ⟨p, q, hpq, hq, rfl, rfl, H1, H2, K⟩ := hrel
    by_cases hlt : p < q
    · have hh : (p + q) / 2 < L.length := by omega
      obtain ⟨bb, off, v, rfl, hbl, c0, c1', A1, d1, rfl, _, _⟩ := HR.out.cells K.out hh
      obtain ⟨z, hz⟩ : ∃ z, z = (cAt L ((p + q) / 2)).1 := ⟨_, rfl⟩
      generalize (cAt L ((p + q) / 2)).2.length = m at *
      rw [← hz] at c0
      have C := hide (fun w => key_any z b (.slice A1 m d1) w)
      by_cases hzb : z < b
      · have HC := hide (show cmpI z b = -1 by unfold cmpI; rw [if_pos hzb])
        rw [HC.out] at C
        have N1 := hide (show ∀ t, t < (p + q) / 2 + 1 → (cAt L t).1 < b from fun t ht => by
          by_cases e : t = (p + q) / 2
          · rw [e, ← hz]; exact hzb
          · have := HS.out t ((p + q) / 2) (by omega) hh; omega)
        clear hz HC
        go_wp2_with fail
        refine (C.out _).mono ?_
        rintro e w1 ⟨rfl, hb⟩
        have K1 := hide (btrans K.out hb)
        clear hb c0 c1'
        go_wp2
        go_roundw
        case rel => exact ⟨(p + q) / 2 + 1, q, by omega, hq, by go_num, rfl, N1, H2, K1⟩
        case measure => simp [intOf]; omega
      · have HC : 0 ≤ cmpI z b := by unfold cmpI; rw [if_neg hzb]; by_cases h : b < z <;> simp [h]
        have N2 := hide (show ∀ t, (p + q) / 2 ≤ t → t < L.length → b ≤ (cAt L t).1 from fun t h1 h2 => by
          by_cases e : t = (p + q) / 2
          · rw [e, ← hz]; omega
          · have := HS.out ((p + q) / 2) t (by omega) h2; omega)
        generalize cmpI z b = r at *
        have hr0 : ¬ r < 0 := by omega
        clear hz HC
        go_wp2_with fail
        refine (C.out _).mono ?_
        rintro e w1 ⟨rfl, hb⟩
        have K1 := hide (btrans K.out hb)
        clear hb c0 c1'
        go_wp2
        go_roundw
        case rel => exact ⟨p, (p + q) / 2, by omega, by omega, rfl, by go_num, H1, N2, K1⟩
        case measure => simp [intOf]; omega
    · obtain rfl : p = q := by omega
      have EP := hide (show caP L b = p from caP_eq L b p hq H1.out fun h => by have := H2.out p (Nat.le_refl _) h; omega)
      by_cases hpl : p < L.length
      · obtain ⟨bb, off, v, rfl, hbl, c0, c1', A1, d1, rfl, _, _⟩ := HR.out.cells K.out hpl
        obtain ⟨z, hz⟩ : ∃ z, z = (cAt L p).1 := ⟨_, rfl⟩
        generalize (cAt L p).2.length = m at *
        rw [← hz] at c0
        have C := hide (fun w => key_any z b (.slice A1 m d1) w)
        have hnz : ¬ z < b := by have := H2.out p (Nat.le_refl _) hpl; omega
        have hd : decide ((p : Int) < (L.length : Int)) = true := decide_eq_true (by omega)
        by_cases hzb : z = b
        · have HC := hide (show cmpI z b = 0 by unfold cmpI; rw [if_neg hnz, if_neg (by omega)])
          have EH := hide (show hitP L b = true by unfold hitP; rw [EP.out]; exact decide_eq_true ⟨hpl, by rw [← hz]; exact hzb⟩)
          rw [HC.out] at C
          clear hz hzb HC
          go_wp2_with fail
          refine (C.out _).mono ?_
          rintro e w1 ⟨rfl, hb⟩
          have K1 := hide (btrans K.out hb)
          clear hb
          go_wp2
          go_ret2
          exact ⟨by rw [EP.out, EH.out]; rfl, K1.out⟩
        · have HC := hide (show cmpI z b = 1 by unfold cmpI; rw [if_neg hnz, if_pos (by omega)])
          have EH := hide (show hitP L b = false by unfold hitP; rw [EP.out]; exact decide_eq_false fun h => hzb (by rw [hz]; exact h.2))
          rw [HC.out] at C
          clear hz hzb HC
          go_wp2_with fail
          refine (C.out _).mono ?_
          rintro e w1 ⟨rfl, hb⟩
          have K1 := hide (btrans K.out hb)
          clear hb
          go_wp2
          go_ret2
          exact ⟨by rw [EP.out, EH.out]; rfl, K1.out⟩
      · have EH := hide (show hitP L b = false by unfold hitP; rw [EP.out]; exact decide_eq_false fun h => hpl h.1)
        have hd : decide ((p : Int) < (L.length : Int)) = false := decide_eq_false (by omega)
        go_wp2
        go_ret2
        exact ⟨by rw [EP.out, EH.out]; rfl, K.out⟩
theorem find_any (dep nxt : Int) (vb vq : Value) (A : Option Addr) (L : List Ca) (c : Nat) (b : Int) (w : World) (hr : RdC w A L) (hn : L.length ≤ 1000) (ha : Asc L) :
    Calls Try.prog 68 #[.agg #[.int .i64 dep, .int .i64 nxt, vb, .slice A L.length c, vq], .int .i64 b] w fun e w' => e = .returned (.tuple #[.int .i64 (caP L b), .bool (hitP L b)]) ∧ Below w.heap.size w w' := by
  have K := hide (bal (brefl w) (.cells #[.int .i64 dep, .int .i64 nxt, vb, .slice A L.length c, vq] 57))
  have C := hide (bsearch_any A L c b _ (hr.below K.out) hn ha)
  clear hr ha
  generalize hitP L b = h at *
  generalize caP L b = p at *
  go_enter Try.func68, Try.ntmps68
  go_wp2_with fail
  refine C.out.mono ?_
  rintro e w1 ⟨rfl, hb⟩
  have K1 := hide hb
  clear hb
  go_wp2
  go_ret2
  exact ⟨rfl, btrans K.out K1.out⟩
end Go.Proofs.Ytncdilkcblakhaa.Dv
