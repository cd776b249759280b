import Derived.Test.YtdpdlbonlpdkjaaDoorAwake
import Derived.Deep.DeepCutAuto
import Derived.Deep.RegionHeld3
namespace Go.Proofs.YtdpdlbonlpdkjaaDoor.Bs
open Go Go.RowKit
set_option linter.unusedVariables false
theorem bc_split (p : Nat → Bool) (n a b c : Nat) (h1 : a ≤ b) (h2 : b ≤ c) :
    bc (fun i => p i && (decide (a ≤ i) && decide (i < b))) n + bc (fun i => p i && (decide (b ≤ i) && decide (i < c))) n = bc (fun i => p i && (decide (a ≤ i) && decide (i < c))) n := by
  induction n with
  | zero => rfl
  | succ n ih =>
    simp only [bc]
    have e : (if (p n && (decide (a ≤ n) && decide (n < b))) = true then 1 else 0) + (if (p n && (decide (b ≤ n) && decide (n < c))) = true then 1 else 0) = (if (p n && (decide (a ≤ n) && decide (n < c))) = true then 1 else 0) := by
      cases p n
      · simp
      · by_cases c1 : a ≤ n <;> by_cases c2 : n < b <;> by_cases c3 : n < c <;> by_cases c4 : b ≤ n <;> simp [c1, c2, c3, c4] <;> omega
    omega
theorem bc_one (p : Nat → Bool) (n a : Nat) (h : a < n) : bc (fun i => p i && (decide (a ≤ i) && decide (i < a + 1))) n = if p a = true then 1 else 0 := by
  have hz : ∀ m, m ≤ a → bc (fun i => p i && (decide (a ≤ i) && decide (i < a + 1))) m = 0 := by
    intro m hm
    induction m with
    | zero => rfl
    | succ m ih =>
      simp only [bc]
      rw [ih (by omega), if_neg]
      have : ¬ a ≤ m := by omega
      simp [this]
  induction n with
  | zero => omega
  | succ n ih =>
    simp only [bc]
    by_cases c : a < n
    · rw [ih c]
      have : ¬ n < a + 1 := by omega
      simp [this]
    · have e : n = a := by omega
      subst e
      rw [hz n (by omega)]
      simp
/-- the number of ones between two ints -/
def cntI (ws : List Nat) (f t : Int) : Int := (cnt ws f.toNat t.toNat : Nat)
theorem cntI_bd {ws : List Nat} (hl : ws.length ≤ 64) (f t : Int) : 0 ≤ cntI ws f t ∧ cntI ws f t ≤ 4096 := by
  unfold cntI cnt cntTo
  have := bc_le (fun i => bitAt ws i && (decide (f.toNat ≤ i) && decide (i < t.toNat))) (64 * ws.length)
  omega
theorem cntI_sum (ws : List Nat) (i k : Nat) (h : i ≤ k) : cntI ws 0 i + cntI ws i k = cntI ws 0 k := by
  unfold cntI cnt cntTo
  have := bc_split (bitAt ws) (64 * ws.length) 0 i k (by omega) h
  simp only [Int.toNat_natCast, Int.toNat_zero]
  omega
theorem cntI_one (ws : List Nat) (i : Nat) (h : i < 64 * ws.length) : cntI ws i ((i : Int) + 1) = if bitAt ws i = true then 1 else 0 := by
  unfold cntI cnt cntTo
  have := bc_one (bitAt ws) (64 * ws.length) i h
  rw [show ((i : Int) + 1).toNat = i + 1 by omega, Int.toNat_natCast, this]
  split <;> rfl
theorem count_of (s : Int) (A : Option Addr) (ws : List Nat) (c : Nat) (hw : ∀ x ∈ ws, x < 2 ^ 64) (he : chk s ws = 0) (f t : Int) (w : World) (h1 : 0 ≤ f) (h2 : f ≤ t) (h3 : t ≤ s) (hr : Wd w A ws) :
    Calls Tryd.prog 26 #[.agg #[.int .i64 s, .slice A ws.length c], .int .i64 f, .int .i64 t] w fun e w' => e = .returned (.int .i64 (cntI ws f t)) ∧ Below w.heap.size w w' := by
  obtain ⟨S, rfl⟩ : ∃ S : Nat, s = (S : Int) := ⟨s.toNat, by omega⟩
  obtain ⟨lo, rfl⟩ : ∃ S : Nat, f = (S : Int) := ⟨f.toNat, by omega⟩
  obtain ⟨hi, rfl⟩ : ∃ S : Nat, t = (S : Int) := ⟨t.toNat, by omega⟩
  exact count_good S lo hi A ws c w hr hw he (by omega) (by omega)
theorem counts_bad (s i k e0 : Int) (A : Option Addr) (ws : List Nat) (c : Nat) (w : World) (ht : Tab w) (hr : Wd w A ws) (hw : ∀ x ∈ ws, x < 2 ^ 64) (hn : ws.length ≤ 9223372036854775807) (he : chk s ws = e0)
    (h : (e0 == 0) = false ∨ (e0 = 0 ∧ i < 0) ∨ (e0 = 0 ∧ 0 ≤ i ∧ k < i) ∨ (e0 = 0 ∧ 0 ≤ i ∧ i ≤ k ∧ s < k)) :
    Calls Tryd.prog 8 #[.agg #[.int .i64 s, .slice A ws.length c], .int .i64 i, .int .i64 k] w fun e w' => e = .returned (.bool true) ∧ Below w.heap.size w w' := by
  have hc : ∀ W, Wd W A ws → Calls Tryd.prog 26 #[.agg #[.int .i64 s, .slice A ws.length c], .int .i64 i, .int .i64 k] W fun e w' => e = .returned (.int .i64 0) ∧ Below W.heap.size W w' := fun W hr => by
    by_cases h0 : e0 = 0
    · exact count_range s i k A ws c W hr hw hn (by rw [he, h0]) (by rcases h with h | h | h | h <;> simp [h0] at h <;> omega)
    · exact count_far s i k e0 A ws c W hr hw hn he (by simpa using h0)
  have hch := fun W hr => check_any s A ws c W hr hw hn
  rw [he] at hch
  have HT := hide (ht.below (bal (brefl w) (.cells #[.int .i64 s, .slice A ws.length c] 24)))
  have HR := hide (hr.below (bal (brefl w) (.cells #[.int .i64 s, .slice A ws.length c] 24)))
  have HC := hide hc
  have HCH := hide hch
  have HH := hide h
  clear hc ht hr hw hch he h
  go_enter Tryd.func8, Tryd.ntmps8
  go_wp2_with fail
  refine (awake _ HT.out).mono ?_
  rintro e w1 ⟨rfl, hb1⟩
  have b1 : BoxIs w1 w.heap.size s (.slice A ws.length c) := (BoxIs.new w s (.slice A ws.length c)).below hb1
  have P1 := hide (And.intro (btrans (bal (brefl _) _) hb1) (And.intro b1 (HR.out.below hb1)))
  have x0 := b1.c0
  have x1 := b1.c1
  clear hb1 b1
  go_wp2_with fail
  refine (HCH.out _ P1.out.2.2).mono ?_
  rintro e w2 ⟨rfl, hb2⟩
  have b2 := P1.out.2.1.below hb2
  have P2 := hide (And.intro (btrans P1.out.1 hb2) (P1.out.2.2.below hb2))
  have y0 := b2.c0
  have y1 := b2.c1
  clear hb2 b2 x0 x1
  rcases HH.out with h | ⟨rfl, h⟩ | ⟨rfl, h, h'⟩ | ⟨rfl, h, h', h''⟩
  · have h2 : (e0 != 0) = true := by rw [bne, h]; rfl
    go_wp2_with (go_at_call 26; refine (HC.out _ P2.out.2).mono ?_; rintro e w3 ⟨rfl, hb3⟩)
    go_ret
    exact ⟨rfl, btrans P2.out.1 hb3⟩
  all_goals
    go_wp2_with (go_at_call 26; refine (HC.out _ P2.out.2).mono ?_; rintro e w3 ⟨rfl, hb3⟩)
    all_goals go_ret
    all_goals exact ⟨rfl, btrans P2.out.1 hb3⟩
set_option maxHeartbeats 8000000 in
theorem counts_good (S i k : Nat) (A : Option Addr) (ws : List Nat) (c : Nat) (w : World) (ht : Tab w) (hr : Wd w A ws) (hw : ∀ x ∈ ws, x < 2 ^ 64) (he : chk (S : Int) ws = 0) (h1 : i ≤ k) (h2 : k ≤ S) :
    Calls Tryd.prog 8 #[.agg #[.int .i64 S, .slice A ws.length c], .int .i64 i, .int .i64 k] w fun e w' => e = .returned (.bool true) ∧ Below w.heap.size w w' := by
  obtain ⟨v1, v2, v3, v4⟩ := valid_len he
  have hS1 : S ≤ 64 * ws.length := by omega
  have hS2 : S ≤ 4096 := by omega
  have hc := fun (f t : Int) (W : World) (h1 : 0 ≤ f) (h2 : f ≤ t) (h3 : t ≤ (S : Int)) (hr : Wd W A ws) => count_of (S : Int) A ws c hw he f t W h1 h2 h3 hr
  have hch := fun W hr => check_any (S : Int) A ws c W hr hw (by omega)
  have hg := fun W hr => get_any (S : Int) (i : Int) A ws c W hr hw (by omega)
  rw [he] at hch
  have hgb : i < S → getB (S : Int) ws (i : Int) = bitAt ws i := fun h => by
    unfold getB
    rw [decide_eq_true ⟨he, by omega, by omega⟩]; simp
  have HGB := hide hgb
  have HT := hide (ht.below (bal (brefl w) (.cells #[.int .i64 (S : Int), .slice A ws.length c] 24)))
  have HR := hide (hr.below (bal (brefl w) (.cells #[.int .i64 (S : Int), .slice A ws.length c] 24)))
  have HC := hide hc
  have HCH := hide hch
  have HG := hide hg
  have hs := cntI_sum ws i k h1
  obtain ⟨d1, d2⟩ := cntI_bd v1 0 i
  obtain ⟨d3, d4⟩ := cntI_bd v1 i k
  clear hc ht hr hw hch he hg hgb v2 v3 v4
  go_enter Tryd.func8, Tryd.ntmps8
  go_wp2_with fail
  refine (awake _ HT.out).mono ?_
  rintro e w1 ⟨rfl, hb1⟩
  have b1 : BoxIs w1 w.heap.size S (.slice A ws.length c) := (BoxIs.new w S (.slice A ws.length c)).below hb1
  have P1 := hide (And.intro (btrans (bal (brefl _) _) hb1) (And.intro b1 (HR.out.below hb1)))
  have x0 := b1.c0
  have x1 := b1.c1
  clear hb1 b1
  go_wp2_with fail
  refine (HCH.out _ P1.out.2.2).mono ?_
  rintro e w2 ⟨rfl, hb2⟩
  have b2 := P1.out.2.1.below hb2
  have P2 := hide (And.intro (btrans P1.out.1 hb2) (And.intro b2 (P1.out.2.2.below hb2)))
  have y0 := b2.c0
  have y1 := b2.c1
  clear hb2 b2 x0 x1
  have HS := hide hs
  have K := hide (brefl w2)
  go_wp2_with fail
  go_region_held3 (fun w' => w'.cell? ⟨w.heap.size, 0, none⟩ = some (.int .i64 S) ∧ w'.cell? ⟨w.heap.size, 1, none⟩ = some (.slice A ws.length c))
    (first | exact ⟨(P2.out.2.1.below K.out).c0, (P2.out.2.1.below K.out).c1⟩)
    (first
    | (go_at_call 26; refine (HC.out _ _ _ (by omega) (by omega) (by omega) (P2.out.2.2.below (by first | exact K.out | exact below_drewN K.out _))).mono ?_; rintro e wk ⟨rfl, hbk⟩; replace K : Hid (Below w2.heap.size w2 wk) := hide (by first | exact btrans K.out hbk | exact btrans (below_drewN K.out _) hbk); clear hbk))
  obtain ⟨d5, d6⟩ := cntI_bd v1 0 k
  have hwrap : IntKind.i64.wrap (cntI ws 0 k) = cntI ws 0 k := by rw [IntKind.wrap_i64]; omega
  have hs2 := HS.out
  have q0 := (P2.out.2.1.below K.out).c0
  have q1 := (P2.out.2.1.below K.out).c1
  clear y0 y1
  by_cases hi : i < S
  · have hone := cntI_one ws i (by omega)
    have hC1 : ∀ W, Wd W A ws → Calls Tryd.prog 26 #[.agg #[.int .i64 S, .slice A ws.length c], .int .i64 i, .int .i64 ((i : Int) + 1)] W fun e w' => e = .returned (.int .i64 (if bitAt ws i = true then 1 else 0)) ∧ Below W.heap.size W w' := fun W hr => by
      have := HC.out i ((i : Int) + 1) W (by omega) (by omega) (by omega) hr
      rw [hone] at this
      exact this
    have hG1 : ∀ W, Wd W A ws → Calls Tryd.prog 19 #[.agg #[.int .i64 S, .slice A ws.length c], .int .i64 i] W fun e w' => e = .returned (.bool (bitAt ws i)) ∧ Below W.heap.size W w' := fun W hr => by
      have := HG.out W hr
      rw [HGB.out hi] at this
      exact this
    have hne : ((i : Int) == (S : Int)) = false := by rw [beq_eq_false_iff_ne]; omega
    have hne2 : (i == S) = false := by rw [beq_eq_false_iff_ne]; omega
    clear hone
    cases hv : bitAt ws i
    all_goals
      rw [hv] at hC1 hG1
      first | rw [if_pos rfl] at hC1 | rw [if_neg (by simp)] at hC1
      have HC1 := hide hC1
      have HG1 := hide hG1
      clear hC1 hG1 hv
      have hw1 : IntKind.i64.wrap ((i : Int) + 1) = (i : Int) + 1 := by rw [IntKind.wrap_i64]; omega
      go_wp2_with fail
      go_region_held3 (fun w' => w'.cell? ⟨w.heap.size, 0, none⟩ = some (.int .i64 S) ∧ w'.cell? ⟨w.heap.size, 1, none⟩ = some (.slice A ws.length c))
        (first | exact ⟨(P2.out.2.1.below K.out).c0, (P2.out.2.1.below K.out).c1⟩)
        (first
        | (go_at_call 26; refine (HC1.out _ (P2.out.2.2.below (by first | exact K.out | exact below_drewN K.out _))).mono ?_; rintro e wk ⟨rfl, hbk⟩; replace K : Hid (Below w2.heap.size w2 wk) := hide (by first | exact btrans K.out hbk | exact btrans (below_drewN K.out _) hbk); clear hbk)
        | (go_at_call 19; refine (HG1.out _ (P2.out.2.2.below (by first | exact K.out | exact below_drewN K.out _))).mono ?_; rintro e wl ⟨rfl, hbk⟩; replace K : Hid (Below w2.heap.size w2 wl) := hide (by first | exact btrans K.out hbk | exact btrans (below_drewN K.out _) hbk); clear hbk))
      all_goals
        go_wp2
        go_ret
        exact ⟨rfl, by first | exact btrans P2.out.1 K.out | exact btrans P2.out.1 (below_drewN K.out _)⟩
  · obtain rfl : i = S := by omega
    go_wp2_with fail
    go_quiet (fail)
    go_wp2
    go_ret
    exact ⟨rfl, by first | exact btrans P2.out.1 K.out | exact below_drewN (btrans P2.out.1 K.out) _⟩
theorem law_counts (s i k : Int) (A : Option Addr) (ws : List Nat) (c : Nat) (w : World) (ht : Tab w) (hr : Wd w A ws) (hw : ∀ x ∈ ws, x < 2 ^ 64) (hn : ws.length ≤ 9223372036854775807) :
    Calls Tryd.prog 8 #[.agg #[.int .i64 s, .slice A ws.length c], .int .i64 i, .int .i64 k] w fun e w' => e = .returned (.bool true) ∧ Below w.heap.size w w' := by
  by_cases h0 : chk s ws = 0
  · obtain ⟨v1, v2, v3, v4⟩ := valid_len h0
    by_cases h1 : 0 ≤ i ∧ i ≤ k ∧ k ≤ s
    · obtain ⟨S, rfl⟩ : ∃ S : Nat, s = (S : Int) := ⟨s.toNat, by omega⟩
      obtain ⟨I, rfl⟩ : ∃ S : Nat, i = (S : Int) := ⟨i.toNat, by omega⟩
      obtain ⟨J, rfl⟩ : ∃ S : Nat, k = (S : Int) := ⟨k.toNat, by omega⟩
      exact counts_good S I J A ws c w ht hr hw h0 (by omega) (by omega)
    · exact counts_bad s i k _ A ws c w ht hr hw hn h0 (by omega)
  · exact counts_bad s i k _ A ws c w ht hr hw hn rfl (.inl (by simpa using h0))
end Go.Proofs.YtdpdlbonlpdkjaaDoor.Bs
