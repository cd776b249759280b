import Derived.Test.YtdpdlbonlpdkjaaDoorAwake
namespace Go.Proofs.YtdpdlbonlpdkjaaDoor.Bs
open Go Go.RowKit
set_option linter.unusedVariables false
theorem finds_out (s f e0 : Int) (on : Bool) (A : Option Addr) (ws : List Nat) (c : Nat) (w : World) (ht : Tab w) (hr : Wd w A ws) (hw : ∀ x ∈ ws, x < 2 ^ 64) (hn : ws.length ≤ 9223372036854775807) (hf2 : f ≤ 9223372036854775807) (he : chk s ws = e0)
    (h : (e0 == 0) = false ∨ (e0 = 0 ∧ f < 0) ∨ (e0 = 0 ∧ 0 ≤ f ∧ s ≤ f)) (hs0 : e0 = 0 → 0 ≤ s ∧ s ≤ 4096) :
    Calls Tryd.prog 6 #[.agg #[.int .i64 s, .slice A ws.length c], .int .i64 f, .bool on] w fun e w' => e = .returned (.bool true) ∧ Below w.heap.size w w' := by
  have hfd : ∀ W, Tab W → Wd W A ws → Calls Tryd.prog 23 #[.agg #[.int .i64 s, .slice A ws.length c], .int .i64 f, .bool on] W fun e w' => e = .returned (.int .i64 (-1)) ∧ Below W.heap.size W w' := fun W ht hr => by
    rcases h with h | ⟨h0, h⟩ | ⟨h0, h, h'⟩
    · exact find_no s f e0 A ws c on W hr hw hn he (.inl h)
    · exact find_no s f e0 A ws c on W hr hw hn he (.inr h)
    · obtain ⟨a, b⟩ := hs0 h0
      obtain ⟨S, rfl⟩ : ∃ S : Nat, s = (S : Int) := ⟨s.toNat, by omega⟩
      obtain ⟨F, rfl⟩ : ∃ S : Nat, f = (S : Int) := ⟨f.toNat, by omega⟩
      exact (find_in S F A ws c on W ht hr hw (by rw [he, h0]) (by omega)).mono fun e w' ⟨r, e1, e2, e3⟩ => by
        rcases e2 with ⟨e2, _⟩ | ⟨p, _, e4, e5, _⟩
        · exact ⟨by rw [e1, e2], e3⟩
        · omega
  have hch := fun W hr => check_any s A ws c W hr hw hn
  rw [he] at hch
  have HT := hide (ht.below (bal (brefl w) (.cells #[.int .i64 s, .slice A ws.length c] 24)))
  have HR := hide (hr.below (bal (brefl w) (.cells #[.int .i64 s, .slice A ws.length c] 24)))
  have HF := hide hfd
  have HCH := hide hch
  have HH := hide h
  have HS0 := hide hs0
  clear hfd ht hr hw hch he h hs0
  go_enter Tryd.func6, Tryd.ntmps6
  go_wp2_with fail
  refine (awake _ HT.out).mono ?_
  rintro e w1 ⟨rfl, hb1⟩
  have b1 : BoxIs w1 w.heap.size s (.slice A ws.length c) := (BoxIs.new w s (.slice A ws.length c)).below hb1
  have P1 := hide (And.intro (btrans (bal (brefl _) _) hb1) (And.intro b1 (And.intro (HR.out.below hb1) (HT.out.below hb1))))
  have x0 := b1.c0
  have x1 := b1.c1
  clear hb1 b1
  go_wp2_with fail
  refine (HF.out _ P1.out.2.2.2 P1.out.2.2.1).mono ?_
  rintro e w2 ⟨rfl, hb2⟩
  have b2 := P1.out.2.1.below hb2
  have P2 := hide (And.intro (btrans P1.out.1 hb2) (And.intro b2 (P1.out.2.2.1.below hb2)))
  have y0 := b2.c0
  have y1 := b2.c1
  clear hb2 b2 x0 x1
  go_wp2_with fail
  refine (HCH.out _ P2.out.2.2).mono ?_
  rintro e w3 ⟨rfl, hb3⟩
  have b3 := P2.out.2.1.below hb3
  have P3 := hide (btrans P2.out.1 hb3)
  have z0 := b3.c0
  have z1 := b3.c1
  clear hb3 b3 y0 y1
  rcases HH.out with h | ⟨rfl, h⟩ | ⟨rfl, h, h'⟩
  · have h2 : (e0 != 0) = true := by rw [bne, h]; rfl
    go_wp2
    go_ret
    exact ⟨rfl, P3.out⟩
  all_goals
    obtain ⟨g1, g2⟩ := HS0.out rfl
    go_wp2
    all_goals go_ret
    all_goals exact ⟨rfl, P3.out⟩
/-- no bit from frm on, below k, is on -/
def offTo (ws : List Nat) (frm k : Nat) (on : Bool) : Prop := ∀ i, frm ≤ i → i < k → bitAt ws i = !on
theorem finds_at (S F E : Nat) (r : Int) (on : Bool) (A : Option Addr) (ws : List Nat) (c : Nat) (w : World) (ht : Tab w) (hr : Wd w A ws) (hw : ∀ x ∈ ws, x < 2 ^ 64) (he : chk (S : Int) ws = 0) (hF : F < S)
    (hfd : ∀ W, Tab W → Wd W A ws → Calls Tryd.prog 23 #[.agg #[.int .i64 S, .slice A ws.length c], .int .i64 F, .bool on] W fun e w' => e = .returned (.int .i64 r) ∧ Below W.heap.size W w')
    (hoff : offTo ws F E on) (hFE : F ≤ E) (hES : E ≤ S) (hE : (r = -1 ∧ E = S) ∨ (r = (E : Int) ∧ E < S ∧ bitAt ws E = on)) :
    Calls Tryd.prog 6 #[.agg #[.int .i64 S, .slice A ws.length c], .int .i64 F, .bool on] w fun e w' => e = .returned (.bool true) ∧ Below w.heap.size w w' := by
  obtain ⟨v1, v2, v3, v4⟩ := valid_len he
  have hS2 : S ≤ 4096 := by omega
  have hch := fun W hr => check_any (S : Int) A ws c W hr hw (by omega)
  rw [he] at hch
  have hg : ∀ (k : Nat), k < S → ∀ W, Wd W A ws → Calls Tryd.prog 19 #[.agg #[.int .i64 S, .slice A ws.length c], .int .i64 k] W fun e w' => e = .returned (.bool (bitAt ws k)) ∧ Below W.heap.size W w' := fun k hk W hr => by
    have h := get_any (S : Int) (k : Int) A ws c W hr hw (by omega)
    have hgb : getB (S : Int) ws (k : Int) = bitAt ws k := by
      unfold getB
      rw [decide_eq_true ⟨he, by omega, by omega⟩]; simp
    rw [hgb] at h
    exact h
  have HT := hide (ht.below (bal (brefl w) (.cells #[.int .i64 (S : Int), .slice A ws.length c] 24)))
  have HR := hide (hr.below (bal (brefl w) (.cells #[.int .i64 (S : Int), .slice A ws.length c] 24)))
  have HF := hide hfd
  have HCH := hide hch
  have HG := hide hg
  have HO := hide hoff
  have HE := hide hE
  clear hfd ht hr hw hch he hg hoff hE v2 v3 v4
  go_enter Tryd.func6, Tryd.ntmps6
  go_wp2_with fail
  refine (awake _ HT.out).mono ?_
  rintro e w1 ⟨rfl, hb1⟩
  have b1 : BoxIs w1 w.heap.size S (.slice A ws.length c) := (BoxIs.new w S (.slice A ws.length c)).below hb1
  have P1 := hide (And.intro (btrans (bal (brefl _) _) hb1) (And.intro b1 (And.intro (HR.out.below hb1) (HT.out.below hb1))))
  have x0 := b1.c0
  have x1 := b1.c1
  clear hb1 b1
  go_wp2_with fail
  refine (HF.out _ P1.out.2.2.2 P1.out.2.2.1).mono ?_
  rintro e w2 ⟨rfl, hb2⟩
  have b2 := P1.out.2.1.below hb2
  have P2 := hide (And.intro (btrans P1.out.1 hb2) (And.intro b2 (P1.out.2.2.1.below hb2)))
  have y0 := b2.c0
  have y1 := b2.c1
  clear hb2 b2 x0 x1
  go_wp2_with fail
  refine (HCH.out _ P2.out.2.2).mono ?_
  rintro e w3 ⟨rfl, hb3⟩
  have b3 := P2.out.2.1.below hb3
  have P3 := hide (And.intro (btrans P2.out.1 hb3) (And.intro b3 (P2.out.2.2.below hb3)))
  have z0 := b3.c0
  have z1 := b3.c1
  clear hb3 b3 y0 y1
  rcases HE.out with ⟨rfl, hES2⟩ | ⟨rfl, hES2, hbE⟩
  · go_wp2_with fail
    go_loopw [8] (fun i wr => ∃ k : Nat, F ≤ k ∧ k ≤ S ∧ i = .int .i64 k ∧ Below w3.heap.size w3 wr) (fun i _ => S - (intOf i).toNat)
    case atStart => exact ⟨F, Nat.le_refl _, by omega, rfl, brefl _⟩
    case round =>
      obtain ⟨k, hk1, hk2, rfl, hb⟩ := hrel
      have bb := P3.out.2.1.below hb
      have q0 := bb.c0
      have q1 := bb.c1
      have HB := hide hb
      have hm1 : ((k : Int) == -1) = false := by rw [beq_eq_false_iff_ne]; omega
      have hm2 : ((k : Int) != -1) = true := by rw [bne, hm1]; rfl
      clear hb bb z0 z1
      by_cases hlt : k < S
      · have hgk := HG.out k hlt
        rw [HO.out k hk1 (by omega)] at hgk
        have HGK := hide hgk
        clear hgk
        go_wp2_with (go_at_call 19; refine (HGK.out _ (P3.out.2.2.below HB.out)).mono ?_; rintro e w4 ⟨rfl, hb4⟩)
        have HB4 := hide (btrans HB.out hb4)
        cases on
        all_goals
          go_wp2
          go_roundw
          case rel => exact ⟨k + 1, by omega, by omega, by go_num, HB4.out⟩
          case measure => simp [intOf]; omega
      · go_wp2
        go_ret
        exact ⟨rfl, btrans P3.out.1 HB.out⟩
  · have hE1 := HG.out E hES2
    rw [hbE] at hE1
    have HE1 := hide hE1
    have dd1 : decide (S ≤ E) = false := by rw [decide_eq_false]; omega
    have dd2 : decide (E < F) = false := by rw [decide_eq_false]; omega
    clear hE1 hbE
    go_wp2_with (go_at_call 19; refine (HE1.out _ P3.out.2.2).mono ?_; rintro e w4 ⟨rfl, hb4⟩)
    have b4 := P3.out.2.1.below hb4
    have P4 := hide (And.intro (btrans P3.out.1 hb4) (And.intro b4 (P3.out.2.2.below hb4)))
    clear hb4 b4 z0 z1
    go_loopw [8] (fun i wr => ∃ k : Nat, F ≤ k ∧ k ≤ E ∧ i = .int .i64 k ∧ Below w4.heap.size w4 wr) (fun i _ => E - (intOf i).toNat)
    case atStart => exact ⟨F, Nat.le_refl _, hFE, rfl, brefl _⟩
    case round =>
      obtain ⟨k, hk1, hk2, rfl, hb⟩ := hrel
      have bb := P4.out.2.1.below hb
      have q0 := bb.c0
      have q1 := bb.c1
      have HB := hide hb
      clear hb bb
      by_cases hlt : k < E
      · have hm1 : ((k : Int) == (E : Int)) = false := by rw [beq_eq_false_iff_ne]; omega
        have hm2 : ((k : Int) != (E : Int)) = true := by rw [bne, hm1]; rfl
        have hm3 : (k == E) = false := by rw [beq_eq_false_iff_ne]; omega
        have hm4 : (k != E) = true := by rw [bne, hm3]; rfl
        have hgk := HG.out k (by omega)
        rw [HO.out k hk1 hlt] at hgk
        have HGK := hide hgk
        clear hgk
        go_wp2_with (go_at_call 19; refine (HGK.out _ (P4.out.2.2.below HB.out)).mono ?_; rintro e w5 ⟨rfl, hb5⟩)
        have HB5 := hide (btrans HB.out hb5)
        cases on
        all_goals
          go_wp2
          go_roundw
          case rel => first | exact ⟨k + 1, by omega, by omega, by go_num, HB5.out⟩ | ((repeat apply Exists.intro); exact ⟨⟨k + 1, by omega, by omega, by go_num, HB5.out⟩, rfl⟩)
          case measure => simp [intOf]; omega
      · obtain rfl : k = E := by omega
        go_wp2
        go_ret
        exact ⟨rfl, btrans P4.out.1 HB.out⟩
theorem law_finds (s f : Int) (on : Bool) (A : Option Addr) (ws : List Nat) (c : Nat) (w : World) (ht : Tab w) (hr : Wd w A ws) (hw : ∀ x ∈ ws, x < 2 ^ 64) (hn : ws.length ≤ 9223372036854775807) (_hf1 : -9223372036854775808 ≤ f) (hf2 : f ≤ 9223372036854775807) :
    Calls Tryd.prog 6 #[.agg #[.int .i64 s, .slice A ws.length c], .int .i64 f, .bool on] w fun e w' => e = .returned (.bool true) ∧ Below w.heap.size w w' := by
  by_cases h0 : chk s ws = 0
  · obtain ⟨v1, v2, v3, v4⟩ := valid_len h0
    by_cases h1 : 0 ≤ f ∧ f < s
    · obtain ⟨S, rfl⟩ : ∃ S : Nat, s = (S : Int) := ⟨s.toNat, by omega⟩
      obtain ⟨F, rfl⟩ : ∃ S : Nat, f = (S : Int) := ⟨f.toNat, by omega⟩
      have flip : ∀ i, bitAt ws i ≠ on → bitAt ws i = !on := fun i h => by cases on <;> cases hb : bitAt ws i <;> simp_all
      have ex : ∃ r : Int, FindIs ws S F on r := by
        by_cases hex : ∃ n, n < S - F ∧ bitAt ws (F + n) = on
        · have hmin : ∀ n, (∃ m, m < n ∧ bitAt ws (F + m) = on) → ∃ m, m < n ∧ bitAt ws (F + m) = on ∧ ∀ j, j < m → bitAt ws (F + j) ≠ on := by
            intro n
            induction n with
            | zero => rintro ⟨m, hm, _⟩; omega
            | succ n ih =>
              rintro ⟨m, hm, hb⟩
              by_cases hp : ∃ m, m < n ∧ bitAt ws (F + m) = on
              · obtain ⟨q, q1, q2, q3⟩ := ih hp
                exact ⟨q, by omega, q2, q3⟩
              · refine ⟨m, hm, hb, fun j hj hbj => hp ⟨j, by omega, hbj⟩⟩
          obtain ⟨m, m1, m2, m3⟩ := hmin _ hex
          exact ⟨((F + m : Nat) : Int), .inr ⟨F + m, rfl, by omega, by omega, m2, fun i h1 h2 => by have := m3 (i - F) (by omega); rwa [show F + (i - F) = i by omega] at this⟩⟩
        · exact ⟨-1, .inl ⟨rfl, fun i h1 h2 hb => hex ⟨i - F, by omega, by rwa [show F + (i - F) = i by omega]⟩⟩⟩
      obtain ⟨r, hr0⟩ := ex
      have hfd : ∀ W, Tab W → Wd W A ws → Calls Tryd.prog 23 #[.agg #[.int .i64 S, .slice A ws.length c], .int .i64 F, .bool on] W fun e w' => e = .returned (.int .i64 r) ∧ Below W.heap.size W w' := fun W ht hr =>
        (find_in S F A ws c on W ht hr hw h0 (by omega)).mono fun e w' ⟨r', e1, e2, e3⟩ => by
          obtain rfl := e2.one hr0
          exact ⟨e1, e3⟩
      rcases hr0 with ⟨rfl, h2⟩ | ⟨p, rfl, h2, h3, h4, h5⟩
      · exact finds_at S F S (-1) on A ws c w ht hr hw h0 (by omega) hfd (fun i a b => flip i (h2 i a b)) (by omega) (Nat.le_refl _) (.inl ⟨rfl, rfl⟩)
      · exact finds_at S F p p on A ws c w ht hr hw h0 (by omega) hfd (fun i a b => flip i (h5 i a b)) h2 (by omega) (.inr ⟨rfl, h3, h4⟩)
    · exact finds_out s f _ on A ws c w ht hr hw hn hf2 h0 (by omega) (fun _ => ⟨v3, v4⟩)
  · exact finds_out s f _ on A ws c w ht hr hw hn hf2 rfl (.inl (by simpa using h0)) (fun h => absurd h h0)
end Go.Proofs.YtdpdlbonlpdkjaaDoor.Bs
