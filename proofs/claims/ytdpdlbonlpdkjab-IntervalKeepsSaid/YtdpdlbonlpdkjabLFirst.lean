import Derived.Test.YtdpdlbonlpdkjabLLaws
import Derived.Test.YtdpdlbonlpdkjabLChecks
namespace Go.Proofs.Ytdpdlbonlpdkjab.Iv
open Go Go.RowKit
set_option linter.unusedVariables false
theorem fit_none : ∀ {R : IL} {n : Int}, firstFit R n = none → ∀ p ∈ R, ¬ n ≤ p.2 - p.1
  | [], _, _, p, hp => by cases hp
  | (f, t) :: l, n, h, p, hp => by
    unfold firstFit at h
    split at h
    · cases h
    · rcases List.mem_cons.1 hp with rfl | hp
      · assumption
      · exact fit_none h p hp
theorem edge_mem : ∀ {R : IL} {p : Int × Int}, p ∈ R → p.1 ∈ edges R
  | (f, t) :: l, p, hp => by
    rcases List.mem_cons.1 hp with rfl | hp
    · simp [edges]
    · simp [edges, edge_mem hp]
theorem fit_some : ∀ {R : IL} {n a : Int}, asc (edges R) → firstFit R n = some a → (∃ p ∈ R, p.1 = a ∧ n ≤ p.2 - p.1) ∧ ∀ q ∈ R, n ≤ q.2 - q.1 → a ≤ q.1
  | [], _, _, _, h => by cases h
  | (f, t) :: l, n, a, ha, h => by
    have h1 := List.pairwise_cons.1 ha
    have h2 := List.pairwise_cons.1 h1.2
    unfold firstFit at h
    split at h
    · rename_i hfit
      injection h with h
      subst h
      refine ⟨⟨(f, t), List.mem_cons_self, rfl, hfit⟩, fun q hq _ => ?_⟩
      rcases List.mem_cons.1 hq with rfl | hq
      · exact Int.le_refl _
      · exact Int.le_of_lt (h1.1 _ (List.mem_cons_of_mem _ (edge_mem hq)))
    · rename_i hfit
      obtain ⟨⟨p, hp, e⟩, hq⟩ := fit_some h2.2 h
      refine ⟨⟨p, List.mem_cons_of_mem _ hp, e⟩, fun q hq2 hf => ?_⟩
      rcases List.mem_cons.1 hq2 with rfl | hq2
      · exact absurd hf hfit
      · exact hq q hq2 hf
theorem pairAt_mem {R : IL} {k : Nat} (h : k < R.length) : pairAt R k ∈ R := by
  unfold pairAt
  rw [List.getD_eq_getElem?_getD, List.getElem?_eq_getElem h]
  exact List.getElem_mem h
theorem mem_pairAt {R : IL} {p : Int × Int} (h : p ∈ R) : ∃ k, k < R.length ∧ pairAt R k = p := by
  obtain ⟨k, hk, e⟩ := List.mem_iff_getElem.1 h
  exact ⟨k, hk, by unfold pairAt; rw [List.getD_eq_getElem?_getD, List.getElem?_eq_getElem hk]; exact e⟩
theorem gap_in {R L : IL} {lo hi : Int} (ha : asc (edges R)) (hm : ∀ n, mem R n = ((decide (lo ≤ n) && decide (n < hi)) && !mem L n)) {k : Nat} (hk : k < R.length) : lo ≤ (pairAt R k).1 ∧ (pairAt R k).1 < (pairAt R k).2 ∧ (pairAt R k).2 ≤ hi ∧ ∀ n, (pairAt R k).1 ≤ n → n < (pairAt R k).2 → mem L n = false := by
  obtain ⟨p1, p2⟩ := pair_in ha hk
  have q1 := p2 _ (Int.le_refl _) p1
  have q2 := p2 ((pairAt R k).2 - 1) (by omega) (by omega)
  rw [hm] at q1 q2
  simp at q1 q2
  refine ⟨q1.1.1, p1, by omega, fun n h1 h2 => ?_⟩
  have := p2 n h1 h2
  rw [hm] at this
  simp at this
  exact this.2
theorem wrap_sub {f t : Int} (h0 : f ≤ t) (h1 : -9223372036854775808 ≤ f) (h2 : t ≤ 9223372036854775807) : IntKind.u64.wrap (IntKind.u64.wrap t - IntKind.u64.wrap f) = t - f := by
  rw [IntKind.wrap_u64, IntKind.wrap_u64, IntKind.wrap_u64]
  omega
set_option maxRecDepth 100000 in
set_option maxHeartbeats 4000000 in
theorem first_none (A : Option Addr) (L R : IL) (c : Nat) (lo hi n : Int) (w : World) (hr : Iv w A L) (hl : L.length ≤ 12) (h1 : chk L = 0) (h3 : lo ≤ hi) (hn1 : 1 ≤ n) (hn2 : n ≤ 30) (hlo : -9223372036854775808 ≤ lo) (hhi : hi ≤ 9223372036854775807)
    (ha : asc (edges R)) (hmm : ∀ m, mem R m = ((decide (lo ≤ m) && decide (m < hi)) && !mem L m)) (ho : firstFit R n = none) :
    Calls Try.prog 9 #[.slice A L.length c, .agg #[.int .i64 lo, .int .i64 hi, .int .i64 n]] w fun e w' => e = .returned (.bool true) ∧ Below w.heap.size w w' := by
  have hb0 := bal (brefl w) (.cells #[.int .i64 lo, .int .i64 hi, .int .i64 n] 34)
  have X := hide (Box3.new w lo hi n)
  have QA := hide (hr.below hb0)
  have K := hide hb0
  have HF := hide (fun W => few_lit A L.length c true W (by omega) (decide_eq_true hl))
  have C1 := hide h1
  have HR := hide (And.intro ha (And.intro hmm ho))
  have HLH := hide (And.intro hlo (And.intro hhi h3))
  have d1 : decide (hi < lo) = false := decide_eq_false (by omega)
  have d2 : decide (n < 1) = false := decide_eq_false (by omega)
  have d3 : decide (30 < n) = false := decide_eq_false (by omega)
  have HW := hide (show IntKind.u64.wrap n = n by rw [IntKind.wrap_u64]; omega)
  clear hr h1 hb0 ha hmm ho hlo hhi h3
  go_enter Try.func9, Try.ntmps9
  go_wp2_with fail
  refine (HF.out _).mono ?_
  rintro e w' ⟨rfl, rfl⟩
  go_wp2_with fail
  refine (sound_is A L c true _ QA.out (by omega) (decide_eq_true C1.out)).mono ?_
  rintro e w1 ⟨rfl, hb1⟩
  replace K := hide (btrans K.out hb1)
  replace X := hide (X.out.below hb1)
  replace QA := hide (QA.out.below hb1)
  clear hb1
  have x0 := X.out.c0
  have x1 := X.out.c1
  have x2 := X.out.c2
  go_wp2_with fail
  refine (fgap_ok A L c lo hi n _ QA.out (by omega) C1.out HLH.out.2.2 hn1 (by omega) HLH.out.1 HLH.out.2.1).mono ?_
  rintro e w2 ⟨R2, ha2, hm2, rfl, hb2⟩
  obtain rfl : R = R2 := il_ext HR.out.1 ha2 fun m => by rw [HR.out.2.1, hm2]
  rw [HR.out.2.2]
  replace K := hide (btrans K.out hb2)
  replace X := hide (X.out.below hb2)
  replace QA := hide (QA.out.below hb2)
  clear hb2 ha2 hm2 x0 x1 x2
  have x0 := X.out.c0
  have x1 := X.out.c1
  have g0 : gapAt none = 0 := rfl
  have g1 : gapEr none = 6 := rfl
  rw [g0, g1]
  clear g0 g1
  go_wp2_with fail
  refine (gaps_ok A L c lo hi _ QA.out (by omega) C1.out HLH.out.2.2).mono ?_
  rintro e w3 ⟨A3, c3, R3, rfl, ha3, hm3, hl3, hmi, hb3⟩
  obtain rfl : R = R3 := il_ext HR.out.1 ha3 fun m => by rw [HR.out.2.1, hm3]
  replace K := hide (btrans K.out hb3)
  replace X := hide (X.out.below hb3)
  have QR := hide hmi.iv
  clear hb3 ha3 hm3 hmi x0 x1 QA
  go_wp2
  go_loopw [9] (fun i wr => ∃ k : Nat, k ≤ R.length ∧ i = .int .i64 k ∧ Below w3.heap.size w3 wr) (fun i _ => R.length - (intOf i).toNat)
  case atStart => exact ⟨0, Nat.zero_le _, rfl, brefl _⟩
  case round =>
    obtain ⟨k, hk, rfl, hb⟩ := hrel
    by_cases hlt : k < R.length
    · obtain ⟨b, off, rfl, hbl, hcs⟩ := QR.out.cells hb hlt
      obtain ⟨c0, c1⟩ := hcs k hlt
      obtain ⟨p1, p2, p3, _⟩ := gap_in HR.out.1 HR.out.2.1 hlt
      have nf := fit_none HR.out.2.2 _ (pairAt_mem hlt)
      have hws := wrap_sub (f := (pairAt R k).1) (t := (pairAt R k).2) (by omega) (by have := HLH.out.1; omega) (by have := HLH.out.2.1; omega)
      have x0 := (X.out.below hb).c2
      have e1 : decide (n ≤ (pairAt R k).2 - (pairAt R k).1) = false := decide_eq_false nf
      have e2 : decide ((pairAt R k).2 ≤ (pairAt R k).1) = false := decide_eq_false (by omega)
      have HB := hide hb
      have hwn := HW.out
      generalize (pairAt R k).1 = f at *
      generalize (pairAt R k).2 = t at *
      clear hcs hb p1 p2 p3 nf
      have q0 : (0 : Int) ≤ (k : Int) := by omega
      have q1 : (k : Int) < (R.length : Int) := by omega
      go_wp2
      go_quiet (fail)
      go_wp2
      go_quiet (fail)
      clear hws hwn
      go_wp2
      go_roundw
      case rel => exact ⟨k + 1, by omega, by go_num, by first | exact below_drewN HB.out _ | exact below_drewN (below_drewN HB.out _) _⟩
      case measure => simp [intOf]; omega
    · have HB := hide hb
      clear hb
      go_wp2_with fail
      refine (awake _).mono ?_
      rintro e w5 ⟨rfl, hb5⟩
      replace K := hide (btrans K.out (btrans HB.out hb5))
      clear hb5
      go_wp2_with fail
      go_ret
      exact ⟨rfl, K.out⟩
set_option maxRecDepth 100000 in
set_option maxHeartbeats 4000000 in
theorem first_some (A : Option Addr) (L R : IL) (c : Nat) (lo hi a : Int) (n : Nat) (w : World) (hr : Iv w A L) (hl : L.length ≤ 12) (h1 : chk L = 0) (h3 : lo ≤ hi) (hn1 : 1 ≤ (n : Int)) (hn2 : (n : Int) ≤ 30) (hlo : -9223372036854775808 ≤ lo) (hhi : hi ≤ 9223372036854775807)
    (ha : asc (edges R)) (hmm : ∀ m, mem R m = ((decide (lo ≤ m) && decide (m < hi)) && !mem L m)) (ho : firstFit R (n : Int) = some a) :
    Calls Try.prog 9 #[.slice A L.length c, .agg #[.int .i64 lo, .int .i64 hi, .int .i64 (n : Int)]] w fun e w' => e = .returned (.bool true) ∧ Below w.heap.size w w' := by
  have hb0 := bal (brefl w) (.cells #[.int .i64 lo, .int .i64 hi, .int .i64 (n : Int)] 34)
  have X := hide (Box3.new w lo hi (n : Int))
  have QA := hide (hr.below hb0)
  have K := hide hb0
  have HF := hide (fun W => few_lit A L.length c true W (by omega) (decide_eq_true hl))
  have C1 := hide h1
  have HR := hide (And.intro ha (And.intro hmm ho))
  have HLH := hide (And.intro hlo (And.intro hhi h3))
  have d1 : decide (hi < lo) = false := decide_eq_false (by omega)
  have d2 : decide ((n : Int) < 1) = false := decide_eq_false (by omega)
  have d3 : decide (30 < (n : Int)) = false := decide_eq_false (by omega)
  have HW := hide (show IntKind.u64.wrap (n : Int) = (n : Int) by rw [IntKind.wrap_u64]; omega)
  have HA : Hid (lo ≤ a ∧ a + n ≤ hi ∧ (∀ m, a ≤ m → m < a + n → mem L m = false) ∧ ∀ q ∈ R, (n : Int) ≤ q.2 - q.1 → a ≤ q.1) := by
    obtain ⟨⟨p, hp, hpa, hpf⟩, hq⟩ := fit_some ha ho
    obtain ⟨k, hk, e⟩ := mem_pairAt hp
    obtain ⟨p1, p2, p3, p4⟩ := gap_in ha hmm hk
    rw [e] at p1 p2 p3 p4
    exact ⟨by omega, by omega, fun m h1 h2 => p4 m (by omega) (by omega), hq⟩
  clear hr h1 hb0 ha hmm ho hlo hhi h3
  go_enter Try.func9, Try.ntmps9
  go_wp2_with fail
  refine (HF.out _).mono ?_
  rintro e w' ⟨rfl, rfl⟩
  go_wp2_with fail
  refine (sound_is A L c true _ QA.out (by omega) (decide_eq_true C1.out)).mono ?_
  rintro e w1 ⟨rfl, hb1⟩
  replace K := hide (btrans K.out hb1)
  replace X := hide (X.out.below hb1)
  replace QA := hide (QA.out.below hb1)
  clear hb1
  have x0 := X.out.c0
  have x1 := X.out.c1
  have x2 := X.out.c2
  go_wp2_with fail
  refine (fgap_ok A L c lo hi (n : Int) _ QA.out (by omega) C1.out HLH.out.2.2 hn1 (by omega) HLH.out.1 HLH.out.2.1).mono ?_
  rintro e w2 ⟨R2, ha2, hm2, rfl, hb2⟩
  obtain rfl : R = R2 := il_ext HR.out.1 ha2 fun m => by rw [HR.out.2.1, hm2]
  rw [HR.out.2.2]
  replace K := hide (btrans K.out hb2)
  replace X := hide (X.out.below hb2)
  replace QA := hide (QA.out.below hb2)
  clear hb2 ha2 hm2 x0 x1 x2
  have x0 := X.out.c0
  have x1 := X.out.c1
  have g0 : gapAt (some a) = a := rfl
  have g1 : gapEr (some a) = 0 := rfl
  rw [g0, g1]
  clear g0 g1
  go_wp2_with fail
  refine (gaps_ok A L c lo hi _ QA.out (by omega) C1.out HLH.out.2.2).mono ?_
  rintro e w3 ⟨A3, c3, R3, rfl, ha3, hm3, hl3, hmi, hb3⟩
  obtain rfl : R = R3 := il_ext HR.out.1 ha3 fun m => by rw [HR.out.2.1, hm3]
  replace K := hide (btrans K.out hb3)
  replace X := hide (X.out.below hb3)
  have QR := hide hmi.iv
  replace QA := hide (QA.out.below hb3)
  clear hb3 ha3 hm3 hmi x0 x1
  go_wp2
  go_loopw [9] (fun i wr => ∃ k : Nat, k ≤ R.length ∧ i = .int .i64 k ∧ Below w3.heap.size w3 wr) (fun i _ => R.length - (intOf i).toNat)
  case atStart => exact ⟨0, Nat.zero_le _, rfl, brefl _⟩
  case round =>
    obtain ⟨k, hk, rfl, hb⟩ := hrel
    by_cases hlt : k < R.length
    · obtain ⟨b, off, rfl, hbl, hcs⟩ := QR.out.cells hb hlt
      obtain ⟨c0, c1⟩ := hcs k hlt
      obtain ⟨p1, p2, p3, _⟩ := gap_in HR.out.1 HR.out.2.1 hlt
      have hq := HA.out.2.2.2 _ (pairAt_mem hlt)
      have hws := wrap_sub (f := (pairAt R k).1) (t := (pairAt R k).2) (by omega) (by have := HLH.out.1; omega) (by have := HLH.out.2.1; omega)
      have x0 := (X.out.below hb).c2
      have e2 : decide ((pairAt R k).2 ≤ (pairAt R k).1) = false := decide_eq_false (by omega)
      have HB := hide hb
      have hwn := HW.out
      have q0 : (0 : Int) ≤ (k : Int) := by omega
      have q1 : (k : Int) < (R.length : Int) := by omega
      by_cases hfit : (n : Int) ≤ (pairAt R k).2 - (pairAt R k).1
      · have e1 : decide ((n : Int) ≤ (pairAt R k).2 - (pairAt R k).1) = true := decide_eq_true hfit
        have e3 : decide ((pairAt R k).1 < a) = false := decide_eq_false (by have := hq hfit; omega)
        generalize (pairAt R k).1 = f at *
        generalize (pairAt R k).2 = t at *
        clear hcs hb p1 p2 p3 hq hfit
        go_wp2
        go_quiet (fail)
        go_wp2
        go_quiet (fail)
        clear hws hwn
        go_wp2
        go_roundw
        case rel => exact ⟨k + 1, by omega, by go_num, by first | exact below_drewN HB.out _ | exact below_drewN (below_drewN HB.out _) _⟩
        case measure => simp [intOf]; omega
      · have e1 : decide ((n : Int) ≤ (pairAt R k).2 - (pairAt R k).1) = false := decide_eq_false hfit
        generalize (pairAt R k).1 = f at *
        generalize (pairAt R k).2 = t at *
        clear hcs hb p1 p2 p3 hq hfit
        go_wp2
        go_quiet (fail)
        go_wp2
        go_quiet (fail)
        clear hws hwn
        go_wp2
        go_roundw
        case rel => exact ⟨k + 1, by omega, by go_num, by first | exact below_drewN HB.out _ | exact below_drewN (below_drewN HB.out _) _⟩
        case measure => simp [intOf]; omega
    · have X4 := hide (X.out.below hb)
      have QA4 := hide (QA.out.below hb)
      have K4 := hide (btrans K.out hb)
      have x0 := X4.out.c0
      have x1 := X4.out.c1
      have x2 := X4.out.c2
      have hws := wrap_sub (f := a) (t := hi) (by have := HA.out; omega) (by have := HA.out; have := HLH.out.1; omega) (by have := HLH.out.2.1; omega)
      have hwn := HW.out
      have e1 : decide (a < lo) = false := decide_eq_false (by have := HA.out; omega)
      have e2 : decide (hi ≤ a) = false := decide_eq_false (by have := HA.out; omega)
      have e3 : decide (hi - a < (n : Int)) = false := decide_eq_false (by have := HA.out; omega)
      clear hb
      go_wp2
      clear hws hwn e1 e2 e3 x0 x1
      go_loopw [11] (fun i wr2 => ∃ j : Nat, j ≤ n ∧ i = .int .i64 j ∧ Below wr.heap.size wr wr2) (fun i _ => n - (intOf i).toNat)
      case atStart => exact ⟨0, Nat.zero_le _, rfl, brefl _⟩
      case round =>
        obtain ⟨j, hj, rfl, hb⟩ := hrel
        have HB := hide hb
        have x2 := (X4.out.below hb).c2
        have QA5 := hide (QA4.out.below hb)
        have qa : -9223372036854775808 ≤ a := by have := HA.out.1; have := HLH.out.1; omega
        have qb : a ≤ 9223372036854775807 - 30 ∨ a + (n : Int) ≤ 9223372036854775807 := by have := HA.out.2.1; have := HLH.out.2.1; omega
        clear hb
        by_cases hlt : j < n
        · have qc : a + (j : Int) ≤ 9223372036854775807 := by have := HA.out.2.1; have := HLH.out.2.1; omega
          have qd : -9223372036854775808 ≤ a + (j : Int) := by omega
          have HI := hide (in_is A L c (a + (j : Int)) false _ QA5.out (by omega) (HA.out.2.2.1 _ (by omega) (by omega)))
          clear qb
          go_wp2_with fail
          refine HI.out.mono ?_
          rintro e w6 ⟨rfl, hb6⟩
          have HB6 := hide (btrans HB.out hb6)
          clear hb6
          go_wp2
          go_roundw
          case rel => exact ⟨j + 1, by omega, by go_num, HB6.out⟩
          case measure => simp [intOf]; omega
        · clear qa qb
          go_wp2_with fail
          refine (awake _).mono ?_
          rintro e w5 ⟨rfl, hb5⟩
          have K5 := hide (btrans K4.out (btrans HB.out hb5))
          clear hb5
          go_wp2_with fail
          go_ret
          exact ⟨rfl, K5.out⟩
set_option maxRecDepth 100000 in
theorem first_bad (A : Option Addr) (L : IL) (c : Nat) (lo hi n : Int) (w : World) (hr : Iv w A L) (hl : L.length ≤ 9223372036854775807) (h : ¬ (L.length ≤ 12 ∧ chk L = 0 ∧ lo ≤ hi ∧ 1 ≤ n ∧ n ≤ 30)) :
    Calls Try.prog 9 #[.slice A L.length c, .agg #[.int .i64 lo, .int .i64 hi, .int .i64 n]] w fun e w' => e = .returned (.bool true) ∧ Below w.heap.size w w' := by
  have hb0 := bal (brefl w) (.cells #[.int .i64 lo, .int .i64 hi, .int .i64 n] 34)
  have X := hide (Box3.new w lo hi n)
  have QA := hide (hr.below hb0)
  have K := hide hb0
  clear hr hb0
  by_cases h1 : L.length ≤ 12
  · have HF := hide (fun W => few_lit A L.length c true W (by omega) (decide_eq_true h1))
    by_cases h2 : chk L = 0
    · have S1 := hide (fun W (q : Iv W A L) => sound_is A L c true W q (by omega) (decide_eq_true h2))
      by_cases h3 : lo ≤ hi
      · have d1 : decide (hi < lo) = false := decide_eq_false (by omega)
        by_cases h4 : 1 ≤ n
        · have d2 : decide (n < 1) = false := decide_eq_false (by omega)
          have d3 : decide (30 < n) = true := decide_eq_true (by
            rcases Int.lt_or_le 30 n with k | k
            · exact k
            · exact absurd ⟨h1, h2, h3, h4, k⟩ h)
          clear h h1 h2 h3 h4
          go_enter Try.func9, Try.ntmps9
          go_wp2_with fail
          refine (HF.out _).mono ?_
          rintro e w' ⟨rfl, rfl⟩
          go_wp2_with fail
          refine (S1.out _ QA.out).mono ?_
          rintro e w1 ⟨rfl, hb1⟩
          replace K := hide (btrans K.out hb1)
          replace X := hide (X.out.below hb1)
          clear hb1
          have x0 := X.out.c0
          have x1 := X.out.c1
          have x2 := X.out.c2
          go_wp2_with fail
          refine (awake _).mono ?_
          rintro e w3 ⟨rfl, hb3⟩
          replace K := hide (btrans K.out hb3)
          clear hb3
          go_wp2_with fail
          go_ret
          exact ⟨rfl, K.out⟩
        · have d2 : decide (n < 1) = true := decide_eq_true (by omega)
          clear h h1 h2 h3 h4
          go_enter Try.func9, Try.ntmps9
          go_wp2_with fail
          refine (HF.out _).mono ?_
          rintro e w' ⟨rfl, rfl⟩
          go_wp2_with fail
          refine (S1.out _ QA.out).mono ?_
          rintro e w1 ⟨rfl, hb1⟩
          replace K := hide (btrans K.out hb1)
          replace X := hide (X.out.below hb1)
          clear hb1
          have x0 := X.out.c0
          have x1 := X.out.c1
          have x2 := X.out.c2
          go_wp2_with fail
          refine (awake _).mono ?_
          rintro e w3 ⟨rfl, hb3⟩
          replace K := hide (btrans K.out hb3)
          clear hb3
          go_wp2_with fail
          go_ret
          exact ⟨rfl, K.out⟩
      · have d1 : decide (hi < lo) = true := decide_eq_true (by omega)
        clear h h1 h2 h3
        go_enter Try.func9, Try.ntmps9
        go_wp2_with fail
        refine (HF.out _).mono ?_
        rintro e w' ⟨rfl, rfl⟩
        go_wp2_with fail
        refine (S1.out _ QA.out).mono ?_
        rintro e w1 ⟨rfl, hb1⟩
        replace K := hide (btrans K.out hb1)
        replace X := hide (X.out.below hb1)
        clear hb1
        have x0 := X.out.c0
        have x1 := X.out.c1
        have x2 := X.out.c2
        go_wp2_with fail
        refine (awake _).mono ?_
        rintro e w3 ⟨rfl, hb3⟩
        replace K := hide (btrans K.out hb3)
        clear hb3
        go_wp2_with fail
        go_ret
        exact ⟨rfl, K.out⟩
    · have S1 := hide (fun W (q : Iv W A L) => sound_is A L c false W q (by omega) (decide_eq_false h2))
      clear h h1 h2
      go_enter Try.func9, Try.ntmps9
      go_wp2_with fail
      refine (HF.out _).mono ?_
      rintro e w' ⟨rfl, rfl⟩
      go_wp2_with fail
      refine (S1.out _ QA.out).mono ?_
      rintro e w1 ⟨rfl, hb1⟩
      replace K := hide (btrans K.out hb1)
      replace X := hide (X.out.below hb1)
      clear hb1
      have x0 := X.out.c0
      have x1 := X.out.c1
      have x2 := X.out.c2
      go_wp2_with fail
      refine (awake _).mono ?_
      rintro e w3 ⟨rfl, hb3⟩
      replace K := hide (btrans K.out hb3)
      clear hb3
      go_wp2_with fail
      go_ret
      exact ⟨rfl, K.out⟩
  · have HF := hide (fun W => few_lit A L.length c false W (by omega) (decide_eq_false h1))
    clear h h1
    go_enter Try.func9, Try.ntmps9
    go_wp2_with fail
    refine (HF.out _).mono ?_
    rintro e w' ⟨rfl, rfl⟩
    go_wp2_with fail
    refine (awake _).mono ?_
    rintro e w3 ⟨rfl, hb3⟩
    replace K := hide (btrans K.out hb3)
    clear hb3
    go_wp2_with fail
    go_ret
    exact ⟨rfl, K.out⟩
/-- A merge's result exists: by the states that it goes through. -/
theorem exists_op (keep : Bool → Bool → Bool) (hk : keep false false = false) (L M : IL) (hA : asc (edges L)) (hB : asc (edges M)) : ∃ R : IL, asc (edges R) ∧ ∀ n, mem R n = keep (mem L n) (mem M n) := by
  have go : ∀ (m i j : Nat) (out : IL) (st : Int) (ins : Bool) (p : Int), 2 * L.length + 2 * M.length - i - j = m → MI (edges L) (edges M) keep p i j out st ins → ∃ R : IL, asc (edges R) ∧ ∀ n, mem R n = keep (mem L n) (mem M n) := by
    intro m
    induction m using Nat.strongRecOn with
    | ind m ih =>
      intro i j out st ins p hm h
      have hi : i ≤ 2 * L.length := by have := h.sa.1; rwa [edges_length] at this
      have hj : j ≤ 2 * M.length := by have := h.sb.1; rwa [edges_length] at this
      by_cases hij : i < 2 * L.length ∨ j < 2 * M.length
      · obtain ⟨q, hq⟩ : ∃ q, q = nearE L M i j := ⟨_, rfl⟩
        have hmo := next_more hi hj hij hq
        obtain ⟨k1, k2⟩ := mi_round h hA hB hij hq
        by_cases hc : keep (odd (nextI L i q)) (odd (nextI M j q)) = ins
        · exact ih _ (by omega) _ _ _ _ _ _ rfl (k1 hc)
        · exact ih _ (by omega) _ _ _ _ _ _ rfl (k2 (by cases ins <;> cases hx : keep (odd (nextI L i q)) (odd (nextI M j q)) <;> simp_all))
      · obtain ⟨a, b⟩ := h.done hk hA hB (by omega) (by omega)
        exact ⟨out, a, b⟩
  obtain ⟨p, hp⟩ := MI.start (a := L) (b := M) hk
  exact go _ _ _ _ _ _ _ rfl hp
theorem exists_sub (L M : IL) (hA : asc (edges L)) (hB : asc (edges M)) : ∃ R : IL, asc (edges R) ∧ ∀ n, mem R n = (mem L n && !mem M n) := exists_op (fun x y => x && !y) rfl L M hA hB
theorem first_R {L : IL} (lo hi : Int) (h1 : chk L = 0) (h3 : lo ≤ hi) : ∃ R : IL, asc (edges R) ∧ ∀ m, mem R m = ((decide (lo ≤ m) && decide (m < hi)) && !mem L m) := by
  obtain ⟨R, h⟩ := exists_sub (oneL lo hi) L (oneL_asc h3) (chk_ok.1 h1)
  exact ⟨R, h.1, fun m => by rw [h.2, oneL_mem]⟩
theorem law_first (A : Option Addr) (L : IL) (c : Nat) (lo hi n : Int) (w : World) (hr : Iv w A L) (_ : ∀ x ∈ L, (-9223372036854775808 ≤ x.1 ∧ x.1 ≤ 9223372036854775807) ∧ (-9223372036854775808 ≤ x.2 ∧ x.2 ≤ 9223372036854775807)) (hl : L.length ≤ 9223372036854775807) (hlo : -9223372036854775808 ≤ lo ∧ lo ≤ 9223372036854775807) (hhi : -9223372036854775808 ≤ hi ∧ hi ≤ 9223372036854775807) (_ : -9223372036854775808 ≤ n ∧ n ≤ 9223372036854775807) :
    Calls Try.prog 9 #[.slice A L.length c, .agg #[.int .i64 lo, .int .i64 hi, .int .i64 n]] w fun e w' => e = .returned (.bool true) ∧ Below w.heap.size w w' := by
  by_cases h : L.length ≤ 12 ∧ chk L = 0 ∧ lo ≤ hi ∧ 1 ≤ n ∧ n ≤ 30
  · obtain ⟨h1, h2, h3, h4, h5⟩ := h
    obtain ⟨R, ha, hm⟩ := first_R lo hi h2 h3
    cases ho : firstFit R n with
    | none => exact first_none A L R c lo hi n w hr h1 h2 h3 h4 h5 hlo.1 hhi.2 ha hm ho
    | some a =>
      obtain ⟨N, rfl⟩ : ∃ N : Nat, n = (N : Int) := ⟨n.toNat, by omega⟩
      exact first_some A L R c lo hi a N w hr h1 h2 h3 h4 h5 hlo.1 hhi.2 ha hm ho
  · exact first_bad A L c lo hi n w hr hl h
end Go.Proofs.Ytdpdlbonlpdkjab.Iv
