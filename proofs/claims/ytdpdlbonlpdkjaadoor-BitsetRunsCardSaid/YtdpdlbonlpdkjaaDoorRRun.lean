import Derived.Test.YtdpdlbonlpdkjaaDoorAwake
namespace Go.Proofs.YtdpdlbonlpdkjaaDoor.Bs
open Go Go.RowKit
set_option linter.unusedVariables false
/-- the bits p .. n-1 are on -/
def onUpto (ws : List Nat) (p n : Nat) (on : Bool) : Prop := ∀ i, p ≤ i → i < n → bitAt ws i = on
theorem rrun_yes (s : Int) (p q : Nat) (on : Bool) (A : Option Addr) (ws : List Nat) (c : Nat) (w : World) (hr : Wd w A ws) (hw : ∀ x ∈ ws, x < 2 ^ 64) (hn : ws.length ≤ 64) (hp : p + q ≤ 64 * ws.length) (v : Bool) (hv : v = true ↔ runAt ws p q on) :
    Calls Tryd.prog 43 #[.agg #[.int .i64 s, .slice A ws.length c], .int .i64 p, .int .i64 q, .bool on] w fun e w' => e = .returned (.bool v) ∧ Below w.heap.size w w' := by
  have hb0 : Below w.heap.size w (w.alloc (.cells #[.int .i64 s, .slice A ws.length c] 24)) := bal (brefl _) _
  have hbit : ∀ (k : Nat), k < p + q → ∀ W, Below (w.heap.size + 1) (w.alloc (.cells #[.int .i64 s, .slice A ws.length c] 24)) W → Calls Tryd.prog 35 #[.agg #[.int .i64 s, .slice A ws.length c], .int .i64 k] W fun e w' => e = .returned (.bool (bitAt ws k)) ∧ Below W.heap.size W w' := fun k hk W hb =>
    bit_any s A ws c k W ((hr.below hb0).below (by simpa using hb)) hw hn (by omega)
  have HB := hide hbit
  have HV := hide hv
  clear hbit hr hw hb0 hv
  go_enter Tryd.func43, Tryd.ntmps43
  go_wp2
  go_loopw [9] (fun i wr => ∃ k : Nat, p ≤ k ∧ k ≤ p + q ∧ i = .int .i64 k ∧ onUpto ws p k on ∧ Below (w.heap.size + 1) (w.alloc (.cells #[.int .i64 s, .slice A ws.length c] 24)) wr) (fun i _ => p + q - (intOf i).toNat)
  case atStart => exact ⟨p, Nat.le_refl _, by omega, rfl, fun i h1 h2 => by omega, Below.refl _ _⟩
  case round =>
    obtain ⟨k, hk1, hk2, rfl, hon, hb⟩ := hrel
    have c0 : wr.cell? ⟨w.heap.size, 0, none⟩ = some (.int .i64 s) := by rw [hb.cell (by show w.heap.size < _; omega)]; simp [go_sem]
    have c1 : wr.cell? ⟨w.heap.size, 1, none⟩ = some (.slice A ws.length c) := by rw [hb.cell (by show w.heap.size < _; omega)]; simp [go_sem]
    have HON := hide hon
    have HBB := hide hb
    have hfin : Below w.heap.size w wr := btrans (bal (brefl _) (.cells #[.int .i64 s, .slice A ws.length c] 24)) (by simpa using hb)
    have HFIN := hide hfin
    clear hon hb hfin
    by_cases hlt : k < p + q
    · by_cases hbk : bitAt ws k = on
      · have h := HB.out k hlt wr HBB.out
        rw [hbk] at h
        have HK := hide h
        have HBK := hide hbk
        clear h hbk
        cases on
        all_goals
          go_wp2_with (go_at_call 35; refine HK.out.mono ?_; rintro e w1 ⟨rfl, hb1⟩)
          have HB1 := hide (HBB.out.trans (hb1.mono (by simpa using HBB.out.size)))
          go_roundw
          case rel => exact ⟨k + 1, by omega, by omega, by go_num, fun i h1 h2 => (Nat.lt_or_ge i k).elim (fun h => HON.out i h1 h) (fun h => by rw [show i = k by omega]; exact HBK.out), HB1.out⟩
          case measure => simp [intOf]; omega
      · have hbn : bitAt ws k = !on := by cases on <;> cases hb : bitAt ws k <;> simp_all
        have hvf : v = false := by
          cases hv : v
          · rfl
          · exact absurd ((HV.out.1 hv) k hk1 hlt) hbk
        subst hvf
        have h := HB.out k hlt wr HBB.out
        rw [hbn] at h
        have HK := hide h
        clear h hbk hbn
        cases on
        all_goals
          go_wp2_with (go_at_call 35; refine HK.out.mono ?_; rintro e w1 ⟨rfl, hb1⟩)
          go_ret
          exact ⟨rfl, btrans HFIN.out hb1⟩
    · have hvt : v = true := HV.out.2 (fun i h1 h2 => HON.out i h1 (by omega))
      subst hvt
      go_wp2
      go_ret
      exact ⟨rfl, HFIN.out⟩
theorem rfrun_no (s q a e0 : Int) (A : Option Addr) (ws : List Nat) (c : Nat) (on : Bool) (w : World) (hr : Wd w A ws) (hw : ∀ x ∈ ws, x < 2 ^ 64) (he : chk s ws = e0) (h : (e0 == 0) = false ∨ (e0 = 0 ∧ q < 1) ∨ (e0 = 0 ∧ 1 ≤ q ∧ a < 1) ∨ (e0 = 0 ∧ 1 ≤ q ∧ 1 ≤ a ∧ s < q)) :
    Calls Tryd.prog 25 #[.agg #[.int .i64 s, .slice A ws.length c], .int .i64 q, .int .i64 a, .bool on] w fun e w' => e = .returned (.int .i64 (-1)) ∧ Below w.heap.size w w' := by
  have hr' : Wd (w.alloc (.cells #[.int .i64 s, .slice A ws.length c] 24)) A ws := hr.below (bal (brefl _) _)
  have HC := rcheck_any s A ws c _ hr' hw
  rw [he] at HC
  have HCC := hide HC
  clear hw hr hr' HC he
  rcases h with h | ⟨rfl, h⟩ | ⟨rfl, h, h'⟩ | ⟨rfl, h, h', h''⟩
  · have h2 : (e0 != 0) = true := by rw [bne, h]; rfl
    go_enter Tryd.func25, Tryd.ntmps25
    go_wp2_with (go_at_call 15; refine HCC.out.mono ?_; rintro e w1 ⟨rfl, hb1⟩; obtain ⟨hc1, hf1⟩ := bcell hb1)
    go_ret
    exact ⟨rfl, btrans (bal (brefl _) _) hb1⟩
  all_goals
    go_enter Tryd.func25, Tryd.ntmps25
    go_wp2_with (go_at_call 15; refine HCC.out.mono ?_; rintro e w1 ⟨rfl, hb1⟩; obtain ⟨hc1, hf1⟩ := bcell hb1)
    all_goals go_ret
    all_goals exact ⟨rfl, btrans (bal (brefl _) _) hb1⟩
theorem noRun_step {ws : List Nat} {S q a k : Nat} {on : Bool} (h : noRun ws S q a on k) (hk : k % a ≠ 0 ∨ ¬ runAt ws k q on) : noRun ws S q a on (k + 1) := fun p hp hpa hpS hrun => by
  by_cases c : p < k
  · exact h p c hpa hpS hrun
  · obtain rfl : p = k := by omega
    rcases hk with hk | hk
    · exact hk hpa
    · exact hk hrun
theorem rfrun_good (S q a : Nat) (A : Option Addr) (ws : List Nat) (c : Nat) (on : Bool) (w : World) (hr : Wd w A ws) (hw : ∀ x ∈ ws, x < 2 ^ 64) (he : chk (S : Int) ws = 0) (hq : 1 ≤ q) (hqS : q ≤ S) (ha : 1 ≤ a) (ha2 : a ≤ 9223372036854775807) :
    Calls Tryd.prog 25 #[.agg #[.int .i64 S, .slice A ws.length c], .int .i64 q, .int .i64 a, .bool on] w (RunEnd ws S q a on w) := by
  obtain ⟨v1, v2, v3, v4⟩ := valid_len he
  have hS1 : S ≤ 64 * ws.length := by omega
  have hS2 : S ≤ 4096 := by omega
  have hb0 : Below w.heap.size w (w.alloc (.cells #[.int .i64 (S : Int), .slice A ws.length c] 24)) := bal (brefl _) _
  have hr' := hr.below hb0
  have HC := rcheck_any S A ws c _ hr' hw
  rw [he] at HC
  have hrun : ∀ (k : Nat) (v : Bool), k + q ≤ S → (v = true ↔ runAt ws k q on) → ∀ W, Below (w.heap.size + 1) (w.alloc (.cells #[.int .i64 (S : Int), .slice A ws.length c] 24)) W → Calls Tryd.prog 43 #[.agg #[.int .i64 S, .slice A ws.length c], .int .i64 k, .int .i64 q, .bool on] W fun e w' => e = .returned (.bool v) ∧ Below W.heap.size W w' := fun k v hk hv W hb =>
    rrun_yes S k q on A ws c W (hr'.below (by simpa using hb)) hw v1 (by omega) v hv
  have HCC := hide HC
  have HRN := hide hrun
  have dd1 : decide ((q : Int) < 1) = false := by rw [decide_eq_false]; omega
  have dd2 : decide ((a : Int) < 1) = false := by rw [decide_eq_false]; omega
  have dd3 : decide (S < q) = false := by rw [decide_eq_false]; omega
  have dd4 : decide ((S : Int) < (q : Int)) = false := by rw [decide_eq_false]; omega
  clear hr hr' HC he hw hb0 v2 v3 v4 hrun
  go_enter Tryd.func25, Tryd.ntmps25
  go_wp2_with (go_at_call 15; refine HCC.out.mono ?_; rintro e w1 ⟨rfl, hb1⟩; obtain ⟨hc1, hf1⟩ := bcell hb1)
  have HB1 := hide hb1
  clear hb1 hc1 hf1 HCC
  go_loopw [9] (fun i wr => ∃ k : Nat, k ≤ S - q + 1 ∧ i = .int .i64 k ∧ noRun ws S q a on k ∧ Below (w.heap.size + 1) (w.alloc (.cells #[.int .i64 (S : Int), .slice A ws.length c] 24)) wr) (fun i _ => S + 1 - (intOf i).toNat)
  case atStart => exact ⟨0, by omega, rfl, fun p hp => by omega, by simpa using HB1.out⟩
  case round =>
    obtain ⟨k, hk, rfl, hno, hb⟩ := hrel
    have c0 : wr.cell? ⟨w.heap.size, 0, none⟩ = some (.int .i64 S) := by rw [hb.cell (by show w.heap.size < _; omega)]; simp [go_sem]
    have c1 : wr.cell? ⟨w.heap.size, 1, none⟩ = some (.slice A ws.length c) := by rw [hb.cell (by show w.heap.size < _; omega)]; simp [go_sem]
    have HNO := hide hno
    have HBB := hide hb
    have HFIN := hide (btrans (bal (brefl w) (.cells #[.int .i64 (S : Int), .slice A ws.length c] 24)) (show Below _ _ wr by simpa using hb))
    clear hno hb
    by_cases hlt : k + q ≤ S
    · have hem : ((k : Int) % (a : Int)) = ((k % a : Nat) : Int) := by rw [Int.natCast_emod]
      by_cases hmod : k % a = 0
      · have m1 : ((k : Int) % (a : Int) == 0) = true := by rw [hem, hmod]; rfl
        have m2 : (k % a == 0) = true := by rw [hmod]; rfl
        have HM := hide hmod
        clear hem hmod
        by_cases hrn : runAt ws k q on
        · have HK := hide (HRN.out k true hlt (by simp [hrn]) wr HBB.out)
          have HRU := hide hrn
          clear hrn
          go_wp2_with (go_at_call 43; refine HK.out.mono ?_; rintro e w2 ⟨rfl, hb2⟩)
          go_ret
          exact ⟨_, rfl, .inr ⟨k, rfl, HM.out, hlt, HRU.out, HNO.out⟩, btrans HFIN.out hb2⟩
        · have HK := hide (HRN.out k false hlt (by simp [hrn]) wr HBB.out)
          have HRU := hide hrn
          clear hrn
          go_wp2_with (go_at_call 43; refine HK.out.mono ?_; rintro e w2 ⟨rfl, hb2⟩)
          have HB2 := hide (HBB.out.trans (hb2.mono (by simpa using HBB.out.size)))
          clear hb2
          go_roundw
          case rel => first | exact ⟨k + 1, by omega, by go_num, noRun_step HNO.out (.inr HRU.out), HB2.out⟩ | ((repeat apply Exists.intro); exact ⟨⟨k + 1, by omega, by go_num, noRun_step HNO.out (.inr HRU.out), HB2.out⟩, rfl⟩)
          case measure => simp [intOf]; omega
      · have m1 : ((k : Int) % (a : Int) == 0) = false := by rw [hem, beq_eq_false_iff_ne]; omega
        have m2 : (k % a == 0) = false := by rw [beq_eq_false_iff_ne]; exact hmod
        have HM := hide hmod
        clear hem hmod
        go_wp2
        go_roundw
        case rel => exact ⟨k + 1, by omega, by go_num, noRun_step HNO.out (.inl HM.out), HBB.out⟩
        case measure => simp [intOf]; omega
    · go_wp2
      go_ret
      exact ⟨_, rfl, .inl ⟨rfl, fun p h1 h2 => HNO.out p (by omega) h1 h2⟩, HFIN.out⟩
theorem run_exists (ws : List Nat) (S q a : Nat) (on : Bool) (n : Nat) : (∃ p, p < n ∧ p % a = 0 ∧ p + q ≤ S ∧ runAt ws p q on ∧ noRun ws S q a on p) ∨ noRun ws S q a on n := by
  induction n with
  | zero => exact .inr (fun p hp => by omega)
  | succ n ih =>
    rcases ih with ⟨p, h1, h2⟩ | h
    · exact .inl ⟨p, by omega, h2⟩
    · by_cases c : n % a = 0 ∧ n + q ≤ S ∧ runAt ws n q on
      · exact .inl ⟨n, by omega, c.1, c.2.1, c.2.2, h⟩
      · refine .inr (fun p hp hpa hpS hrun => ?_)
        by_cases c2 : p < n
        · exact h p c2 hpa hpS hrun
        · obtain rfl : p = n := by omega
          exact c ⟨hpa, hpS, hrun⟩
theorem run_both (s q a : Int) (A : Option Addr) (ws : List Nat) (c : Nat) (on : Bool) (hw : ∀ x ∈ ws, x < 2 ^ 64) (hn : ws.length ≤ 9223372036854775807) (hq2 : q ≤ 9223372036854775807) (ha2 : a ≤ 9223372036854775807) :
    ∃ r : Int, (∀ W, Wd W A ws → Calls Tryd.prog 24 #[.agg #[.int .i64 s, .slice A ws.length c], .int .i64 q, .int .i64 a, .bool on] W fun e w' => e = .returned (.int .i64 r) ∧ Below W.heap.size W w') ∧
      (∀ W, Wd W A ws → Calls Tryd.prog 25 #[.agg #[.int .i64 s, .slice A ws.length c], .int .i64 q, .int .i64 a, .bool on] W fun e w' => e = .returned (.int .i64 r) ∧ Below W.heap.size W w') := by
  by_cases h0 : chk s ws = 0
  · obtain ⟨v1, v2, v3, v4⟩ := valid_len h0
    by_cases h1 : 1 ≤ q ∧ 1 ≤ a
    · obtain ⟨S, rfl⟩ : ∃ S : Nat, s = (S : Int) := ⟨s.toNat, by omega⟩
      obtain ⟨Q, rfl⟩ : ∃ S : Nat, q = (S : Int) := ⟨q.toNat, by omega⟩
      obtain ⟨B, rfl⟩ : ∃ S : Nat, a = (S : Int) := ⟨a.toNat, by omega⟩
      have ex : ∃ r, RunIs ws S Q B on r := by
        rcases run_exists ws S Q B on (S + 1) with ⟨p, h1, h2, h3, h4, h5⟩ | h
        · exact ⟨p, .inr ⟨p, rfl, h2, h3, h4, h5⟩⟩
        · exact ⟨-1, .inl ⟨rfl, fun p h1 h2 => h p (by omega) h1 h2⟩⟩
      obtain ⟨r, hr0⟩ := ex
      refine ⟨r, fun W hr => (frun_good S Q B A ws c on W hr hw h0 (by omega) (by omega) (by omega) (by omega)).mono fun e w' ⟨r', e1, e2, e3⟩ => ?_, fun W hr => ?_⟩
      · obtain rfl := e2.one hr0
        exact ⟨e1, e3⟩
      · by_cases hQ : Q ≤ S
        · exact (rfrun_good S Q B A ws c on W hr hw h0 (by omega) hQ (by omega) (by omega)).mono fun e w' ⟨r', e1, e2, e3⟩ => by
            obtain rfl := e2.one hr0
            exact ⟨e1, e3⟩
        · have : r = -1 := hr0.one (.inl ⟨rfl, fun p h1 h2 => by omega⟩)
          subst this
          exact rfrun_no S Q B _ A ws c on W hr hw h0 (.inr (.inr (.inr ⟨rfl, by omega, by omega, by omega⟩)))
    · have hd : (q < 1) ∨ (1 ≤ q ∧ a < 1) := by omega
      rcases hd with hd | hd
      · exact ⟨-1, fun W hr => run_no s q a _ A ws c on W hr hw hn h0 (.inr (.inl ⟨rfl, hd⟩)), fun W hr => rfrun_no s q a _ A ws c on W hr hw h0 (.inr (.inl ⟨rfl, hd⟩))⟩
      · exact ⟨-1, fun W hr => run_no s q a _ A ws c on W hr hw hn h0 (.inr (.inr ⟨rfl, hd.1, hd.2⟩)), fun W hr => rfrun_no s q a _ A ws c on W hr hw h0 (.inr (.inr (.inl ⟨rfl, hd.1, hd.2⟩)))⟩
  · have h3 : (chk s ws == 0) = false := by simpa using h0
    exact ⟨-1, fun W hr => run_no s q a _ A ws c on W hr hw hn rfl (.inl h3), fun W hr => rfrun_no s q a _ A ws c on W hr hw rfl (.inl h3)⟩
end Go.Proofs.YtdpdlbonlpdkjaaDoor.Bs
