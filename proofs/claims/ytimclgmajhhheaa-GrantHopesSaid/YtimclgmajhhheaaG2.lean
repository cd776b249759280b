import Derived.Test.YtimclgmajhhheaaG1
import Derived.Laws.EntriesVeiled
namespace Go.Proofs.Ytimclgmajhhheaa.Gr
open Go Go.RowKit Ac
set_option linter.unusedVariables false
set_option linter.unusedSimpArgs false
theorem num_any (n : Int) (w : World) : Calls Try.prog 97 #[.int .i64 n] w fun e w' => e = .returned (.bool (decide (inr n))) ∧ w = w' := by
  by_cases h1 : 0 ≤ n
  · by_cases h2 : n ≤ 1048576
    · rw [decide_eq_true (show inr n from ⟨h1, h2⟩)]
      go_enter Try.func97, Try.ntmps97
      go_wp2
      go_ret
      exact ⟨rfl, rfl⟩
    · rw [decide_eq_false (show ¬ inr n from fun h => h2 h.2)]
      go_enter Try.func97, Try.ntmps97
      go_wp2
      go_ret
      exact ⟨rfl, rfl⟩
  · rw [decide_eq_false (show ¬ inr n from fun h => h1 h.1)]
    go_enter Try.func97, Try.ntmps97
    go_wp2
    go_ret
    exact ⟨rfl, rfl⟩
set_option maxHeartbeats 8000000 in
theorem val_any (pc ac ke us : Int) (w : World) : Calls Try.prog 62 #[.agg #[.int .i64 pc, .int .i64 ac, .int .i64 ke, .int .i64 us]] w fun e w' => e = .returned (.bool (decide (okQ ⟨pc, ac, ke, us⟩))) ∧ Below w.heap.size w w' := by
  have K := hide (bal (brefl w) (.cells #[.int .i64 pc, .int .i64 ac, .int .i64 ke, .int .i64 us] 27))
  have NC := hide (fun n w => num_any n w)
  by_cases h1 : pc < 0
  · rw [decide_eq_false (show ¬ okQ ⟨pc, ac, ke, us⟩ from fun h => by unfold okQ inr at h; dsimp only at h; omega)]
    go_enter Try.func62, Try.ntmps62
    go_wp2
    go_ret
    exact ⟨rfl, K.out⟩
  by_cases h2 : 8 ≤ pc
  · rw [decide_eq_false (show ¬ okQ ⟨pc, ac, ke, us⟩ from fun h => by unfold okQ inr at h; dsimp only at h; omega)]
    go_enter Try.func62, Try.ntmps62
    go_wp2
    go_ret
    exact ⟨rfl, K.out⟩
  by_cases h3 : ac < 0
  · rw [decide_eq_false (show ¬ okQ ⟨pc, ac, ke, us⟩ from fun h => by unfold okQ inr at h; dsimp only at h; omega)]
    go_enter Try.func62, Try.ntmps62
    go_wp2
    go_ret
    exact ⟨rfl, K.out⟩
  by_cases hk : inr ke
  rotate_left 1
  · rw [decide_eq_false (show ¬ okQ ⟨pc, ac, ke, us⟩ from fun h => hk h.2.2.1)]
    have d1 := decide_eq_false hk
    clear hk
    go_enter Try.func62, Try.ntmps62
    go_wp2_with (go_at_call 97; refine (NC.out _ _).mono ?_; rintro e w' ⟨rfl, rfl⟩)
    go_ret
    exact ⟨rfl, K.out⟩
  by_cases hu : inr us
  rotate_left 1
  · rw [decide_eq_false (show ¬ okQ ⟨pc, ac, ke, us⟩ from fun h => hu h.2.2.2)]
    have d1 := decide_eq_true hk
    have d2 := decide_eq_false hu
    clear hk hu
    go_enter Try.func62, Try.ntmps62
    go_wp2_with (go_at_call 97; refine (NC.out _ _).mono ?_; rintro e w' ⟨rfl, rfl⟩)
    go_ret
    exact ⟨rfl, K.out⟩
  rw [decide_eq_true (show okQ ⟨pc, ac, ke, us⟩ from ⟨⟨by dsimp only; omega, by dsimp only; omega⟩, by dsimp only; omega, hk, hu⟩)]
  have d1 := decide_eq_true hk
  have d2 := decide_eq_true hu
  clear hk hu
  go_enter Try.func62, Try.ntmps62
  go_wp2_with (go_at_call 97; refine (NC.out _ _).mono ?_; rintro e w' ⟨rfl, rfl⟩)
  go_ret
  exact ⟨rfl, K.out⟩
set_option maxHeartbeats 8000000 in
theorem rval_any (pc ac ke us : Int) (w : World) : Calls Try.prog 63 #[.agg #[.int .i64 pc, .int .i64 ac, .int .i64 ke, .int .i64 us]] w fun e w' => e = .returned (.bool (decide (okQ ⟨pc, ac, ke, us⟩))) ∧ Below w.heap.size w w' := by
  have K := hide (bal (brefl w) (.cells #[.int .i64 pc, .int .i64 ac, .int .i64 ke, .int .i64 us] 27))
  by_cases h0 : pc < 0
  · rw [decide_eq_false (show ¬ okQ ⟨pc, ac, ke, us⟩ from fun h => by unfold okQ inr at h; dsimp only at h; omega)]
    go_enter Try.func63, Try.ntmps63
    go_wp2
    go_ret
    exact ⟨rfl, K.out⟩
  by_cases h1 : 8 ≤ pc
  · rw [decide_eq_false (show ¬ okQ ⟨pc, ac, ke, us⟩ from fun h => by unfold okQ inr at h; dsimp only at h; omega)]
    go_enter Try.func63, Try.ntmps63
    go_wp2
    go_ret
    exact ⟨rfl, K.out⟩
  by_cases h2 : ac < 0
  · rw [decide_eq_false (show ¬ okQ ⟨pc, ac, ke, us⟩ from fun h => by unfold okQ inr at h; dsimp only at h; omega)]
    go_enter Try.func63, Try.ntmps63
    go_wp2
    go_ret
    exact ⟨rfl, K.out⟩
  by_cases h3 : ke < 0
  · rw [decide_eq_false (show ¬ okQ ⟨pc, ac, ke, us⟩ from fun h => by unfold okQ inr at h; dsimp only at h; omega)]
    go_enter Try.func63, Try.ntmps63
    go_wp2
    go_ret
    exact ⟨rfl, K.out⟩
  by_cases h4 : 1048576 < ke
  · rw [decide_eq_false (show ¬ okQ ⟨pc, ac, ke, us⟩ from fun h => by unfold okQ inr at h; dsimp only at h; omega)]
    go_enter Try.func63, Try.ntmps63
    go_wp2
    go_ret
    exact ⟨rfl, K.out⟩
  by_cases h5 : us < 0
  · rw [decide_eq_false (show ¬ okQ ⟨pc, ac, ke, us⟩ from fun h => by unfold okQ inr at h; dsimp only at h; omega)]
    go_enter Try.func63, Try.ntmps63
    go_wp2
    go_ret
    exact ⟨rfl, K.out⟩
  by_cases h6 : 1048576 < us
  · rw [decide_eq_false (show ¬ okQ ⟨pc, ac, ke, us⟩ from fun h => by unfold okQ inr at h; dsimp only at h; omega)]
    have u3 : ¬ us ≤ 1048576 := by omega
    go_enter Try.func63, Try.ntmps63
    go_wp2
    go_ret
    exact ⟨rfl, K.out⟩
  have hk : inr ke := ⟨by omega, by omega⟩
  have hu : inr us := ⟨by omega, by omega⟩
  rw [decide_eq_true (show okQ ⟨pc, ac, ke, us⟩ from ⟨⟨by dsimp only; omega, by dsimp only; omega⟩, by dsimp only; omega, hk, hu⟩)]
  have u2 : us ≤ 1048576 := by omega
  have k2 : ke ≤ 1048576 := by omega
  clear hk hu
  go_enter Try.func63, Try.ntmps63
  go_wp2
  go_ret
  exact ⟨rfl, K.out⟩
set_option maxHeartbeats 8000000 in
theorem tot_q (pc ac ke us : Int) (w : World) (h : okQ ⟨pc, ac, ke, us⟩) : Calls Try.prog 76 #[.agg #[.int .i64 pc, .int .i64 ac, .int .i64 ke, .int .i64 us]] w fun e w' => e = .returned (.int .i64 (ke + us)) ∧ Below w.heap.size w w' := by
  have K := hide (bal (brefl w) (.cells #[.int .i64 pc, .int .i64 ac, .int .i64 ke, .int .i64 us] 27))
  have i1 := h.2.2.1
  have i2 := h.2.2.2
  unfold inr at i1 i2
  dsimp only at i1 i2
  obtain ⟨a1, a2⟩ := i1
  obtain ⟨b1, b2⟩ := i2
  clear h
  go_enter Try.func76, Try.ntmps76
  go_wp2
  go_ret
  exact ⟨rfl, K.out⟩
set_option maxHeartbeats 8000000 in
theorem rtot_q (pc ac ke us : Int) (w : World) (h : okQ ⟨pc, ac, ke, us⟩) : Calls Try.prog 73 #[.agg #[.int .i64 pc, .int .i64 ac, .int .i64 ke, .int .i64 us]] w fun e w' => e = .returned (.int .i64 (ke + us)) ∧ Below w.heap.size w w' := by
  have K := hide (bal (brefl w) (.cells #[.int .i64 pc, .int .i64 ac, .int .i64 ke, .int .i64 us] 27))
  have i1 := h.2.2.1
  have i2 := h.2.2.2
  unfold inr at i1 i2
  dsimp only at i1 i2
  obtain ⟨a1, a2⟩ := i1
  obtain ⟨b1, b2⟩ := i2
  clear h
  go_enter Try.func73, Try.ntmps73
  go_wp2
  go_ret
  exact ⟨rfl, K.out⟩
theorem miss_any (x n : Int) (w : World) (h0 : 0 ≤ x) (h1 : x ≤ 2097152) (h : n < x) : Calls Try.prog 103 #[.int .i64 x, .int .i64 n] w fun e w' => e = .returned (.int .i64 (x - mxM n)) ∧ w = w' := by
  unfold mxM
  by_cases c : n ≤ -1048576
  · rw [if_pos c]
    by_cases c2 : n = -1048576
    · subst c2
      go_enter Try.func103, Try.ntmps103
      go_wp2
      go_ret
      exact ⟨rfl, rfl⟩
    · have c3 : ¬ -1048576 ≤ n := by omega
      clear c2
      go_enter Try.func103, Try.ntmps103
      go_wp2
      go_ret
      exact ⟨rfl, rfl⟩
  · rw [if_neg c]
    have c3 : -1048576 ≤ n := by omega
    go_enter Try.func103, Try.ntmps103
    go_wp2
    go_ret
    exact ⟨rfl, rfl⟩
set_option maxHeartbeats 8000000 in
theorem bad_any (pc ac ke us : Int) (w : World) : Calls Try.prog 61 #[.agg #[.int .i64 pc, .int .i64 ac, .int .i64 ke, .int .i64 us]] w fun e w' => e = .returned (.bool (!decide (okQ ⟨pc, ac, ke, us⟩))) ∧ Below w.heap.size w w' := by
  have K := hide (bal (brefl w) (.cells #[.int .i64 pc, .int .i64 ac, .int .i64 ke, .int .i64 us] 27))
  have VC := hide (fun w => val_any pc ac ke us w)
  generalize decide (okQ ⟨pc, ac, ke, us⟩) = d at *
  have X := hide (QB.new w pc ac ke us)
  obtain ⟨x0, x1, x2, x3⟩ := QB.cells X.out
  go_enter Try.func61, Try.ntmps61
  go_wp2_with fail
  refine (VC.out _).mono ?_
  rintro e w2 ⟨rfl, hb⟩
  replace K := hide (btrans K.out hb)
  clear hb
  go_wp2
  go_ret
  exact ⟨rfl, K.out⟩
set_option maxHeartbeats 8000000 in
theorem is_any (pc ac ke us : Int) (p : Int) (g : Nat) (w : World) (X : w.cell? ⟨g, 0, none⟩ = some (.int .i64 p)) (hg : g < w.heap.size) : Calls Try.prog 67 #[.agg #[.int .i64 pc, .int .i64 ac, .int .i64 ke, .int .i64 us], .pointer (some ⟨g, 0, none⟩)] w fun e w' => e = .returned (.bool (pc == p)) ∧ Below w.heap.size w w' := by
  have K := hide (bal (brefl w) (.cells #[.int .i64 pc, .int .i64 ac, .int .i64 ke, .int .i64 us] 27))
  have X2 : (w.alloc (.cells #[.int .i64 pc, .int .i64 ac, .int .i64 ke, .int .i64 us] 27)).cell? ⟨g, 0, none⟩ = some (.int .i64 p) := ((bal (brefl w) (.cells #[.int .i64 pc, .int .i64 ac, .int .i64 ke, .int .i64 us] 27)).cell (p := ⟨g, 0, none⟩) hg).trans X
  go_enter Try.func67, Try.ntmps67
  go_wp2
  go_ret
  exact ⟨rfl, K.out⟩
set_option maxHeartbeats 8000000 in
theorem far_any (pc ac ke us : Int) (A : Option Addr) (n c : Nat) (hn : n ≤ 9223372036854775807) (g : Nat) (w : World) (X : w.cell? ⟨g, 0, none⟩ = some (.slice A n c)) (hg : g < w.heap.size) : Calls Try.prog 108 #[.agg #[.int .i64 pc, .int .i64 ac, .int .i64 ke, .int .i64 us], .pointer (some ⟨g, 0, none⟩)] w fun e w' => e = .returned (.bool (decide ((n : Int) ≤ ac))) ∧ Below w.heap.size w w' := by
  have K := hide (bal (brefl w) (.cells #[.int .i64 pc, .int .i64 ac, .int .i64 ke, .int .i64 us] 27))
  have X2 : (w.alloc (.cells #[.int .i64 pc, .int .i64 ac, .int .i64 ke, .int .i64 us] 27)).cell? ⟨g, 0, none⟩ = some (.slice A n c) := ((bal (brefl w) (.cells #[.int .i64 pc, .int .i64 ac, .int .i64 ke, .int .i64 us] 27)).cell (p := ⟨g, 0, none⟩) hg).trans X
  go_enter Try.func108, Try.ntmps108
  go_wp2
  go_ret
  exact ⟨rfl, K.out⟩
def IxB (P : Prop) [Decidable P] (w : World) (e : Ending) (w' : World) : Prop := ∃ i : Int, e = .returned (.int .i64 i) ∧ decide (0 ≤ i) = !decide P ∧ Below w.heap.size w w'
theorem ixb {P : Prop} [Decidable P] {w w' : World} {i : Int} (h : (0 ≤ i) ↔ ¬ P) (hb : Below w.heap.size w w') : IxB P w (.returned (.int .i64 i)) w' := ⟨i, rfl, by by_cases c : P <;> simp [h, c], hb⟩
def IxP (Q : List A4) (p : Int) (w : World) (e : Ending) (w' : World) : Prop := ∃ i : Int, e = .returned (.int .i64 i) ∧ ((i = -1 ∧ freeP Q Q.length p) ∨ (∃ j : Nat, j < Q.length ∧ i = j ∧ (qAt Q j).pc = p)) ∧ Below w.heap.size w w'
set_option maxRecDepth 100000 in
set_option maxHeartbeats 8000000 in
theorem bad_idx (A : Option Addr) (cp : Nat) (Q : List A4)  (w : World) (hr : Qs w A Q) (hn : Q.length ≤ 9223372036854775807) : Calls Try.prog 66 #[.slice A Q.length cp, .func (.func 61) #[] #[]] w (IxB (aok Q) w) := by
  have HR := hide hr
  have K := hide (brefl w)
  have eg : ∀ args w, (callFunc 61 args).run Try.prog w = .ok (.enter 61 args) w := Go.Proofs.enters_of Try.func61 (by kernel_rfl) rfl
  clear hr
  go_enter Try.func66, Try.ntmps66
  go_wp2
  go_loopw [5, 8] (fun _ c wr => ∃ k : Nat, k ≤ Q.length ∧ c = .int .i64 k ∧ Hid (Below w.heap.size w wr) ∧ Hid (∀ j, j < k → okQ (qAt Q j))) (fun _ c _ => Q.length - (intOf c).toNat)
  case atStart => exact ⟨0, Nat.zero_le _, rfl, K, hide (fun j h => by omega)⟩
  case round =>
    clear K
    obtain ⟨k, hk, rfl, K, N⟩ := hrel
    by_cases hlt : k < Q.length
    · have hl2 : (k : Int) < (Q.length : Int) := by omega
      have hk0 : (0 : Int) ≤ (k : Int) := by omega
      obtain ⟨b, off, rfl, hbl, y0, y1, y2, y3⟩ := HR.out.cells K.out hlt
      have NEXT := hide (fun h j (hj : j < k + 1) => (if e : j = k then e ▸ h else N.out j (by omega) : okQ (qAt Q j)))
      have HK := hide hlt
      obtain ⟨a, ha⟩ : ∃ a, a = qAt Q k := ⟨_, rfl⟩
      rw [← ha] at y0 y1 y2 y3
      have HA := hide ha
      clear ha
      obtain ⟨pc, ac, ke, us⟩ := a
      dsimp only at y0 y1 y2 y3
      have C := hide (bad_any pc ac ke us wr)
      by_cases hq : okQ ⟨pc, ac, ke, us⟩
      · have G := hide (show okQ (qAt Q k) by rw [← HA.out]; exact hq)
        rw [decide_eq_true hq] at C
        clear hq
        go_wp2_with fail
        refine C.out.mono ?_
        rintro e w' ⟨rfl, hb'⟩
        replace K := hide (btrans K.out hb')
        clear hb' y0 y1 y2 y3
        go_wp2_with fail
        go_roundw
        case rel => exact ⟨k + 1, by omega, by go_num, K, hide (NEXT.out G.out)⟩
        case measure => simp [intOf]; omega
      · have G := hide (show ¬ okQ (qAt Q k) by rw [← HA.out]; exact hq)
        rw [decide_eq_false hq] at C
        clear hq
        go_wp2_with fail
        refine C.out.mono ?_
        rintro e w' ⟨rfl, hb'⟩
        replace K := hide (btrans K.out hb')
        clear hb' y0 y1 y2 y3
        go_wp2
        go_ret
        exact ixb (i := (k : Int)) ⟨fun h g => G.out (g k HK.out), fun h => by omega⟩ K.out
    · obtain rfl : k = Q.length := by omega
      go_wp2
      go_ret
      exact ixb (i := -1) ⟨fun h => by omega, fun h => absurd (show aok Q from N.out) h⟩ K.out
set_option maxRecDepth 100000 in
set_option maxHeartbeats 8000000 in
theorem is_idx (A : Option Addr) (cp : Nat) (Q : List A4) (p : Int) (g : Nat) (w : World) (hr : Qs w A Q) (hn : Q.length ≤ 9223372036854775807) (X : w.cell? ⟨g, 0, none⟩ = some (.int .i64 p)) (hg : g < w.heap.size) : Calls Try.prog 66 #[.slice A Q.length cp, .func (.func 67) #[] #[.pointer (some ⟨g, 0, none⟩)]] w (IxP Q p w) := by
  have HR := hide hr
  have K := hide (brefl w)
  have eg : ∀ args w, (callFunc 67 args).run Try.prog w = .ok (.enter 67 args) w := Go.Proofs.enters_of Try.func67 (by kernel_rfl) rfl
  have XC := hide X
  clear X
  clear hr
  go_enter Try.func66, Try.ntmps66
  go_wp2
  go_loopw [5, 8] (fun _ c wr => ∃ k : Nat, k ≤ Q.length ∧ c = .int .i64 k ∧ Hid (Below w.heap.size w wr) ∧ Hid (∀ j, j < k → (qAt Q j).pc ≠ p)) (fun _ c _ => Q.length - (intOf c).toNat)
  case atStart => exact ⟨0, Nat.zero_le _, rfl, K, hide (fun j h => by omega)⟩
  case round =>
    clear K
    obtain ⟨k, hk, rfl, K, N⟩ := hrel
    by_cases hlt : k < Q.length
    · have hl2 : (k : Int) < (Q.length : Int) := by omega
      have hk0 : (0 : Int) ≤ (k : Int) := by omega
      obtain ⟨b, off, rfl, hbl, y0, y1, y2, y3⟩ := HR.out.cells K.out hlt
      have NEXT := hide (fun h j (hj : j < k + 1) => (if e : j = k then e ▸ h else N.out j (by omega) : (qAt Q j).pc ≠ p))
      have HK := hide hlt
      obtain ⟨a, ha⟩ : ∃ a, a = qAt Q k := ⟨_, rfl⟩
      rw [← ha] at y0 y1 y2 y3
      have HA := hide ha
      clear ha
      obtain ⟨pc, ac, ke, us⟩ := a
      dsimp only at y0 y1 y2 y3
      have C := hide (is_any pc ac ke us p g wr ((K.out.cell (p := ⟨g, 0, none⟩) hg).trans XC.out) (Nat.lt_of_lt_of_le hg K.out.size))
      by_cases hq : pc ≠ p
      · have G := hide (show (qAt Q k).pc ≠ p by rw [← HA.out]; exact hq)
        rw [beq_eq_false_iff_ne.2 hq] at C
        clear hq
        go_wp2_with fail
        refine C.out.mono ?_
        rintro e w' ⟨rfl, hb'⟩
        replace K := hide (btrans K.out hb')
        clear hb' y0 y1 y2 y3
        go_wp2_with fail
        go_roundw
        case rel => exact ⟨k + 1, by omega, by go_num, K, hide (NEXT.out G.out)⟩
        case measure => simp [intOf]; omega
      · have G := hide (show (qAt Q k).pc = p by rw [← HA.out]; exact Decidable.not_not.1 hq)
        rw [beq_iff_eq.2 (Decidable.not_not.1 hq)] at C
        clear hq
        go_wp2_with fail
        refine C.out.mono ?_
        rintro e w' ⟨rfl, hb'⟩
        replace K := hide (btrans K.out hb')
        clear hb' y0 y1 y2 y3
        go_wp2
        go_ret
        exact ⟨k, rfl, .inr ⟨k, HK.out, rfl, G.out⟩, K.out⟩
    · obtain rfl : k = Q.length := by omega
      go_wp2
      go_ret
      exact ⟨-1, rfl, .inl ⟨rfl, N.out⟩, K.out⟩
set_option maxRecDepth 100000 in
set_option maxHeartbeats 8000000 in
theorem far_idx (A : Option Addr) (cp : Nat) (Q : List A4) (B : Option Addr) (c : Nat) (L : List A5) (g : Nat) (w : World) (hr : Qs w A Q) (hn : Q.length ≤ 9223372036854775807) (X : w.cell? ⟨g, 0, none⟩ = some (.slice B L.length c)) (hg : g < w.heap.size) (hL : L.length ≤ 9223372036854775807) : Calls Try.prog 66 #[.slice A Q.length cp, .func (.func 108) #[] #[.pointer (some ⟨g, 0, none⟩)]] w (IxB (accs Q L) w) := by
  have HR := hide hr
  have K := hide (brefl w)
  have eg : ∀ args w, (callFunc 108 args).run Try.prog w = .ok (.enter 108 args) w := Go.Proofs.enters_of Try.func108 (by kernel_rfl) rfl
  have XC := hide X
  clear X
  clear hr
  go_enter Try.func66, Try.ntmps66
  go_wp2
  go_loopw [5, 8] (fun _ c wr => ∃ k : Nat, k ≤ Q.length ∧ c = .int .i64 k ∧ Hid (Below w.heap.size w wr) ∧ Hid (∀ j, j < k → (qAt Q j).ac < L.length)) (fun _ c _ => Q.length - (intOf c).toNat)
  case atStart => exact ⟨0, Nat.zero_le _, rfl, K, hide (fun j h => by omega)⟩
  case round =>
    clear K
    obtain ⟨k, hk, rfl, K, N⟩ := hrel
    by_cases hlt : k < Q.length
    · have hl2 : (k : Int) < (Q.length : Int) := by omega
      have hk0 : (0 : Int) ≤ (k : Int) := by omega
      obtain ⟨b, off, rfl, hbl, y0, y1, y2, y3⟩ := HR.out.cells K.out hlt
      have NEXT := hide (fun h j (hj : j < k + 1) => (if e : j = k then e ▸ h else N.out j (by omega) : (qAt Q j).ac < L.length))
      have HK := hide hlt
      obtain ⟨a, ha⟩ : ∃ a, a = qAt Q k := ⟨_, rfl⟩
      rw [← ha] at y0 y1 y2 y3
      have HA := hide ha
      clear ha
      obtain ⟨pc, ac, ke, us⟩ := a
      dsimp only at y0 y1 y2 y3
      have C := hide (far_any pc ac ke us B L.length c hL g wr ((K.out.cell (p := ⟨g, 0, none⟩) hg).trans XC.out) (Nat.lt_of_lt_of_le hg K.out.size))
      by_cases hq : ac < L.length
      · have G := hide (show (qAt Q k).ac < L.length by rw [← HA.out]; exact hq)
        rw [decide_eq_false (show ¬ (L.length : Int) ≤ ac by omega)] at C
        clear hq
        go_wp2_with fail
        refine C.out.mono ?_
        rintro e w' ⟨rfl, hb'⟩
        replace K := hide (btrans K.out hb')
        clear hb' y0 y1 y2 y3
        go_wp2_with fail
        go_roundw
        case rel => exact ⟨k + 1, by omega, by go_num, K, hide (NEXT.out G.out)⟩
        case measure => simp [intOf]; omega
      · have G := hide (show ¬ (qAt Q k).ac < L.length by rw [← HA.out]; exact hq)
        rw [decide_eq_true (show (L.length : Int) ≤ ac by omega)] at C
        clear hq
        go_wp2_with fail
        refine C.out.mono ?_
        rintro e w' ⟨rfl, hb'⟩
        replace K := hide (btrans K.out hb')
        clear hb' y0 y1 y2 y3
        go_wp2
        go_ret
        exact ixb (i := (k : Int)) ⟨fun h g => absurd (g k HK.out) (by have := G.out; omega), fun h => by omega⟩ K.out
    · obtain rfl : k = Q.length := by omega
      go_wp2
      go_ret
      exact ixb (i := -1) ⟨fun h => by omega, fun h => absurd (show accs Q L from N.out) h⟩ K.out
set_option maxRecDepth 100000 in
set_option maxHeartbeats 8000000 in
theorem bad_cont (A : Option Addr) (cp : Nat) (Q : List A4)  (w : World) (hr : Qs w A Q) (hn : Q.length ≤ 9223372036854775807) : Calls Try.prog 60 #[.slice A Q.length cp, .func (.func 61) #[] #[]] w fun e w' => e = .returned (.bool (!decide (aok Q))) ∧ Below w.heap.size w w' := by
  have H := hide (bad_idx A cp Q w hr hn)
  clear hr
  go_enter Try.func60, Try.ntmps60
  go_wp2_with fail
  refine H.out.mono ?_
  rintro e w1 ⟨i, rfl, hi, hb1⟩
  have K := hide hb1
  have I := hide hi
  clear hb1 hi
  go_wp2
  go_ret
  exact ⟨ret_bool (by rw [← I.out]), K.out⟩
set_option maxRecDepth 100000 in
set_option maxHeartbeats 8000000 in
theorem far_cont (A : Option Addr) (cp : Nat) (Q : List A4) (B : Option Addr) (c : Nat) (L : List A5) (g : Nat) (w : World) (hr : Qs w A Q) (hn : Q.length ≤ 9223372036854775807) (X : w.cell? ⟨g, 0, none⟩ = some (.slice B L.length c)) (hg : g < w.heap.size) (hL : L.length ≤ 9223372036854775807) : Calls Try.prog 60 #[.slice A Q.length cp, .func (.func 108) #[] #[.pointer (some ⟨g, 0, none⟩)]] w fun e w' => e = .returned (.bool (!decide (accs Q L))) ∧ Below w.heap.size w w' := by
  have H := hide (far_idx A cp Q B c L g w hr hn X hg hL)
  clear hr
  go_enter Try.func60, Try.ntmps60
  go_wp2_with fail
  refine H.out.mono ?_
  rintro e w1 ⟨i, rfl, hi, hb1⟩
  have K := hide hb1
  have I := hide hi
  clear hb1 hi
  go_wp2
  go_ret
  exact ⟨ret_bool (by rw [← I.out]), K.out⟩
end Go.Proofs.Ytimclgmajhhheaa.Gr
