import Derived.Test.YtcndbehgklkiiaaT3
namespace Go.Proofs.Ytcndbehgklkiiaa.Ac
open Go Go.RowKit
set_option linter.unusedVariables false
set_option linter.unusedSimpArgs false
/-- the error of Share -/
def shE (L : List A5) (m a : Int) : Int := if chE L ≠ 0 then chE L else if m < 0 ∨ 1048576 < m then 2 else if a < 0 ∨ (L.length : Int) ≤ a then 6 else 0
/-- the share -/
def shV (L : List A5) (m a : Int) : Int := if shE L m a ≠ 0 then 0 else if us L 0 = 0 then m else m * us L a.toNat / us L 0
theorem shE_1 {L : List A5} {m a : Int} (h : chE L ≠ 0) : shE L m a = chE L := if_pos h
theorem shE_2 {L : List A5} {m a : Int} (h : chE L = 0) (h2 : m < 0 ∨ 1048576 < m) : shE L m a = 2 := (if_neg (fun g => g h)).trans (if_pos h2)
theorem shE_6 {L : List A5} {m a : Int} (h : chE L = 0) (h2 : ¬ (m < 0 ∨ 1048576 < m)) (h3 : a < 0 ∨ (L.length : Int) ≤ a) : shE L m a = 6 := (if_neg (fun g => g h)).trans ((if_neg h2).trans (if_pos h3))
theorem shE_0 {L : List A5} {m a : Int} (h : chE L = 0) (h2 : ¬ (m < 0 ∨ 1048576 < m)) (h3 : ¬ (a < 0 ∨ (L.length : Int) ≤ a)) : shE L m a = 0 := (if_neg (fun g => g h)).trans ((if_neg h2).trans (if_neg h3))
theorem shE_ok {L : List A5} {m a : Int} (h : shE L m a = 0) : chE L = 0 ∧ 0 ≤ m ∧ m ≤ 1048576 ∧ 0 ≤ a ∧ a < L.length := by
  unfold shE at h
  split at h
  · exact absurd h (by assumption)
  · split at h
    · cases h
    · split at h
      · cases h
      · exact ⟨Decidable.not_not.1 (by assumption), by omega, by omega, by omega, by omega⟩
theorem shV_n {L : List A5} {m a : Int} (h : shE L m a ≠ 0) : shV L m a = 0 := if_pos h
theorem shV_m {L : List A5} {m a : Int} (h : shE L m a = 0) (h2 : us L 0 = 0) : shV L m a = m := (if_neg (fun g => g h)).trans (if_pos h2)
theorem shV_q {L : List A5} {m a : Int} (h : shE L m a = 0) (h2 : us L 0 ≠ 0) : shV L m a = m * us L a.toNat / us L 0 := (if_neg (fun g => g h)).trans (if_neg h2)
theorem mul_bd {m u : Int} (h0 : 0 ≤ m) (h1 : m ≤ 1048576) (h2 : 0 ≤ u) (h3 : u ≤ 1048576) : 0 ≤ m * u ∧ m * u ≤ 1099511627776 := ⟨Int.mul_nonneg h0 h2, Int.le_trans (Int.mul_le_mul h1 h3 h2 (by omega)) (by decide)⟩
theorem div_bd {x t : Int} (h0 : 0 ≤ x) (h1 : x ≤ 1099511627776) (h2 : 0 < t) : 0 ≤ x / t ∧ x / t ≤ 1099511627776 := ⟨Int.ediv_nonneg h0 (by omega), Int.le_trans (Int.ediv_le_self _ h0) h1⟩
set_option maxHeartbeats 1000000 in
theorem csh_any (A : Option Addr) (cp : Nat) (L : List A5) (m a : Int) (w : World) (hr : As w A L) (hcp : L.length ≤ cp) (hn : L.length ≤ 9223372036854775807) :
    Calls Try.prog 42 #[.slice A L.length cp, .int .i64 m, .int .i64 a] w fun e w' => e = .returned (.int .i64 (shE L m a)) ∧ Below w.heap.size w w' := by
  have C := hide (check_any A cp L w hr hcp hn)
  have E1 := hide (@shE_1 L m a)
  have E2 := hide (@shE_2 L m a)
  have E6 := hide (@shE_6 L m a)
  have E0 := hide (@shE_0 L m a)
  generalize shE L m a = z at *
  clear hr hcp
  obtain ⟨ce, hce⟩ : ∃ ce, ce = chE L := ⟨_, rfl⟩
  rw [← hce] at C E1 E2 E6 E0
  clear hce
  go_enter Try.func42, Try.ntmps42
  go_wp2_with fail
  refine C.out.mono ?_
  rintro e w' ⟨rfl, hb⟩
  have K := hide hb
  clear hb C
  by_cases h0 : ce = 0
  · subst h0
    by_cases h1 : m < 0
    · have E := hide (E2.out rfl (.inl h1))
      go_wp2
      go_ret
      exact ⟨ret_int E.out.symm, K.out⟩
    · by_cases h2 : 1048576 < m
      · have E := hide (E2.out rfl (.inr h2))
        go_wp2
        go_ret
        exact ⟨ret_int E.out.symm, K.out⟩
      · by_cases h3 : a < 0
        · have E := hide (E6.out rfl (by omega) (.inl h3))
          go_wp2
          go_ret
          exact ⟨ret_int E.out.symm, K.out⟩
        · by_cases h4 : (L.length : Int) ≤ a
          · have E := hide (E6.out rfl (by omega) (.inr h4))
            go_wp2
            go_ret
            exact ⟨ret_int E.out.symm, K.out⟩
          · have E := hide (E0.out rfl (by omega) (by omega))
            go_wp2
            go_ret
            exact ⟨ret_int E.out.symm, K.out⟩
  · have E := hide (E1.out h0)
    have de : (ce != 0) = true := by simpa using h0
    clear h0
    go_wp2
    go_ret
    exact ⟨ret_int E.out.symm, K.out⟩
theorem ret_int2 {a b c d : Int} (h : a = c) (h2 : b = d) : Ending.returned (.tuple #[.int .i64 a, .int .i64 b]) = .returned (.tuple #[.int .i64 c, .int .i64 d]) := by rw [h, h2]
set_option maxRecDepth 100000 in
set_option maxHeartbeats 2000000 in
theorem share_any (A : Option Addr) (cp : Nat) (L : List A5) (m a : Int) (w : World) (hr : As w A L) (hcp : L.length ≤ cp) (hn : L.length ≤ 9223372036854775807) :
    Calls Try.prog 29 #[.slice A L.length cp, .int .i64 m, .int .i64 a] w fun e w' => e = .returned (.tuple #[.int .i64 (shV L m a), .int .i64 (shE L m a)]) ∧ Below w.heap.size w w' := by
  have C := hide (csh_any A cp L m a w hr hcp hn)
  have CT := hide (fun w' (h : Below w.heap.size w w') => tot_any A cp L w' (hr.below h) hcp hn)
  by_cases h0 : shE L m a = 0
  · obtain ⟨hc0, hm0, hm1, ha0, ha1⟩ := shE_ok h0
    have V := vd_of hc0
    have hl0 : (0 : Int) < (L.length : Int) := by have := V.len.1; omega
    have hln : 0 < L.length := V.len.1
    have B0 := (V.rg 0 hln).1.1
    obtain ⟨an, rfl⟩ : ∃ an : Nat, a = an := ⟨a.toNat, by omega⟩
    have han : an < L.length := by omega
    have Ba := (V.rg an han).1.1
    unfold inr at B0 Ba
    have ET := hide (show tR L = us L 0 from if_pos hc0)
    rw [ET.out] at CT
    have EM := hide (shV_m h0)
    have EQ := hide (shV_q h0)
    rw [Int.toNat_natCast] at EQ
    rw [h0] at C ⊢
    obtain ⟨b, off, hA, hbl, _, _, _, _, _⟩ := hr.cells (brefl w) han
    have Y := hide (fun w' (h : Below w.heap.size w w') => hr.cells h han)
    have MB := mul_bd hm0 hm1 Ba.1 Ba.2
    have HA := hide hA
    have MB2 := hide MB
    clear hc0 V hA MB
    generalize us L 0 = t at *
    generalize us L an = u at *
    generalize shV L m an = sv at *
    clear h0 hr
    go_enter Try.func29, Try.ntmps29
    go_wp2_with fail
    refine C.out.mono ?_
    rintro e w1 ⟨rfl, hb⟩
    have K := hide hb
    clear hb C
    go_wp2_with fail
    refine (CT.out _ K.out).mono ?_
    rintro e w2 ⟨rfl, hb⟩
    replace K := hide (btrans K.out hb)
    clear hb CT
    obtain ⟨b', off', e', _, _, y1, _, _, _⟩ := Y.out _ K.out
    have hA := HA.out
    have MB := MB2.out
    rw [hA] at e'
    simp only [Option.some.injEq, Addr.mk.injEq, and_true] at e'
    obtain ⟨rfl, rfl⟩ := e'
    subst hA
    by_cases ht : t = 0
    · have E := hide (EM.out ht)
      have dt : (t == 0) = true := by simp [ht]
      clear ht EM EQ
      go_wp2
      go_ret2
      exact ⟨ret_int2 E.out.symm rfl, K.out⟩
    · have E := hide (EQ.out ht)
      have tp : 0 < t := by omega
      have hw : IntKind.i64.wrap (m * u) = m * u := by rw [IntKind.wrap_i64]; omega
      obtain ⟨x, hx⟩ : ∃ x, x = m * u := ⟨_, rfl⟩
      rw [← hx] at hw MB
      have QB := div_bd MB.1 MB.2 tp
      have eq : x.tdiv t = x / t := Int.tdiv_eq_ediv_of_nonneg MB.1
      have hw2 : IntKind.i64.wrap (x.tdiv t) = x / t := by rw [eq, IntKind.wrap_i64]; omega
      have E2 := hide (E.out.trans (by rw [← hx] : m * u / t = x / t))
      have dt : (t == 0) = false := by simp [ht]
      have hx2 := hx.symm
      generalize x / t = q at *
      clear EM EQ E hx eq
      go_wp2
      go_ret2
      exact ⟨ret_int2 E2.out.symm rfl, K.out⟩
  · have E := hide (shV_n h0)
    rw [E.out]
    have de : (shE L m a != 0) = true := by simpa using h0
    clear E h0 hr CT
    generalize shE L m a = ce at *
    go_enter Try.func29, Try.ntmps29
    go_wp2_with fail
    refine C.out.mono ?_
    rintro e w1 ⟨rfl, hb⟩
    have K := hide hb
    clear hb C
    go_wp2
    go_ret2
    exact ⟨rfl, K.out⟩
end Go.Proofs.Ytcndbehgklkiiaa.Ac
