import Derived.Test.YtcndbehgklkiiaaT4
namespace Go.Proofs.Ytcndbehgklkiiaa.Ac
open Go Go.RowKit
set_option linter.unusedVariables false
set_option linter.unusedSimpArgs false
set_option maxRecDepth 100000 in
set_option maxHeartbeats 2000000 in
theorem rshare_any (A : Option Addr) (cp : Nat) (L : List A5) (m a : Int) (w : World) (hr : As w A L) (hcp : L.length ≤ cp) (hn : L.length ≤ 9223372036854775807) :
    Calls Try.prog 30 #[.slice A L.length cp, .int .i64 m, .int .i64 a] w fun e w' => e = .returned (.tuple #[.int .i64 (shV L m a), .int .i64 (shE L m a)]) ∧ Below w.heap.size w w' := by
  have C := hide (rcheck_any A cp L w hr hn)
  by_cases hc : chE L = 0
  · rw [hc] at C
    by_cases h1 : m < 0 ∨ 1048576 < m
    · have E1 := shE_2 (a := a) hc h1
      have E := hide (shV_n (L := L) (m := m) (a := a) (by rw [E1]; decide))
      rw [E.out, E1]
      clear E E1 hc hr
      rcases h1 with h1 | h1
      · go_enter Try.func30, Try.ntmps30
        go_wp2_with fail
        refine C.out.mono ?_
        rintro e w1 ⟨rfl, hb⟩
        have K := hide hb
        clear hb C
        go_wp2
        go_ret2
        exact ⟨rfl, K.out⟩
      · have h2 : ¬ m < 0 := by omega
        go_enter Try.func30, Try.ntmps30
        go_wp2_with fail
        refine C.out.mono ?_
        rintro e w1 ⟨rfl, hb⟩
        have K := hide hb
        clear hb C
        go_wp2
        go_ret2
        exact ⟨rfl, K.out⟩
    · by_cases h3 : a < 0 ∨ (L.length : Int) ≤ a
      · have E1 := shE_6 hc h1 h3
        have E := hide (shV_n (L := L) (m := m) (a := a) (by rw [E1]; decide))
        rw [E.out, E1]
        have h4 : ¬ m < 0 := by omega
        have h5 : ¬ 1048576 < m := by omega
        clear E E1 hc hr h1
        rcases h3 with h3 | h3
        · go_enter Try.func30, Try.ntmps30
          go_wp2_with fail
          refine C.out.mono ?_
          rintro e w1 ⟨rfl, hb⟩
          have K := hide hb
          clear hb C
          go_wp2
          go_ret2
          exact ⟨rfl, K.out⟩
        · have h2 : ¬ a < 0 := by omega
          go_enter Try.func30, Try.ntmps30
          go_wp2_with fail
          refine C.out.mono ?_
          rintro e w1 ⟨rfl, hb⟩
          have K := hide hb
          clear hb C
          go_wp2
          go_ret2
          exact ⟨rfl, K.out⟩
      · have h0 := shE_0 hc h1 h3
        obtain ⟨hc0, hm0, hm1, ha0, ha1⟩ := shE_ok h0
        have V := vd_of hc0
        have hl0 : (0 : Int) < (L.length : Int) := by have := V.len.1; omega
        have hln : 0 < L.length := V.len.1
        have B0 := (V.rg 0 hln).1.1
        obtain ⟨an, rfl⟩ : ∃ an : Nat, a = an := ⟨a.toNat, by omega⟩
        have han : an < L.length := by omega
        have Ba := (V.rg an han).1.1
        unfold inr at B0 Ba
        have EM := hide (shV_m h0)
        have EQ := hide (shV_q h0)
        rw [Int.toNat_natCast] at EQ
        rw [h0]
        obtain ⟨b, off, hA, hbl, _, _, _, _, _⟩ := hr.cells (brefl w) han
        have Y := hide (fun w' (h : Below w.heap.size w w') => hr.cells h han)
        have Y0 := hide (fun w' (h : Below w.heap.size w w') => hr.cells h hln)
        have MB2 := hide (mul_bd hm0 hm1 Ba.1 Ba.2)
        have HA := hide hA
        have h4 : ¬ m < 0 := by omega
        have h5 : ¬ 1048576 < m := by omega
        have h6 : ¬ (an : Int) < 0 := by omega
        have h7 : ¬ (L.length : Int) ≤ (an : Int) := by omega
        clear hc0 V hA hc h1 h3
        generalize us L 0 = t at *
        generalize us L an = u at *
        generalize shV L m an = sv at *
        clear h0 hr
        go_enter Try.func30, Try.ntmps30
        go_wp2_with fail
        refine C.out.mono ?_
        rintro e w1 ⟨rfl, hb⟩
        have K := hide hb
        clear hb C
        obtain ⟨b', off', e', _, _, y1, _, _, _⟩ := Y.out _ K.out
        obtain ⟨b2, off2, e2, _, _, z1, _, _, _⟩ := Y0.out _ K.out
        have hA := HA.out
        have MB := MB2.out
        rw [hA] at e' e2
        simp only [Option.some.injEq, Addr.mk.injEq, and_true] at e' e2
        obtain ⟨rfl, rfl⟩ := e'
        obtain ⟨rfl, rfl⟩ := e2
        rw [Nat.zero_mul, Nat.add_zero] at z1
        subst hA
        by_cases ht : t = 0
        · have E := hide (EM.out ht)
          have dt : (t == 0) = true := by simp [ht]
          clear ht EM EQ y1
          go_wp2
          go_ret2
          exact ⟨ret_int2 E.out.symm rfl, K.out⟩
        · have E := hide (EQ.out ht)
          have tp : 0 < t := by omega
          have hw : IntKind.i64.wrap (m * u) = m * u := by rw [IntKind.wrap_i64]; omega
          obtain ⟨x, hx⟩ : ∃ x, x = m * u := ⟨_, rfl⟩
          rw [← hx] at hw MB
          have QB := div_bd MB.1 MB.2 tp
          have eq : x.tdiv t = x / t := Int.tdiv_eq_ediv_of_nonneg MB.1
          have hw2 : IntKind.i64.wrap (x.tdiv t) = x / t := by rw [eq, IntKind.wrap_i64]; omega
          have E2 := hide (E.out.trans (by rw [← hx] : m * u / t = x / t))
          have dt : (t == 0) = false := by simp [ht]
          have hx2 := hx.symm
          generalize x / t = q at *
          clear EM EQ E hx eq
          go_upto_region 10 with fail
          go_quiet (fail)
          go_wp2
          go_ret2
          exact ⟨ret_int2 E2.out.symm rfl, below_drewN K.out _⟩
  · have E1 := shE_1 (m := m) (a := a) hc
    have E := hide (shV_n (L := L) (m := m) (a := a) (by rw [E1]; exact hc))
    rw [E.out, E1]
    have de : (chE L != 0) = true := by simpa using hc
    clear E E1 hc hr
    generalize chE L = ce at *
    go_enter Try.func30, Try.ntmps30
    go_wp2_with fail
    refine C.out.mono ?_
    rintro e w1 ⟨rfl, hb⟩
    have K := hide hb
    clear hb C
    go_wp2
    go_ret2
    exact ⟨rfl, K.out⟩
end Go.Proofs.Ytcndbehgklkiiaa.Ac
