import Derived.Test.YtcndbehgklkiiaaAFn3
namespace Go.Proofs.Ytcndbehgklkiiaa.Ac
open Go Go.RowKit
set_option linter.unusedVariables false
set_option linter.unusedSimpArgs false
/-- the parent of one account -/
def tk (L : List A5) (j : Nat) : Prop := (j = 0 → pa L 0 = -1) ∧ (0 < j → 0 ≤ pa L j ∧ pa L j < j)
theorem tk_tr {L : List A5} (h1 : 1 ≤ L.length) (h : ∀ j, j < L.length → tk L j) : tr L := ⟨(h 0 (by omega)).1 rfl, fun k hk => (h k hk).2⟩
theorem tk_bad {L : List A5} {k : Nat} (hk : k < L.length) (h : ¬ tk L k) : ¬ tr L := fun g => h ⟨fun _ => g.1, fun h0 => g.2 k hk h0⟩
theorem all_next {P : Nat → Prop} {k : Nat} (h : ∀ j, j < k → P j) (hk : P k) : ∀ j, j < k + 1 → P j := fun j hj => if e : j = k then e ▸ hk else h j (by omega)
set_option maxRecDepth 100000 in
set_option maxHeartbeats 8000000 in
theorem rcheck_any (A : Option Addr) (cp : Nat) (L : List A5) (w : World) (hr : As w A L) (hn : L.length ≤ 9223372036854775807) :
    Calls Try.prog 35 #[.slice A L.length cp] w fun e w' => e = .returned (.int .i64 (chE L)) ∧ Below w.heap.size w w' := by
  have RN := hide (fun n w => rin_any n w)
  have K0 := hide (brefl w)
  by_cases h8 : 1 ≤ L.length ∧ L.length ≤ 8
  · have d1 : ¬ (L.length : Int) < 1 := by omega
    have d8 : ¬ (8 : Int) < (L.length : Int) := by omega
    have H8 := hide h8
    have hlen1 := h8.1
    have hlen8 := h8.2
    have HR := hide hr
    obtain ⟨b0, off0, hA, hbl0, z0, z1, z2, z3, z4⟩ := hr.cells (brefl w) (show 0 < L.length by omega)
    rw [Nat.zero_mul, Nat.add_zero] at z2 z3
    have Y2 := hide (show ∀ w', Below w.heap.size w w' → w'.cell? ⟨b0, off0 + 2, none⟩ = some (.int .i64 (mn L 0)) from fun w' h => (h.cell (p := ⟨b0, off0 + 2, none⟩) hbl0).trans z2)
    have Y3 := hide (show ∀ w', Below w.heap.size w w' → w'.cell? ⟨b0, off0 + 3, none⟩ = some (.int .i64 (lo L 0)) from fun w' h => (h.cell (p := ⟨b0, off0 + 3, none⟩) hbl0).trans z3)
    subst hA
    clear hr h8 z0 z1 z2 z3 z4
    go_enter Try.func35, Try.ntmps35
    go_wp2
    go_loopw [3] (fun c wr => ∃ k : Nat, k ≤ L.length ∧ c = .int .i64 k ∧ Hid (Below w.heap.size w wr) ∧ Hid (∀ j, j < k → tk L j)) (fun c _ => L.length - (intOf c).toNat)
    case atStart => exact ⟨0, Nat.zero_le _, rfl, K0, hide (fun j h => by omega)⟩
    case round =>
      clear K0
      obtain ⟨k, hk, rfl, K, N⟩ := hrel
      by_cases hlt : k < L.length
      · have hl2 : (k : Int) < (L.length : Int) := by omega
        have hk0 : (0 : Int) ≤ (k : Int) := by omega
        have hk9 : k < 9 := by omega
        obtain ⟨b, off, eA, hbl, y0, y1, y2, y3, y4⟩ := HR.out.cells K.out hlt
        injection eA with eA
        injection eA with e1 e2
        subst e1 e2
        clear y1 y2 y3 y4
        have BAD := hide (fun (h : ¬ tk L k) => chE_1 H8.out (tk_bad hlt h))
        have NEXT := hide (fun (h : tk L k) => all_next N.out h)
        have PZ := hide (fun (h : k = 0) => (by rw [h] : pa L k = pa L 0))
        clear N
        by_cases h0 : k = 0
        · have dz : ((k : Int) == 0) = true := by simp [h0]
          have nz : ¬ 0 < k := by omega
          have nz' : ¬ (0 : Int) < (k : Int) := by omega
          by_cases hp : pa L k = -1
          · have E := hide (NEXT.out ⟨fun _ => by rw [← PZ.out h0]; exact hp, fun h => absurd h nz⟩)
            rw [hp] at y0
            clear BAD NEXT PZ hp h0
            go_wp2
            go_roundw
            case rel => exact ⟨k + 1, by omega, by go_num, K, E⟩
            case measure => simp [intOf]; omega
          · have dp : (pa L k != -1) = true := by simpa using hp
            have E := hide (BAD.out (fun h => hp (by rw [PZ.out h0]; exact h.1 h0)))
            clear BAD NEXT PZ hp h0
            generalize pa L k = p at *
            go_wp2
            go_ret
            exact ⟨ret_int E.out.symm, K.out⟩
        · have dz : ((k : Int) == 0) = false := by simp [h0]
          have nz : 0 < k := by omega
          have nz' : (0 : Int) < (k : Int) := by omega
          by_cases hp : pa L k < 0
          · have E := hide (BAD.out (fun h => by have := h.2 nz; omega))
            clear BAD NEXT PZ h0
            generalize pa L k = p at *
            go_wp2
            go_ret
            exact ⟨ret_int E.out.symm, K.out⟩
          · by_cases hq : (k : Int) ≤ pa L k
            · have E := hide (BAD.out (fun h => by have := h.2 nz; omega))
              clear BAD NEXT PZ h0
              generalize pa L k = p at *
              go_wp2
              go_ret
              exact ⟨ret_int E.out.symm, K.out⟩
            · have E := hide (NEXT.out ⟨fun h => absurd h h0, fun _ => by omega⟩)
              clear BAD NEXT PZ h0
              generalize pa L k = p at *
              go_wp2
              go_roundw
              case rel => exact ⟨k + 1, by omega, by go_num, K, E⟩
              case measure => simp [intOf]; omega
      · obtain rfl : k = L.length := by omega
        have HT := hide (tk_tr hlen1 N.out)
        clear N hk hlt
        have KS := hide K.out
        clear K
        go_wp2
        go_loopw [4] (fun c wr => ∃ k : Nat, k ≤ L.length ∧ c = .int .i64 k ∧ Hid (Below w.heap.size w wr) ∧ Hid (∀ j, j < k → okA (aAt L j))) (fun c _ => L.length - (intOf c).toNat)
        case atStart => exact ⟨0, Nat.zero_le _, rfl, KS, hide (fun j h => by omega)⟩
        case round =>
          clear KS
          obtain ⟨k, hk, rfl, K, N⟩ := hrel
          by_cases hlt : k < L.length
          · have hl2 : (k : Int) < (L.length : Int) := by omega
            have hk0 : (0 : Int) ≤ (k : Int) := by omega
            obtain ⟨b, off, eA, hbl, y0, y1, y2, y3, y4⟩ := HR.out.cells K.out hlt
            injection eA with eA
            injection eA with e1 e2
            subst e1 e2
            clear y0
            have BAD := hide (fun (h : ¬ okA (aAt L k)) => chE_2 H8.out HT.out (fun g => h (g.1 k hlt)))
            have NEXT := hide (fun (h : okA (aAt L k)) => all_next N.out h)
            unfold us at y1; unfold mn at y2; unfold lo at y3; unfold mx at y4
            clear N
            generalize aAt L k = a at *
            obtain ⟨p, u, m, l, x⟩ := a
            unfold okA at BAD NEXT
            simp only at y1 y2 y3 y4 BAD NEXT
            by_cases h0 : inr u
            · have c0 := decide_eq_true h0
              by_cases h1 : inr m
              · have c1 := decide_eq_true h1
                by_cases h2 : inr l
                · have c2 := decide_eq_true h2
                  by_cases h3 : inr x
                  · have c3 := decide_eq_true h3
                    have E := hide (NEXT.out ⟨⟨h0, h1⟩, h2, h3⟩)
                    clear BAD NEXT h0 h1 h2 h3
                    go_wp2_with (go_at_call 45; refine (RN.out _ _).mono ?_; rintro e w' ⟨rfl, rfl⟩)
                    go_roundw
                    case rel => exact ⟨k + 1, by omega, by go_num, K, E⟩
                    case measure => simp [intOf]; omega
                  · have c3 := decide_eq_false h3
                    have E := hide (BAD.out (fun h => h3 h.2.2))
                    clear BAD NEXT h0 h1 h2 h3
                    go_wp2_with (go_at_call 45; refine (RN.out _ _).mono ?_; rintro e w' ⟨rfl, rfl⟩)
                    go_ret
                    exact ⟨ret_int E.out.symm, K.out⟩
                · have c2 := decide_eq_false h2
                  have E := hide (BAD.out (fun h => h2 h.2.1))
                  clear BAD NEXT h0 h1 h2
                  go_wp2_with (go_at_call 45; refine (RN.out _ _).mono ?_; rintro e w' ⟨rfl, rfl⟩)
                  go_ret
                  exact ⟨ret_int E.out.symm, K.out⟩
              · have c1 := decide_eq_false h1
                have E := hide (BAD.out (fun h => h1 h.1.2))
                clear BAD NEXT h0 h1
                go_wp2_with (go_at_call 45; refine (RN.out _ _).mono ?_; rintro e w' ⟨rfl, rfl⟩)
                go_ret
                exact ⟨ret_int E.out.symm, K.out⟩
            · have c0 := decide_eq_false h0
              have E := hide (BAD.out (fun h => h0 h.1.1))
              clear BAD NEXT h0
              go_wp2_with (go_at_call 45; refine (RN.out _ _).mono ?_; rintro e w' ⟨rfl, rfl⟩)
              go_ret
              exact ⟨ret_int E.out.symm, K.out⟩
          · obtain rfl : k = L.length := by omega
            have HG := hide (show rg L from N.out)
            clear N hk hlt
            by_cases hm : mn L 0 = 0
            · by_cases hl : lo L 0 = 0
              · have HRT := hide (show rt L from ⟨hm, hl⟩)
                have y2 := Y2.out _ K.out
                have y3 := Y3.out _ K.out
                rw [hm] at y2
                rw [hl] at y3
                have KS := hide K.out
                clear hm hl K
                go_wp2
                clear y2 y3
                go_loopw [5] (fun c wr => ∃ k : Nat, k ≤ L.length ∧ c = .int .i64 k ∧ Hid (Below w.heap.size w wr) ∧ Hid (∀ j, j < k → us L j ≤ mx L j)) (fun c _ => L.length - (intOf c).toNat)
                case atStart => exact ⟨0, Nat.zero_le _, rfl, KS, hide (fun j h => by omega)⟩
                case round =>
                  clear KS
                  obtain ⟨k, hk, rfl, K, N⟩ := hrel
                  by_cases hlt : k < L.length
                  · have hl2 : (k : Int) < (L.length : Int) := by omega
                    have hk0 : (0 : Int) ≤ (k : Int) := by omega
                    obtain ⟨b, off, eA, hbl, y0, y1, y2, y3, y4⟩ := HR.out.cells K.out hlt
                    injection eA with eA
                    injection eA with e1 e2
                    subst e1 e2
                    clear y0 y2 y3
                    have BAD := hide (fun (h : ¬ us L k ≤ mx L k) => chE_17 H8.out HT.out HG.out HRT.out (fun g => h (g k hlt)))
                    have NEXT := hide (fun (h : us L k ≤ mx L k) => all_next N.out h)
                    clear N
                    generalize us L k = u at *
                    generalize mx L k = x at *
                    by_cases hq : x < u
                    · have E := hide (BAD.out (by omega))
                      clear BAD NEXT
                      go_wp2
                      go_quiet (fail)
                      generalize hwy : World.drewN wr _ = wy
                      have hbq : Below wr.heap.size wr wy := by rw [← hwy]; exact below_drewN (brefl _) _
                      replace K := hide (btrans K.out hbq)
                      clear hwy hbq
                      go_wp2
                      go_ret
                      exact ⟨ret_int E.out.symm, K.out⟩
                    · have E := hide (NEXT.out (by omega))
                      clear BAD NEXT
                      go_wp2
                      go_quiet (fail)
                      generalize hwy : World.drewN wr _ = wy
                      have hbq : Below wr.heap.size wr wy := by rw [← hwy]; exact below_drewN (brefl _) _
                      replace K := hide (btrans K.out hbq)
                      clear hwy hbq
                      go_wp2
                      go_roundw
                      case rel => exact ⟨k + 1, by omega, by go_num, K, E⟩
                      case measure => simp [intOf]; omega
                  · obtain rfl : k = L.length := by omega
                    have HI := hide (show lim L from N.out)
                    clear N hk hlt
                    have KS := hide K.out
                    have KI := hide (fun (x : Int) (w' : World) (h : Below w.heap.size w w') => kids_any (some ⟨b0, off0, none⟩) cp L x w' (HR.out.below h) hlen1 hlen8 (fun i hi => (HG.out i hi).1.1))
                    clear K
                    go_wp2
                    go_loopw [6] (fun c wr => ∃ k : Nat, k ≤ L.length ∧ c = .int .i64 k ∧ Hid (Below w.heap.size w wr) ∧ Hid (∀ j, j < k → 0 ≤ own L j)) (fun c _ => L.length - (intOf c).toNat)
                    case atStart => exact ⟨0, Nat.zero_le _, rfl, KS, hide (fun j h => by omega)⟩
                    case round =>
                      clear KS
                      obtain ⟨k, hk, rfl, K, N⟩ := hrel
                      by_cases hlt : k < L.length
                      · have hl2 : (k : Int) < (L.length : Int) := by omega
                        have hk0 : (0 : Int) ≤ (k : Int) := by omega
                        obtain ⟨b, off, eA, hbl, y0, y1, y2, y3, y4⟩ := HR.out.cells K.out hlt
                        injection eA with eA
                        injection eA with e1 e2
                        subst e1 e2
                        clear y0 y2 y3 y4
                        have BAD := hide (fun (h : ¬ 0 ≤ own L k) => chE_11 H8.out HT.out HG.out HRT.out HI.out (fun g => h (g k hlt)))
                        have NEXT := hide (fun (h : 0 ≤ own L k) => all_next N.out h)
                        have KC := hide (fun (n : Nat) => KI.out (k : Int) (wr.drewN n) (below_drewN K.out n))
                        unfold own at BAD NEXT
                        clear N
                        generalize us L k = u at *
                        generalize kc L (k : Int) (us L) L.length = s at *
                        by_cases hq : u < s
                        · have E := hide (BAD.out (by omega))
                          clear BAD NEXT
                          go_wp2
                          go_quiet ((go_at_call 46; exact quiet_left (KC.out _)))
                          generalize hwy : World.drewN wr _ = wy
                          have hbq : Below wr.heap.size wr wy := by rw [← hwy]; exact below_drewN (brefl _) _
                          replace K := hide (btrans K.out hbq)
                          clear hwy hbq
                          go_wp2
                          go_ret
                          exact ⟨ret_int E.out.symm, K.out⟩
                        · have E := hide (NEXT.out (by omega))
                          clear BAD NEXT
                          go_wp2
                          go_quiet ((go_at_call 46; exact quiet_left (KC.out _)))
                          generalize hwy : World.drewN wr _ = wy
                          have hbq : Below wr.heap.size wr wy := by rw [← hwy]; exact below_drewN (brefl _) _
                          replace K := hide (btrans K.out hbq)
                          clear hwy hbq
                          go_wp2
                          go_roundw
                          case rel => exact ⟨k + 1, by omega, by go_num, K, E⟩
                          case measure => simp [intOf]; omega
                      · obtain rfl : k = L.length := by omega
                        have E := hide (chE_0 ⟨H8.out, HT.out, HG.out, HRT.out, HI.out, N.out⟩)
                        go_wp2
                        go_ret
                        exact ⟨ret_int E.out.symm, K.out⟩
              · have E := hide (chE_2 H8.out HT.out (fun h => hl h.2.2))
                have dl : (lo L 0 != 0) = true := by simpa using hl
                have y2 := Y2.out _ K.out
                have y3 := Y3.out _ K.out
                rw [hm] at y2
                clear hl hm
                generalize lo L 0 = ll at *
                go_wp2
                go_ret
                exact ⟨ret_int E.out.symm, K.out⟩
            · have E := hide (chE_2 H8.out HT.out (fun h => hm h.2.1))
              have dl : (mn L 0 != 0) = true := by simpa using hm
              have y2 := Y2.out _ K.out
              clear hm
              generalize mn L 0 = ll at *
              go_wp2
              go_ret
              exact ⟨ret_int E.out.symm, K.out⟩
  · have E := hide (chE_9 h8)
    by_cases h1 : L.length < 1
    · have d1 : (L.length : Int) < 1 := by omega
      clear hr h8
      go_enter Try.func35, Try.ntmps35
      go_wp2
      go_ret
      exact ⟨ret_int E.out.symm, K0.out⟩
    · have d1 : ¬ (L.length : Int) < 1 := by omega
      have d8 : (8 : Int) < (L.length : Int) := by omega
      clear hr h8
      go_enter Try.func35, Try.ntmps35
      go_wp2
      go_ret
      exact ⟨ret_int E.out.symm, K0.out⟩
end Go.Proofs.Ytcndbehgklkiiaa.Ac
