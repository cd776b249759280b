import Derived.Test.YtcndbehgklkiiaaTL1
namespace Go.Proofs.Ytcndbehgklkiiaa.Ac
open Go Go.RowKit
set_option linter.unusedVariables false
set_option linter.unusedSimpArgs false
theorem ol_spec (L : List F4) : ∀ n : Nat, (ol L n = -1 ∨ (0 ≤ ol L n ∧ rdy (fA L (ol L n).toNat) = true)) ∧ ∀ i, i < n → rdy (fA L i) = true → 0 ≤ ol L n ∧ ((fA L (ol L n).toNat).s < (fA L i).s ∨ ((fA L (ol L n).toNat).s = (fA L i).s ∧ ol L n ≤ i))
  | 0 => ⟨.inl rfl, fun i h => absurd h (Nat.not_lt_zero _)⟩
  | n + 1 => by
    obtain ⟨h1, h2⟩ := ol_spec L n
    have hb := ol_lt L n
    by_cases hr : rdy (fA L n) = true
    · by_cases h3 : ol L n < 0 ∨ (fA L n).s < (fA L (ol L n).toNat).s
      · have e : ol L (n + 1) = n := if_pos ⟨hr, h3⟩
        rw [e, Int.toNat_natCast]
        refine ⟨.inr ⟨by omega, hr⟩, fun i hi hri => ⟨by omega, ?_⟩⟩
        by_cases hin : i = n
        · subst hin; exact .inr ⟨rfl, Int.le_refl _⟩
        · obtain ⟨g1, g2⟩ := h2 i (by omega) hri
          rcases h3 with h3 | h3
          · omega
          · rcases g2 with g2 | g2
            · exact .inl (by omega)
            · exact .inl (by omega)
      · have e : ol L (n + 1) = ol L n := if_neg (fun g => h3 g.2)
        rw [e]
        refine ⟨h1, fun i hi hri => ?_⟩
        by_cases hin : i = n
        · subst hin
          refine ⟨by omega, ?_⟩
          rcases Int.lt_or_eq_of_le (show (fA L (ol L i).toNat).s ≤ (fA L i).s by omega) with h | h
          · exact .inl h
          · exact .inr ⟨h, by omega⟩
        · exact h2 i (by omega) hri
    · have e : ol L (n + 1) = ol L n := if_neg (fun g => hr g.1)
      rw [e]
      refine ⟨h1, fun i hi hri => ?_⟩
      by_cases hin : i = n
      · subst hin; exact absurd hri hr
      · exact h2 i (by omega) hri
theorem rdy_iff {f : F4} : rdy f = true ↔ f.k = 4 ∧ f.d = true ∧ f.p = 0 := by
  unfold rdy
  simp [and_assoc]
set_option maxRecDepth 100000 in
set_option maxHeartbeats 4000000 in
theorem law_oldest (A : Option Addr) (c : Nat) (L : List (Int × Int × Bool × Int)) (w : World) (h : RdSk w A L) (hn : L.length ≤ 9223372036854775807) (hok : ∀ k, k < L.length → okSk (skA L k)) : Calls Try.prog 11 #[.slice A L.length c] w fun e w' => e = .returned (.bool true) ∧ Below w.heap.size w w' := by
  have CA := hide (fun w => awake_any w)
  have K := hide (brefl w)
  by_cases h3 : (300 : Int) < (L.length : Int)
  · clear h hok
    go_enter Try.func11, Try.ntmps11
    go_wp2_with fail
    refine (CA.out _).mono ?_
    rintro e w1 ⟨rfl, hb⟩
    replace K := hide (btrans K.out hb)
    clear hb
    go_wp2_with fail
    refine (CA.out _).mono ?_
    rintro e w2 ⟨rfl, hb⟩
    replace K := hide (btrans K.out hb)
    clear hb
    go_wp2
    go_ret
    exact ⟨rfl, K.out⟩
  · have h4 : L.length ≤ 300 := by omega
    have CF := hide (fun w' (hb : Below w.heap.size w w') => frames_any A c L w' (h.below hb) (by omega) hok)
    clear h hok
    have HL := hide (show (L.map skF).length = L.length from List.length_map ..)
    generalize L.map skF = F at *
    go_enter Try.func11, Try.ntmps11
    go_wp2_with fail
    refine (CA.out _).mono ?_
    rintro e w1 ⟨rfl, hb⟩
    replace K := hide (btrans K.out hb)
    clear hb
    go_wp2_with fail
    refine (CF.out _ K.out).mono ?_
    rintro e w2 ⟨A2, c2, rfl, hc, hown, hb⟩
    replace K := hide (btrans K.out hb)
    have R := hide hown.fs
    have FN : F.length ≤ 300 := by rw [HL.out]; exact h4
    clear hb hown CF h3 h4 CA
    go_wp2_with fail
    refine (oldest_any A2 c2 F w2 R.out (by omega)).mono ?_
    rintro e w3 ⟨rfl, hb⟩
    replace K := hide (btrans K.out hb)
    replace R := hide (R.out.below hb)
    clear hb
    have OB := ol_lt F F.length
    have OS := hide (ol_spec F F.length)
    generalize ol F F.length = q at *
    have OQ := hide OB
    obtain ⟨ob1, ob2⟩ := OB
    go_wp2
    have K3 := hide (brefl w3)
    go_loopw [28] (fun i wr => ∃ k : Nat, k ≤ F.length ∧ i = .int .i64 k ∧ Hid (Below w.heap.size w wr) ∧ Hid (Below w3.heap.size w3 wr)) (fun i _ => F.length - (intOf i).toNat)
    case atStart => exact ⟨0, Nat.zero_le _, rfl, K, K3⟩
    case round =>
      clear K K3
      obtain ⟨k, hk, rfl, K, K3⟩ := hrel
      by_cases hlt : k < F.length
      · have hl2 : (k : Int) < (F.length : Int) := by omega
        have hk0 : (0 : Int) ≤ (k : Int) := by omega
        obtain ⟨b, o, hA, hb, y0, y1, y9, y10⟩ := R.out.cells K3.out hlt
        have RI := hide (rdy_iff (f := fA F k))
        have SP := hide (OS.out.2 k hlt)
        have RQ := hide (fun (q : Nat) (hq : q < F.length) => R.out.cells K3.out hq)
        have SQ := hide OS.out.1
        generalize (fA F k).k = fk at *
        generalize (fA F k).p = fp at *
        generalize (fA F k).s = fs at *
        generalize (fA F k).d = fd at *
        generalize hrd : rdy (fA F k) = cc at *
        by_cases g1 : fk = 4
        · cases fd
          · have hq : ¬ (k : Int) = q := fun e => by
              have s1 := SQ.out.resolve_left (by omega)
              rw [← e, Int.toNat_natCast, hrd] at s1
              have := RI.out.1 s1.2
              exact absurd this.2.1 (by decide)
            have dk : (fk != 4) = false := by simp [g1]
            have dq : ((k : Int) == q) = false := by simpa using hq
            clear SP RQ SQ RI hrd g1 y9 hq
            subst hA
            go_wp2
            go_roundw
            case rel => first | exact ⟨k + 1, by omega, by go_num, K, K3⟩ | ((repeat apply Exists.intro); exact ⟨⟨k + 1, by omega, by go_num, K, K3⟩, rfl⟩)
            case measure => simp [intOf]; omega
          · by_cases g2 : fp = 0
            · have rr := RI.out.2 ⟨g1, rfl, g2⟩
              obtain ⟨s0, s1⟩ := SP.out rr
              have dk : (fk != 4) = false := by simp [g1]
              have dp : (fp != 0) = false := by simp [g2]
              obtain ⟨qn, rfl⟩ : ∃ qn : Nat, q = qn := ⟨q.toNat, by omega⟩
              have hqn : qn < F.length := by omega
              have hq2 : (qn : Int) < (F.length : Int) := by omega
              obtain ⟨b2, o2, e2, _, _, _, z9, _⟩ := RQ.out qn hqn
              rw [hA] at e2
              simp only [Option.some.injEq, Addr.mk.injEq, and_true] at e2
              obtain ⟨rfl, rfl⟩ := e2
              rw [Int.toNat_natCast] at s1
              have dq : decide ((qn : Int) < 0) = false := by simp
              generalize (fA F qn).s = qs at *
              clear SP RQ SQ RI hrd g1 g2 rr
              subst hA
              rcases s1 with s1 | ⟨s1, s2⟩
              · have d1 : decide (fs < qs) = false := by simp; omega
                have d2 : (fs == qs) = false := by simp; omega
                go_upto_region 13 with fail
                go_quiet (fail)
                go_wp2
                go_roundw
                case rel => first | exact ⟨k + 1, by omega, by go_num, hide (below_drewN K.out _), hide (below_drewN K3.out _)⟩ | ((repeat apply Exists.intro); exact ⟨⟨k + 1, by omega, by go_num, hide (below_drewN K.out _), hide (below_drewN K3.out _)⟩, rfl⟩)
                case measure => simp [intOf]; omega
              · subst s1
                have d1 : decide (qs < qs) = false := by simp
                have d3 : decide ((k : Int) < (qn : Int)) = false := by simp; omega
                go_upto_region 13 with fail
                go_quiet (fail)
                go_wp2
                go_roundw
                case rel => first | exact ⟨k + 1, by omega, by go_num, hide (below_drewN K.out _), hide (below_drewN K3.out _)⟩ | ((repeat apply Exists.intro); exact ⟨⟨k + 1, by omega, by go_num, hide (below_drewN K.out _), hide (below_drewN K3.out _)⟩, rfl⟩)
                case measure => simp [intOf]; omega
            · have hq : ¬ (k : Int) = q := fun e => by
                have s1 := SQ.out.resolve_left (by omega)
                rw [← e, Int.toNat_natCast, hrd] at s1
                have := RI.out.1 s1.2
                exact absurd this.2.2 g2
              have dk : (fk != 4) = false := by simp [g1]
              have dp : (fp != 0) = true := by simp [g2]
              have dq : ((k : Int) == q) = false := by simpa using hq
              clear SP RQ SQ RI hrd g1 g2 y9 hq
              subst hA
              go_wp2
              go_roundw
              case rel => first | exact ⟨k + 1, by omega, by go_num, K, K3⟩ | ((repeat apply Exists.intro); exact ⟨⟨k + 1, by omega, by go_num, K, K3⟩, rfl⟩)
              case measure => simp [intOf]; omega
        · have hq : ¬ (k : Int) = q := fun e => by
            have s1 := SQ.out.resolve_left (by omega)
            rw [← e, Int.toNat_natCast, hrd] at s1
            have := RI.out.1 s1.2
            exact absurd this.1 g1
          have dk : (fk != 4) = true := by simp [g1]
          have dq : ((k : Int) == q) = false := by simpa using hq
          clear SP RQ SQ RI hrd g1 y9 hq
          subst hA
          go_wp2
          go_roundw
          case rel => first | exact ⟨k + 1, by omega, by go_num, K, K3⟩ | ((repeat apply Exists.intro); exact ⟨⟨k + 1, by omega, by go_num, K, K3⟩, rfl⟩)
          case measure => simp [intOf]; omega
      · obtain rfl : k = F.length := by omega
        go_wp2
        go_ret
        exact ⟨rfl, K.out⟩
end Go.Proofs.Ytcndbehgklkiiaa.Ac
