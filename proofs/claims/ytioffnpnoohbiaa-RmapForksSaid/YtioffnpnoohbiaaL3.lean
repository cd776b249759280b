import Derived.Test.YtioffnpnoohbiaaL2
namespace Go.Proofs.Ytioffnpnoohbiaa.Rm
open Go Go.RowKit
set_option linter.unusedVariables false
set_option linter.unusedSimpArgs false
theorem u8_of {n : Int} (h : (Lit.int .u8 n).wf = true) : 0 ≤ n ∧ n < 256 := by
  unfold Lit.wf at h
  simp only [Bool.and_eq_true, decide_eq_true_eq] at h
  have h1 : IntKind.u8.min = 0 := by decide
  have h2 : IntKind.u8.max = 255 := by decide
  omega
theorem fk_noclash {L : List Mp} {p c : Int} (h : ∀ j, j < L.length → (at' L j).s ≠ c) : ¬ clash L p c := by
  rintro ⟨x, hx, h1, h2⟩
  obtain ⟨k, hk, e⟩ := mem_at h2
  exact h k hk (by rw [e])
theorem fk_mem {L R : List Mp} {p c : Int} (hP : R.Perm (L ++ mv L p c)) {x : Mp} : x ∈ R ↔ x ∈ L ∨ x ∈ mv L p c := by rw [hP.mem_iff]; exact List.mem_append
theorem fk_ok {L R : List Mp} {p c : Int} (hc : inS c) (h0 : aok L) (hS : Srt R) (hP : R.Perm (L ++ mv L p c)) : ck R = 0 := by
  refine ck_0 (fun m hm => ?_) hS
  rcases (fk_mem hP).1 hm with g | g
  · exact h0 m g
  · obtain ⟨a, x, b, d, e⟩ := mv_mem.1 g
    have := (h0 x b).2
    unfold vM
    rw [a, ← e]
    exact ⟨hc, this⟩
theorem fk_back {L R : List Mp} {p c : Int} (h : ∀ j, j < L.length → (at' L j).s ≠ c) (hL : Srt L) (hS : Srt R) (hP : R.Perm (L ++ mv L p c)) (h0 : ck R = 0) : drL R c = L := by
  unfold drL
  rw [if_pos h0]
  refine srt_ext (hS.sublist List.filter_sublist) hL fun m => ?_
  simp only [List.mem_filter, decide_eq_true_eq]
  constructor
  · rintro ⟨h1, h2⟩
    rcases (fk_mem hP).1 h1 with g | g
    · exact g
    · exact absurd (mv_mem.1 g).1 h2
  · intro hm
    refine ⟨(fk_mem hP).2 (Or.inl hm), ?_⟩
    obtain ⟨k, hk, rfl⟩ := mem_at hm
    exact h k hk
set_option maxRecDepth 100000 in
set_option maxHeartbeats 8000000 in
theorem law_forks (A : Option Addr) (cp : Nat) (L : List Mp) (f t : Int) (w : World) (hr : Ms w A L) (hn : L.length ≤ 9223372036854775807) (hf : 0 ≤ f ∧ f < 256) (ht : 0 ≤ t ∧ t < 256) : Calls Try.prog 7 #[.slice A L.length cp, .int .u8 f, .int .u8 t] w fun e w' => e = .returned (.bool true) ∧ Below w.heap.size w w' := by
  have AWK := hide (fun w => awake_any w)
  have K := hide (brefl w)
  have HR := hide (fun w' (h : Below w.heap.size w w') => hr.below h)
  clear hr
  by_cases hl : (40 : Int) < L.length
  · clear HR
    go_enter Try.func7, Try.ntmps7
    go_wp2_with fail
    refine (AWK.out _).mono ?_
    rintro e w1 ⟨rfl, hb⟩
    replace K := hide (btrans K.out hb)
    clear hb
    go_wp2_with fail
    refine (AWK.out _).mono ?_
    rintro e w2 ⟨rfl, hb⟩
    replace K := hide (btrans K.out hb)
    clear hb
    go_wp2
    go_ret
    exact ⟨rfl, K.out⟩
  have HL := hide (show L.length ≤ 40 by omega)
  have C1 := hide (fun p c w h => copy_any A cp L p c w h (by have := HL.out; omega))
  have CK := hide (fun w h => check_any A cp L w h (by have := HL.out; omega))
  have CG := hide (fun A c R w h n => check_any A c R w h n)
  have HA := hide (fun A R c s p w h n => has_any A R c s p w h n)
  have DR := hide (fun A c R s w h n => drop_any A c R s w h n)
  have SM := hide (fun A c L B d R w h1 h2 n1 n2 => same_any A c L B d R w h1 h2 n1 n2)
  unfold CpR at C1
  unfold InR at DR
  obtain ⟨f0, f1⟩ := hf
  obtain ⟨t0, t1⟩ := ht
  go_enter Try.func7, Try.ntmps7
  go_wp2_with fail
  refine (AWK.out _).mono ?_
  rintro e w1 ⟨rfl, hb⟩
  replace K := hide (btrans K.out hb)
  clear hb
  go_upto_region 4 with fail
  have HP := hide (show inS (f % 8) from ⟨by omega, by omega⟩)
  have HC := hide (show inS (t % 8) from ⟨by omega, by omega⟩)
  generalize f % 8 = p at *
  generalize t % 8 = c at *
  clear f0 f1 t0 t1 hl
  go_wp2
  go_loopw [9, 11, 32] (fun n _ i wr => ∃ k : Nat, k ≤ L.length ∧ n = .int .i64 ((mv (L.take k) p c).length : Nat) ∧ i = .int .i64 k ∧ Hid (Below w.heap.size w wr) ∧ Hid (∀ j, j < k → (at' L j).s ≠ c)) (fun _ _ i _ => L.length - (intOf i).toNat)
  case atStart => exact ⟨0, Nat.zero_le _, rfl, rfl, K, hide (fun j h => by omega)⟩
  case round =>
    clear K
    obtain ⟨k, hk, rfl, rfl, K, N⟩ := hrel
    by_cases hlt : k < L.length
    · have hl2 : (k : Int) < (L.length : Int) := by omega
      have hk0 : (0 : Int) ≤ (k : Int) := by omega
      have HR2 := hide (HR.out _ K.out)
      obtain ⟨b, off, rfl, hbl, y0, y1⟩ := HR2.out.cells (brefl _) hlt
      have NX := hide (show (at' L k).s ≠ c → ∀ j, j < k + 1 → (at' L j).s ≠ c from fun h j hj => if e : j = k then e ▸ h else N.out j (by omega))
      have MY := hide (show (at' L k).s = p → (mv (L.take (k + 1)) p c).length = (mv (L.take k) p c).length + 1 from fun h => by rw [(mv_snoc hlt).1 h]; simp)
      have MN := hide (show (at' L k).s ≠ p → (mv (L.take (k + 1)) p c).length = (mv (L.take k) p c).length from fun h => by rw [(mv_snoc hlt).2 h])
      have NB := hide (show (mv (L.take k) p c).length ≤ 40 from by
        have h1 := mv_len (L.take k) p c
        have h2 := List.length_take_le k L
        have := HL.out
        omega)
      obtain ⟨a, ha⟩ : ∃ a, a = at' L k := ⟨_, rfl⟩
      rw [← ha] at y0 y1 NX MY MN
      clear ha N
      obtain ⟨s, pg⟩ := a
      dsimp only at y0 y1 NX MY MN
      generalize (mv (L.take k) p c).length = n at *
      replace K := hide (btrans K.out (bal (brefl wr) (.cells #[.int .i64 s, .int .i64 pg] 26)))
      by_cases hsc : s = c
      · have hb1 : (s == c) = true := beq_iff_eq.2 hsc
        clear hsc NX MY MN
        go_wp2
        go_ret
        exact ⟨rfl, K.out⟩
      · have hb1 : (s == c) = false := beq_eq_false_iff_ne.2 hsc
        have G := hide (NX.out hsc)
        have nb := NB.out
        clear hsc NX
        by_cases hsp : s = p
        · have hb2 : (s == p) = true := beq_iff_eq.2 hsp
          have E := hide (MY.out hsp)
          have hw : IntKind.i64.wrap ((n : Int) + 1) = (n : Int) + 1 := by rw [IntKind.wrap_i64]; omega
          clear hsp MY MN
          go_wp2
          go_roundw
          case rel => exact ⟨k + 1, by omega, by rw [E.out]; go_num, by go_num, K, G⟩
          case measure => simp [intOf]; omega
        · have hb2 : (s == p) = false := beq_eq_false_iff_ne.2 hsp
          have E := hide (MN.out hsp)
          clear hsp MY MN
          go_wp2
          go_roundw
          case rel => exact ⟨k + 1, by omega, by rw [E.out], by go_num, K, G⟩
          case measure => simp [intOf]; omega
    · obtain rfl : k = L.length := by omega
      rw [List.take_length]
      have NC := hide (fk_noclash (p := p) N.out)
      have C2 := hide (C1.out p c _ (HR.out _ K.out))
      have ML := hide (mv_len L p c)
      clear C1 hk hlt
      by_cases h0 : ck L = 0
      rotate_left 1
      · have E := hide (show cpE L p c = ck L from if_neg h0)
        rw [E.out] at C2
        have hb1 := ne_bool h0
        clear E h0
        generalize ck L = ce at *
        go_wp2_with fail
        refine C2.out.mono ?_
        rintro e w2 ⟨R, A1, c1, rfl, hR, ho, hb⟩
        replace K := hide (btrans K.out hb)
        clear hR ho hb
        go_wp2_with fail
        refine (CK.out _ (HR.out _ K.out)).mono ?_
        rintro e w3 ⟨rfl, hb⟩
        replace K := hide (btrans K.out hb)
        clear hb
        go_wp2
        go_ret
        exact ⟨rfl, K.out⟩
      · have E := hide (show cpE L p c = 0 by unfold cpE; rw [if_pos h0, if_pos ⟨HP.out, HC.out⟩, if_neg NC.out])
        have OL := hide (ck_ok h0)
        have CU := hide (show ∀ R, CpL L p c R → Srt R ∧ R.Perm (L ++ mv L p c) from fun R h => by unfold CpL at h; rwa [if_pos E.out] at h)
        rw [E.out] at C2
        clear E h0
        go_wp2_with fail
        refine C2.out.mono ?_
        rintro e w2 ⟨R, A1, c1, rfl, hR, ho, hb⟩
        obtain ⟨hS, hP⟩ := CU.out R hR
        have M1 := hide (OwM.rs ho)
        have R0 := hide (fk_ok HC.out OL.out.1 hS hP)
        have RL := hide (show R.length = L.length + (mv L p c).length by rw [hP.length_eq, List.length_append])
        have DB := hide (fk_back N.out OL.out.2 hS hP R0.out)
        have HM := hide (show ∀ j, j < L.length → hs R (at' L j) = true from fun j hj => decide_eq_true ⟨R0.out, (fk_mem hP).2 (Or.inl (at_mem hj))⟩)
        have HV := hide (show ∀ j, j < L.length → (at' L j).s = p → hs R ⟨c, (at' L j).p⟩ = true from fun j hj h => decide_eq_true ⟨R0.out, (fk_mem hP).2 (Or.inr (mv_mem.2 ⟨rfl, _, at_mem hj, h, rfl⟩))⟩)
        replace K := hide (btrans K.out hb)
        clear hR ho hb hS hP CU C2
        have CG2 := hide (CG.out A1 c1 R w2 M1.out (by have := RL.out; have := HL.out; have := ML.out; omega))
        rw [R0.out] at CG2
        have hlen : ((R.length : Int) != (L.length : Int) + ((mv L p c).length : Int)) = false := by
          have := RL.out
          rw [show (R.length : Int) = (L.length : Int) + ((mv L p c).length : Int) by omega]; simp
        have hwr : IntKind.i64.wrap ((L.length : Int) + ((mv L p c).length : Int)) = (L.length : Int) + ((mv L p c).length : Int) := by
          have := HL.out; have := ML.out
          rw [IntKind.wrap_i64]; omega
        have RB := hide (show R.length ≤ 80 by have := RL.out; have := HL.out; have := ML.out; omega)
        clear RL ML
        generalize (mv L p c).length = n at *
        go_wp2_with fail
        refine CG2.out.mono ?_
        rintro e w3 ⟨rfl, hb⟩
        replace M1 := hide (M1.out.below hb)
        replace K := hide (btrans K.out hb)
        clear hb CG2 hlen hwr
        go_wp2
        go_loopw [15, 73] (fun _ i wr => ∃ k : Nat, k ≤ L.length ∧ i = .int .i64 k ∧ Hid (Below w.heap.size w wr) ∧ Hid (Ms wr A1 R)) (fun _ i _ => L.length - (intOf i).toNat)
        case atStart => exact ⟨0, Nat.zero_le _, rfl, K, M1⟩
        case round =>
          clear K M1
          obtain ⟨k, hk, rfl, K, M1⟩ := hrel
          by_cases hlt : k < L.length
          · have hl2 : (k : Int) < (L.length : Int) := by omega
            have hk0 : (0 : Int) ≤ (k : Int) := by omega
            have HR2 := hide (HR.out _ K.out)
            obtain ⟨b, off, rfl, hbl, y0, y1⟩ := HR2.out.cells (brefl _) hlt
            have H1 := hide (HM.out k hlt)
            have H2 := hide (HV.out k hlt)
            obtain ⟨a, ha⟩ : ∃ a, a = at' L k := ⟨_, rfl⟩
            rw [← ha] at y0 y1 H1 H2
            clear ha
            obtain ⟨s, pg⟩ := a
            dsimp only at y0 y1 H2
            have M := bal (brefl wr) (.cells #[.int .i64 s, .int .i64 pg] 26)
            have X := hide (MB.new wr s pg)
            replace K := hide (btrans K.out M)
            replace M1 := hide (M1.out.below M)
            clear M HR2
            go_upto_region 21 with fail
            obtain ⟨bq, hbq⟩ : ∃ q, q = wr.heap.size := ⟨_, rfl⟩
            rw [← hbq] at X ⊢
            clear hbq y0 y1
            generalize wr.alloc (.cells #[.int .i64 s, .int .i64 pg] 26) = wa at *
            obtain ⟨x0, x1⟩ := MB.cells X.out
            have Q1 := HA.out A1 R c1 s pg wa M1.out (by have := RB.out; omega)
            rw [H1.out] at Q1
            replace Q1 := hide Q1
            go_wp2_with fail
            refine Q1.out.mono ?_
            rintro e w5 ⟨rfl, hb⟩
            replace X := hide (X.out.below hb)
            replace M1 := hide (M1.out.below hb)
            replace K := hide (btrans K.out hb)
            clear hb x0 x1 Q1
            obtain ⟨x0, x1⟩ := MB.cells X.out
            by_cases hsp : s = p
            · have hb2 : (s == p) = true := beq_iff_eq.2 hsp
              have Q2 := HA.out A1 R c1 c pg w5 M1.out (by have := RB.out; omega)
              rw [H2.out hsp] at Q2
              replace Q2 := hide Q2
              clear hsp H2
              go_wp2_with fail
              refine Q2.out.mono ?_
              rintro e w6 ⟨rfl, hb⟩
              replace M1 := hide (M1.out.below hb)
              replace K := hide (btrans K.out hb)
              clear hb x0 x1 Q2
              go_wp2
              go_roundw
              case rel => exact ⟨k + 1, by omega, by go_num, K, M1⟩
              case measure => simp [intOf]; omega
            · have hb2 : (s == p) = false := beq_eq_false_iff_ne.2 hsp
              clear hsp H2
              go_wp2
              go_roundw
              case rel => exact ⟨k + 1, by omega, by go_num, K, M1⟩
              case measure => simp [intOf]; omega
          · obtain rfl : k = L.length := by omega
            have D := DR.out A1 c1 R c wr M1.out (by have := RB.out; omega)
            rw [DB.out] at D
            replace D := hide D
            go_wp2_with fail
            refine D.out.mono ?_
            rintro e w5 ⟨A2, c2, rfl, ho, hb⟩
            have M2 := hide (OwM.rs ho)
            replace K := hide (btrans K.out hb)
            clear ho hb D
            have S1 := hide (SM.out A2 c2 L A cp L w5 M2.out (HR.out _ K.out) (by have := HL.out; omega) (by have := HL.out; omega))
            rw [decide_eq_true (show L = L from rfl)] at S1
            go_wp2_with fail
            refine S1.out.mono ?_
            rintro e w6 ⟨rfl, hb⟩
            replace K := hide (btrans K.out hb)
            clear hb S1
            go_wp2
            go_ret
            exact ⟨rfl, K.out⟩
end Go.Proofs.Ytioffnpnoohbiaa.Rm
