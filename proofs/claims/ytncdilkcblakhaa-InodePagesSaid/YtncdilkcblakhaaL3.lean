import Derived.Test.YtncdilkcblakhaaL1
namespace Go.Proofs.Ytncdilkcblakhaa.In
open Go Go.RowKit
set_option linter.unusedVariables false
set_option linter.unusedSimpArgs false
set_option maxRecDepth 100000 in
set_option maxHeartbeats 8000000 in
theorem law_pages (A : Option Addr) (c : Nat) (l : Fs) (w : World) (h : BsF w A l) (hn : l.length ≤ 9223372036854775807) : Calls Try.prog 9 #[.slice A l.length c] w (LawR w) := by
  have AW := hide (fun w => awake_any w)
  unfold LawR
  by_cases h16 : 16 < l.length
  · have hgt : (16 : Int) < l.length := by omega
    clear h
    go_enter Try.func9, Try.ntmps9
    go_wp2_with fail
    refine (AW.out _).mono ?_
    rintro e w1 ⟨rfl, hb⟩
    have K := hide hb
    clear hb
    go_wp2_with fail
    refine (AW.out _).mono ?_
    rintro e w2 ⟨rfl, hb⟩
    replace K := hide (btrans K.out hb)
    clear hb
    go_wp2
    go_ret
    exact ⟨rfl, K.out⟩
  · have hgt : ¬ (16 : Int) < l.length := by omega
    have hl16 : l.length ≤ 16 := by omega
    have HR := hide h
    have C1 := hide (fun w' (hb : Below w.heap.size w w') => mask_any A c l w' (h.below hb) hn)
    unfold MaR at C1
    rw [show mE l = 0 from if_pos hl16, show mR l = mk l l.length from if_pos hl16] at C1
    have bd := mk_bd l l.length hl16
    have ub : IntKind.u64.wrap (l.length : Int) = (l.length : Int) := by rw [IntKind.wrap_u64]; omega
    have l64 : (l.length : Int) ≤ 64 := by omega
    have l0 : (0 : Int) ≤ (l.length : Int) := by omega
    have tl : ((l.length : Int)).toNat = l.length := by simp
    have E0 : bE (mk l l.length : Int) (l.length : Int) = 0 := bE_of ⟨by omega, by omega⟩ ⟨by omega, by rw [tl]; exact bd.1⟩
    have ER : bR (mk l l.length : Int) (l.length : Int) = l := by
      unfold bR; rw [if_pos E0, tl, bk_mk]
    have C2 := hide (fun w => backed_any (mk l l.length : Int) (l.length : Int) w)
    unfold BaR at C2
    rw [E0, ER] at C2
    have SB := hide (fun A1 c1 w' (hb : Below w.heap.size w w') (h1 : BsF w' A1 l) => samef_true A1 A c1 c l.length l w' h1 (h.below hb) rfl hn)
    have MB := hide (fun i (hi : i < l.length) => mk_bit l l.length i hi)
    obtain ⟨p, hp⟩ : ∃ p : Int, p = 2 ^ l.length := ⟨_, rfl⟩
    have hp2 := hp.symm
    rw [← hp] at bd
    have v6 : IntKind.i64.wrap p = p := by rw [IntKind.wrap_i64]; omega
    obtain ⟨M, hM⟩ : ∃ M : Nat, M = mk l l.length := ⟨_, rfl⟩
    rw [← hM] at C1 C2 bd MB
    have m0 : ¬ (M : Int) < 0 := by omega
    have m1 : ¬ p ≤ (M : Int) := by omega
    have hm : 0 ≤ (M : Int) ∧ (M : Int) < 65536 := by omega
    clear h E0 ER hp hM
    go_enter Try.func9, Try.ntmps9
    go_wp2_with fail
    refine (AW.out _).mono ?_
    rintro e w1 ⟨rfl, hb⟩
    have K := hide hb
    clear hb
    go_wp2_with fail
    refine (C1.out _ K.out).mono ?_
    rintro e w2 ⟨rfl, rfl⟩
    clear C1
    go_wp2_with fail
    refine (C2.out _).mono ?_
    rintro e w2 ⟨A1, c1, rfl, hO, hb⟩
    replace K := hide (btrans K.out hb)
    have R1 := hide (show BsF w2 A1 l from OwF.bs hO)
    clear hb hO C2
    go_wp2_with fail
    refine (SB.out _ _ _ K.out R1.out).mono ?_
    rintro e w3 ⟨rfl, hb⟩
    replace K := hide (btrans K.out hb)
    clear hb R1 SB m0 m1
    go_wp2
    go_loopw [51] (fun i wr => ∃ k : Nat, k ≤ l.length ∧ i = .int .i64 k ∧ Hid (Below w.heap.size w wr)) (fun i _ => l.length - (intOf i).toNat)
    case atStart => exact ⟨0, Nat.zero_le _, rfl, K⟩
    case round =>
      clear K
      obtain ⟨k, hk, rfl, K⟩ := hrel
      by_cases hlt : k < l.length
      · have hl2 : (k : Int) < (l.length : Int) := by omega
        have hk0 : (0 : Int) ≤ (k : Int) := by omega
        have hk6 : (k : Int) ≤ 64 := by omega
        have tn : ((k : Int)).toNat = k := by simp
        have uk : IntKind.u64.wrap (k : Int) = (k : Int) := by rw [IntKind.wrap_u64]; omega
        obtain ⟨b, o, rfl, hb, xx⟩ := HR.out.cells K.out hlt
        have mb := MB.out k hlt
        rw [← bit_cast] at mb
        have sb := shr_bd hm.1 hm.2 k
        obtain ⟨v, hv⟩ : ∃ v : Int, v = (M : Int) / 2 ^ k := ⟨_, rfl⟩
        have hv2 := hv.symm
        rw [← hv] at mb sb
        have ao := and_one sb.1 sb.2
        clear hv sb
        cases he : l.getD k false
        · rw [he] at xx mb
          have hx : v % 2 = 0 := by simp at mb; omega
          rw [hx] at ao
          clear he mb hx
          go_wp2
          go_roundw
          case rel => exact ⟨k + 1, by omega, by go_num, K⟩
          case measure => simp [intOf]; omega
        · rw [he] at xx mb
          have hx : v % 2 = 1 := by simpa using mb
          rw [hx] at ao
          clear he mb hx
          go_wp2
          go_roundw
          case rel => exact ⟨k + 1, by omega, by go_num, K⟩
          case measure => simp [intOf]; omega
      · obtain rfl : k = l.length := by omega
        go_wp2
        go_ret
        exact ⟨rfl, K.out⟩
end Go.Proofs.Ytncdilkcblakhaa.In
