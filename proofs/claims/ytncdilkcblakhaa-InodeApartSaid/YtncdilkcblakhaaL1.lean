import Derived.Test.YtncdilkcblakhaaF11
namespace Go.Proofs.Ytncdilkcblakhaa.In
open Go Go.RowKit
set_option linter.unusedVariables false
set_option linter.unusedSimpArgs false
theorem sameb_true (A B : Option Addr) (c d n : Nat) (a : By) (w : World) (h1 : BsB w A a) (h2 : BsB w B a) (hl : a.length = n) (hn : n ≤ 9223372036854775807) : Calls Try.prog 16 #[.slice A n c, .slice B n d] w fun e w' => e = .returned (.bool true) ∧ Below w.heap.size w w' := by
  have := sameb_any A B c d a a w h1 h2 (by omega)
  rw [hl] at this
  exact this.mono fun e w' ⟨he, hb⟩ => ⟨by rw [he]; simp, hb⟩
theorem samef_true (A B : Option Addr) (c d n : Nat) (a : Fs) (w : World) (h1 : BsF w A a) (h2 : BsF w B a) (hl : a.length = n) (hn : n ≤ 9223372036854775807) : Calls Try.prog 23 #[.slice A n c, .slice B n d] w fun e w' => e = .returned (.bool true) ∧ Below w.heap.size w w' := by
  have := samef_any A B c d a a w h1 h2 (by omega)
  rw [hl] at this
  exact this.mono fun e w' ⟨he, hb⟩ => ⟨by rw [he]; simp, hb⟩
theorem samei_true (A B : Option Addr) (c d n : Nat) (a : Is) (w : World) (h1 : BsI w A a) (h2 : BsI w B a) (hl : a.length = n) (hn : n ≤ 9223372036854775807) : Calls Try.prog 26 #[.slice A n c, .slice B n d] w fun e w' => e = .returned (.bool true) ∧ Below w.heap.size w w' := by
  have := samei_any A B c d a a w h1 h2 (by omega)
  rw [hl] at this
  exact this.mono fun e w' ⟨he, hb⟩ => ⟨by rw [he]; simp, hb⟩
def LawR (w : World) (e : Ending) (w' : World) : Prop := e = .returned (.bool true) ∧ Below w.heap.size w w'
set_option maxRecDepth 100000 in
set_option maxHeartbeats 4000000 in
theorem law_encodes (s m : Int) (w : World) : Calls Try.prog 3 #[.int .i64 s, .int .i64 m] w (LawR w) := by
  have AW := hide (fun w => awake_any w)
  have C1 := hide (fun w => enc_any s m w)
  have C2 := hide (fun w => renc_any s m w)
  have hn : (eB s m).length ≤ 32 := by unfold eB; split <;> simp [blk_len]
  obtain ⟨n, hn2⟩ : ∃ n, n = (eB s m).length := ⟨_, rfl⟩
  have HN := hide hn2.symm
  unfold EnR at C1 C2
  unfold LawR
  rw [← hn2] at C1 C2 hn
  clear hn2
  generalize eB s m = L at *
  generalize eE s m = er at *
  go_enter Try.func3, Try.ntmps3
  go_wp2_with fail
  refine (AW.out _).mono ?_
  rintro e w1 ⟨rfl, hb⟩
  have K := hide hb
  clear hb AW
  go_wp2_with fail
  refine (C1.out _).mono ?_
  rintro e w2 ⟨A1, c1, rfl, hO, hb⟩
  replace K := hide (btrans K.out hb)
  have R1 := hide (show BsB w2 A1 L from OwB.bs hO)
  clear hb hO C1
  go_wp2_with fail
  refine (C2.out _).mono ?_
  rintro e w3 ⟨A2, c2, rfl, hO, hb⟩
  replace K := hide (btrans K.out hb)
  replace R1 := hide (R1.out.below hb)
  have R2 := hide (show BsB w3 A2 L from OwB.bs hO)
  clear hb hO C2
  have SB := hide (sameb_true A1 A2 c1 c2 n L w3 R1.out R2.out HN.out (by omega))
  go_wp2_with fail
  refine SB.out.mono ?_
  rintro e w4 ⟨rfl, hb⟩
  replace K := hide (btrans K.out hb)
  clear hb
  go_wp2
  go_ret
  exact ⟨rfl, K.out⟩
set_option maxRecDepth 100000 in
set_option maxHeartbeats 4000000 in
theorem law_decodes (A : Option Addr) (c : Nat) (l : By) (w : World) (h : BsB w A l) (hy : Byt l) (hn : l.length ≤ 9223372036854775807) : Calls Try.prog 4 #[.slice A l.length c] w (LawR w) := by
  have AW := hide (fun w => awake_any w)
  unfold LawR
  by_cases h100 : 100 < l.length
  · have hgt : (100 : Int) < l.length := by omega
    clear h
    go_enter Try.func4, Try.ntmps4
    go_wp2_with fail
    refine (AW.out _).mono ?_
    rintro e w1 ⟨rfl, hb⟩
    have K := hide hb
    clear hb
    go_wp2_with fail
    refine (AW.out _).mono ?_
    rintro e w2 ⟨rfl, hb⟩
    replace K := hide (btrans K.out hb)
    clear hb
    go_wp2
    go_ret
    exact ⟨rfl, K.out⟩
  · have hgt : ¬ (100 : Int) < l.length := by omega
    have C1 := hide (fun w' (hb : Below w.heap.size w w') => dec_any A c l w' (h.below hb) hy hn)
    have C2 := hide (fun w' (hb : Below w.heap.size w w') => rdec_any A c l w' (h.below hb) hy hn)
    unfold DeR at C1 C2
    clear h hy
    generalize (dR l).1 = r1 at *
    generalize (dR l).2 = r2 at *
    generalize dE l = er at *
    go_enter Try.func4, Try.ntmps4
    go_wp2_with fail
    refine (AW.out _).mono ?_
    rintro e w1 ⟨rfl, hb⟩
    have K := hide hb
    clear hb
    go_wp2_with fail
    refine (C1.out _ K.out).mono ?_
    rintro e w2 ⟨rfl, hb⟩
    replace K := hide (btrans K.out hb)
    clear hb
    go_wp2_with fail
    refine (C2.out _ K.out).mono ?_
    rintro e w3 ⟨rfl, hb⟩
    replace K := hide (btrans K.out hb)
    clear hb
    go_wp2
    go_ret
    exact ⟨rfl, K.out⟩
set_option maxRecDepth 100000 in
set_option maxHeartbeats 4000000 in
theorem law_masks (A : Option Addr) (c : Nat) (l : Fs) (m k : Int) (w : World) (h : BsF w A l) (hn : l.length ≤ 9223372036854775807) : Calls Try.prog 5 #[.slice A l.length c, .int .i64 m, .int .i64 k] w (LawR w) := by
  have AW := hide (fun w => awake_any w)
  unfold LawR
  by_cases h100 : 100 < l.length
  · have hgt : (100 : Int) < l.length := by omega
    clear h
    go_enter Try.func5, Try.ntmps5
    go_wp2_with fail
    refine (AW.out _).mono ?_
    rintro e w1 ⟨rfl, hb⟩
    have K := hide hb
    clear hb
    go_wp2_with fail
    refine (AW.out _).mono ?_
    rintro e w2 ⟨rfl, hb⟩
    replace K := hide (btrans K.out hb)
    clear hb
    go_wp2
    go_ret
    exact ⟨rfl, K.out⟩
  · have hgt : ¬ (100 : Int) < l.length := by omega
    have C1 := hide (fun w' (hb : Below w.heap.size w w') => mask_any A c l w' (h.below hb) hn)
    have C2 := hide (fun w' (hb : Below w.heap.size w w') => rmask_any A c l w' (h.below hb) hn)
    have C3 := hide (fun w => backed_any m k w)
    have C4 := hide (fun w => rbacked_any m k w)
    have hn1 : (bR m k).length ≤ 16 := by
      unfold bR; split
      · rename_i h; rw [bk_len]; have := bE_zero h; omega
      · simp
    obtain ⟨n, hn2⟩ : ∃ n, n = (bR m k).length := ⟨_, rfl⟩
    have HN := hide hn2.symm
    unfold BaR at C3 C4
    unfold MaR at C1 C2
    rw [← hn2] at C3 C4 hn1
    clear h hn2
    generalize bR m k = L at *
    generalize bE m k = er at *
    generalize mR l = r1 at *
    generalize mE l = er1 at *
    go_enter Try.func5, Try.ntmps5
    go_wp2_with fail
    refine (AW.out _).mono ?_
    rintro e w1 ⟨rfl, hb⟩
    have K := hide hb
    clear hb
    go_wp2_with fail
    refine (C1.out _ K.out).mono ?_
    rintro e w2 ⟨rfl, rfl⟩
    go_wp2_with fail
    refine (C2.out _ K.out).mono ?_
    rintro e w3 ⟨rfl, rfl⟩
    clear C1 C2
    go_wp2_with fail
    refine (C3.out _).mono ?_
    rintro e w2 ⟨A1, c1, rfl, hO, hb⟩
    replace K := hide (btrans K.out hb)
    have R1 := hide (show BsF w2 A1 L from OwF.bs hO)
    clear hb hO C3
    go_wp2_with fail
    refine (C4.out _).mono ?_
    rintro e w3 ⟨A2, c2, rfl, hO, hb⟩
    replace K := hide (btrans K.out hb)
    replace R1 := hide (R1.out.below hb)
    have R2 := hide (show BsF w3 A2 L from OwF.bs hO)
    clear hb hO C4
    have SB := hide (samef_true A1 A2 c1 c2 n L w3 R1.out R2.out HN.out (by omega))
    go_wp2_with fail
    refine SB.out.mono ?_
    rintro e w4 ⟨rfl, hb⟩
    replace K := hide (btrans K.out hb)
    clear hb
    go_wp2
    go_ret
    exact ⟨rfl, K.out⟩
set_option maxRecDepth 100000 in
set_option maxHeartbeats 4000000 in
theorem law_lays (A : Option Addr) (c : Nat) (l : Is) (m : Int) (w : World) (h : BsI w A l) (hn : l.length ≤ 9223372036854775807) : Calls Try.prog 6 #[.slice A l.length c, .int .i64 m] w (LawR w) := by
  have AW := hide (fun w => awake_any w)
  unfold LawR
  by_cases h100 : 100 < l.length
  · have hgt : (100 : Int) < l.length := by omega
    clear h
    go_enter Try.func6, Try.ntmps6
    go_wp2_with fail
    refine (AW.out _).mono ?_
    rintro e w1 ⟨rfl, hb⟩
    have K := hide hb
    clear hb
    go_wp2_with fail
    refine (AW.out _).mono ?_
    rintro e w2 ⟨rfl, hb⟩
    replace K := hide (btrans K.out hb)
    clear hb
    go_wp2
    go_ret
    exact ⟨rfl, K.out⟩
  · have hgt : ¬ (100 : Int) < l.length := by omega
    have C1 := hide (fun w' (hb : Below w.heap.size w w') => layout_any A c l m w' (h.below hb) hn)
    have C2 := hide (fun w' (hb : Below w.heap.size w w') => rlayout_any A c l m w' (h.below hb) hn)
    have hn1 : (lR l m).length ≤ 102 := by
      unfold lR; split
      · rw [lL_len]; omega
      · simp
    obtain ⟨n, hn2⟩ : ∃ n, n = (lR l m).length := ⟨_, rfl⟩
    have HN := hide hn2.symm
    unfold LyR at C1 C2
    rw [← hn2] at C1 C2 hn1
    clear h hn2
    generalize lR l m = L at *
    generalize lE l m = er at *
    go_enter Try.func6, Try.ntmps6
    go_wp2_with fail
    refine (AW.out _).mono ?_
    rintro e w1 ⟨rfl, hb⟩
    have K := hide hb
    clear hb
    go_wp2_with fail
    refine (C1.out _ K.out).mono ?_
    rintro e w2 ⟨A1, c1, rfl, hO, hb⟩
    replace K := hide (btrans K.out hb)
    have R1 := hide (show BsI w2 A1 L from OwI.bs hO)
    clear hb hO C1
    go_wp2_with fail
    refine (C2.out _ K.out).mono ?_
    rintro e w3 ⟨A2, c2, rfl, hO, hb⟩
    replace K := hide (btrans K.out hb)
    replace R1 := hide (R1.out.below hb)
    have R2 := hide (show BsI w3 A2 L from OwI.bs hO)
    clear hb hO C2
    have SB := hide (samei_true A1 A2 c1 c2 n L w3 R1.out R2.out HN.out (by omega))
    go_wp2_with fail
    refine SB.out.mono ?_
    rintro e w4 ⟨rfl, hb⟩
    replace K := hide (btrans K.out hb)
    clear hb
    go_wp2
    go_ret
    exact ⟨rfl, K.out⟩
/-- a size and a mask out of two words -/
theorem reduced {x y : Int} (hx : 0 ≤ x ∧ x < 256) (hy : 0 ≤ y ∧ y < 65536) : 0 ≤ x % 17 ∧ x % 17 ≤ 16 ∧ (1 : Int) ≤ 2 ^ (x % 17).toNat ∧ (2 : Int) ^ (x % 17).toNat ≤ 65536 ∧ eE (x % 17) (y % 2 ^ (x % 17).toNat) = 0 := by
  have h1 : 0 ≤ x % 17 ∧ x % 17 ≤ 16 := by omega
  have h2 := pw_le h1
  refine ⟨h1.1, h1.2, h2.1, h2.2, eE_of h1 ⟨?_, ?_⟩⟩
  · exact Int.emod_nonneg _ (by omega)
  · exact Int.emod_lt_of_pos _ (by omega)
set_option maxRecDepth 100000 in
set_option maxHeartbeats 4000000 in
theorem law_back (x y : Int) (w : World) (hx : 0 ≤ x ∧ x < 256) (hy : 0 ≤ y ∧ y < 65536) : Calls Try.prog 7 #[.int .u8 x, .int .u16 y] w (LawR w) := by
  have AW := hide (fun w => awake_any w)
  obtain ⟨h1, h2, h3, h4, h5⟩ := reduced hx hy
  have t1 : x.tmod 17 = x % 17 := Int.tmod_eq_emod_of_nonneg hx.1
  obtain ⟨s, hs⟩ : ∃ s, s = x % 17 := ⟨_, rfl⟩
  rw [← hs] at h1 h2 h3 h4 h5 t1
  have v1 : IntKind.u8.wrap s = s := by rw [IntKind.wrap_u8']; omega
  have v2 : IntKind.i64.wrap s = s := by rw [IntKind.wrap_i64]; omega
  have v3 : IntKind.i64.wrap y = y := by rw [IntKind.wrap_i64]; omega
  have v4 : IntKind.u64.wrap s = s := by rw [IntKind.wrap_u64]; omega
  have v5 : s ≤ 64 := by omega
  obtain ⟨p, hp⟩ : ∃ p : Int, p = 2 ^ s.toNat := ⟨_, rfl⟩
  have hp2 := hp.symm
  rw [← hp] at h3 h4 h5
  have v6 : IntKind.i64.wrap p = p := by rw [IntKind.wrap_i64]; omega
  have t2 : y.tmod p = y % p := Int.tmod_eq_emod_of_nonneg hy.1
  obtain ⟨m, hm⟩ : ∃ m, m = y % p := ⟨_, rfl⟩
  have hm1 : 0 ≤ y % p ∧ y % p < p := ⟨Int.emod_nonneg _ (by omega), Int.emod_lt_of_pos _ (by omega)⟩
  rw [← hm] at h5 t2 hm1
  have v7 : IntKind.i64.wrap m = m := by rw [IntKind.wrap_i64]; omega
  have pn : p ≠ 0 := by omega
  have C1 := hide (fun w => enc_any s m w)
  have C2 := hide (fun A c w (h : BsB w A (blk s m)) => dec_any A c (blk s m) w h (blk_byt h5) (by rw [blk_len]; omega))
  unfold EnR at C1
  unfold DeR at C2
  rw [show eB s m = blk s m from if_pos h5, h5, blk_len] at C1
  rw [dE_blk h5, dR_blk h5, blk_len] at C2
  unfold LawR
  clear hs hp hm h5
  go_enter Try.func7, Try.ntmps7
  go_wp2_with fail
  refine (AW.out _).mono ?_
  rintro e w1 ⟨rfl, hb⟩
  have K := hide hb
  clear hb
  go_wp2_with fail
  refine (C1.out _).mono ?_
  rintro e w2 ⟨A1, c1, rfl, hO, hb⟩
  replace K := hide (btrans K.out hb)
  have R1 := hide (show BsB w2 A1 (blk s m) from OwB.bs hO)
  clear hb hO C1
  go_wp2_with fail
  refine (C2.out _ _ _ R1.out).mono ?_
  rintro e w3 ⟨rfl, hb⟩
  replace K := hide (btrans K.out hb)
  clear hb
  go_wp2
  go_ret
  exact ⟨rfl, K.out⟩
end Go.Proofs.Ytncdilkcblakhaa.In
