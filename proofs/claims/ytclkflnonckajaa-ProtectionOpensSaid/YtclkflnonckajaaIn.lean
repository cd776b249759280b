import Derived.Test.YtclkflnonckajaaPa
namespace Go.Proofs.Ytclkflnonckajaa.Ac
open Go Go.RowKit
set_option linter.unusedVariables false
set_option linter.unusedSimpArgs false
theorem mem_at {l : Is} {z : Int} : z ∈ l ↔ ∃ j, j < l.length ∧ l.getD j 0 = z := by
  constructor
  · intro h
    obtain ⟨j, hj, e⟩ := List.getElem_of_mem h
    exact ⟨j, hj, by rw [List.getD_eq_getElem?_getD, List.getElem?_eq_getElem hj]; exact e⟩
  · rintro ⟨j, hj, e⟩
    rw [List.getD_eq_getElem?_getD, List.getElem?_eq_getElem hj] at e
    exact e ▸ List.getElem_mem hj
/-- the first place of a number in a list -/
def IxP (l : Is) (z : Int) (w : World) (e : Ending) (w' : World) : Prop := ∃ i : Int, e = .returned (.int .i64 i) ∧ ((i = -1 ∧ z ∉ l) ∨ (∃ j, j < l.length ∧ i = (j : Nat) ∧ l.getD j 0 = z ∧ ∀ k, k < j → l.getD k 0 ≠ z)) ∧ w = w'
set_option maxHeartbeats 2000000 in
theorem index_any (A : Option Addr) (cp : Nat) (l : Is) (z : Int) (w : World) (hr : Bi w A l) (hn : l.length ≤ 1000) :
    Calls Try.prog 75 #[.slice A l.length cp, .int .i64 z] w (IxP l z w) := by
  have HR := hide hr
  clear hr
  unfold IxP
  go_enter Try.func75, Try.ntmps75
  go_wp2
  go_loopw [5, 8] (fun _ c wr => ∃ k : Nat, k ≤ l.length ∧ c = .int .i64 k ∧ wr = w ∧ Hid (∀ j, j < k → l.getD j 0 ≠ z)) (fun _ c _ => l.length - (intOf c).toNat)
  case atStart => exact ⟨0, Nat.zero_le _, rfl, rfl, hide (fun j h => by omega)⟩
  case round =>
    obtain ⟨k, hk, rfl, rfl, N⟩ := hrel
    by_cases hlt : k < l.length
    · have hl2 : (k : Int) < (l.length : Int) := by omega
      have hk0 : (0 : Int) ≤ (k : Int) := by omega
      obtain ⟨b, off, rfl, hbl, y0⟩ := HR.out.cells (brefl _) hlt
      by_cases he : l.getD k 0 = z
      · have E := hide he
        rw [he] at y0
        clear he
        go_wp2
        go_ret
        exact ⟨_, rfl, .inr ⟨k, hlt, rfl, E.out, N.out⟩, rfl⟩
      · have N2 := hide (all_next (P := fun j => l.getD j 0 ≠ z) N.out he)
        have de : (z == l.getD k 0) = false := by simpa using fun h => he h.symm
        clear he N
        generalize l.getD k 0 = m at *
        go_wp2
        go_roundw
        case rel => exact ⟨k + 1, by omega, by go_num, trivial, N2⟩
        case measure => simp [intOf]; omega
    · obtain rfl : k = l.length := by omega
      go_wp2
      go_ret
      exact ⟨_, rfl, .inl ⟨rfl, fun h => by obtain ⟨j, hj, e⟩ := mem_at.1 h; exact N.out j hj e⟩, rfl⟩
set_option maxHeartbeats 1000000 in
theorem cont_any (A : Option Addr) (cp : Nat) (l : Is) (z : Int) (w : World) (hr : Bi w A l) (hn : l.length ≤ 1000) :
    Calls Try.prog 65 #[.slice A l.length cp, .int .i64 z] w fun e w' => e = .returned (.bool (decide (z ∈ l))) ∧ w = w' := by
  have H := hide (index_any A cp l z w hr hn)
  clear hr
  go_enter Try.func65, Try.ntmps65
  go_wp2_with fail
  refine H.out.mono ?_
  rintro e w1 ⟨i, rfl, hi, rfl⟩
  have E := hide (show decide (0 ≤ i) = decide (z ∈ l) from decide_eq_decide.2 (by
    rcases hi with ⟨rfl, h⟩ | ⟨j, hj, rfl, e, _⟩
    · exact ⟨fun h0 => absurd h0 (by decide), fun h0 => absurd h0 h⟩
    · exact ⟨fun _ => mem_at.2 ⟨j, hj, e⟩, fun _ => by omega⟩))
  clear hi H
  go_wp2
  go_ret
  exact ⟨ret_bool E.out, rfl⟩
theorem iR_no {L : List A5} {a s : Int} (h : ¬ (chE L = 0 ∧ 0 ≤ a ∧ a < L.length)) : iR L a s = false := by unfold iR; rw [decide_eq_false h]; rfl
theorem iR_all {L : List A5} {a : Int} (h : chE L = 0 ∧ 0 ≤ a ∧ a < L.length) : iR L a (-1) = true := by unfold iR; rw [decide_eq_true h, decide_eq_true (show (-1 : Int) = -1 from rfl)]; rfl
theorem iR_s {L : List A5} {a s : Int} (h : chE L = 0 ∧ 0 ≤ a ∧ a < L.length) (hs : s ≠ -1) : iR L a s = decide (s ∈ pth L a) := by unfold iR; rw [decide_eq_true h, decide_eq_false hs]; simp
theorem pth_nlen {L : List A5} {a : Int} (h : chE L = 0 ∧ 0 ≤ a ∧ a < L.length) : 1 ≤ (pth L a).length ∧ (pth L a).length ≤ 8 := by
  have V := vd_of h.1
  obtain ⟨k, rfl⟩ := Int.eq_ofNat_of_zero_le h.2.1
  have h2 := pth_len V.tr V.len.2 (k : Int) (by omega) h.2.2
  have e := pth_cons V.tr V.len.2 (a := k) (by omega)
  have := V.len.2
  rw [e] at h2 ⊢
  simp only [List.length_cons] at h2 ⊢
  omega
set_option maxHeartbeats 2000000 in
theorem inside_any (A : Option Addr) (cp : Nat) (L : List A5) (a s : Int) (w : World) (hr : As w A L) (hcp : L.length ≤ cp) (hn : L.length ≤ 9223372036854775807) :
    Calls Try.prog 28 #[.slice A L.length cp, .int .i64 a, .int .i64 s] w fun e w' => e = .returned (.bool (iR L a s)) ∧ Below w.heap.size w w' := by
  have C := hide (path_any A cp L a w hr hcp hn)
  clear hr hcp
  by_cases h : chE L = 0 ∧ 0 ≤ a ∧ a < L.length
  · rw [pR_ok h] at C
    have PN := pth_nlen h
    by_cases hs : s = -1
    · have E := hide (iR_all h)
      subst hs
      clear h
      generalize pth L a = l at *
      have hl1 : (0 : Int) < (l.length : Int) := by omega
      have hl2 : 0 < l.length := by omega
      go_enter Try.func28, Try.ntmps28
      go_wp2_with fail
      refine C.out.mono ?_
      rintro e w' ⟨A1, c1, rfl, hO, hb⟩
      have K := hide hb
      clear hb C hO
      go_wp2
      go_ret
      exact ⟨ret_bool E.out.symm, K.out⟩
    · have E := hide (iR_s h hs)
      have ds : (s == -1) = false := by simpa using hs
      clear h hs
      generalize pth L a = l at *
      go_enter Try.func28, Try.ntmps28
      go_wp2_with fail
      refine C.out.mono ?_
      rintro e w' ⟨A1, c1, rfl, hO, hb⟩
      have K := hide hb
      have CT := hide (cont_any A1 c1 l s w' (OwI.bi hO) (by omega))
      clear hb C hO
      go_wp2_with fail
      refine CT.out.mono ?_
      rintro e w9 ⟨rfl, rfl⟩
      clear CT
      go_wp2
      go_ret
      exact ⟨ret_bool E.out.symm, K.out⟩
  · rw [pR_no h] at C
    have E := hide (iR_no (s := s) h)
    clear h
    by_cases hs : s = -1
    · subst hs
      go_enter Try.func28, Try.ntmps28
      go_wp2_with fail
      refine C.out.mono ?_
      rintro e w' ⟨A1, c1, rfl, hO, hb⟩
      have K := hide hb
      have CT := hide (cont_any A1 c1 [] (-1) w' (OwI.bi hO) (by simp))
      clear hb C hO
      go_wp2_with fail
      refine CT.out.mono ?_
      rintro e w9 ⟨rfl, rfl⟩
      clear CT
      go_wp2
      go_ret
      exact ⟨ret_bool (by rw [E.out]), K.out⟩
    · have ds : (s == -1) = false := by simpa using hs
      clear hs
      go_enter Try.func28, Try.ntmps28
      go_wp2_with fail
      refine C.out.mono ?_
      rintro e w' ⟨A1, c1, rfl, hO, hb⟩
      have K := hide hb
      have CT := hide (cont_any A1 c1 [] s w' (OwI.bi hO) (by simp))
      clear hb C hO
      go_wp2_with fail
      refine CT.out.mono ?_
      rintro e w9 ⟨rfl, rfl⟩
      clear CT
      go_wp2
      go_ret
      exact ⟨ret_bool (by rw [E.out]), K.out⟩
set_option maxHeartbeats 2000000 in
theorem rinside_any (A : Option Addr) (cp : Nat) (L : List A5) (a s : Int) (w : World) (hr : As w A L) (hcp : L.length ≤ cp) (hn : L.length ≤ 9223372036854775807) :
    Calls Try.prog 29 #[.slice A L.length cp, .int .i64 a, .int .i64 s] w fun e w' => e = .returned (.bool (iR L a s)) ∧ Below w.heap.size w w' := by
  have HS := hide (has_any A cp L a w hr hn)
  have HP := hide (fun w' (h : Below w.heap.size w w') => rpath_any A cp L a w' (hr.below h) hcp hn)
  clear hr hcp
  by_cases h : chE L = 0 ∧ 0 ≤ a ∧ a < L.length
  · rw [hsB_yes h] at HS
    rw [pR_ok h] at HP
    have PN := pth_nlen h
    by_cases hs : s = -1
    · have E := hide (iR_all h)
      subst hs
      clear h HP
      go_enter Try.func29, Try.ntmps29
      go_wp2_with fail
      refine HS.out.mono ?_
      rintro e w' ⟨rfl, hb⟩
      have K := hide hb
      clear hb HS
      go_wp2
      go_ret
      exact ⟨ret_bool E.out.symm, K.out⟩
    · have E := hide (iR_s h hs)
      have ds : (s == -1) = false := by simpa using hs
      clear h hs
      generalize pth L a = l at *
      go_enter Try.func29, Try.ntmps29
      go_wp2_with fail
      refine HS.out.mono ?_
      rintro e w1 ⟨rfl, hb⟩
      have K := hide hb
      clear hb HS
      go_wp2_with fail
      refine (HP.out _ K.out).mono ?_
      rintro e w' ⟨A1, c1, rfl, hO, hb⟩
      replace K := hide (btrans K.out hb)
      have HR := hide (OwI.bi hO)
      clear hb hO HP
      go_wp2
      go_loopw [8] (fun c wr => ∃ k : Nat, k ≤ l.length ∧ c = .int .i64 k ∧ wr = w' ∧ Hid (∀ j, j < k → l.getD j 0 ≠ s)) (fun c _ => l.length - (intOf c).toNat)
      case atStart => exact ⟨0, Nat.zero_le _, rfl, rfl, hide (fun j h => by omega)⟩
      case round =>
        obtain ⟨k, hk, rfl, rfl, N⟩ := hrel
        by_cases hlt : k < l.length
        · have hl2 : (k : Int) < (l.length : Int) := by omega
          have hk0 : (0 : Int) ≤ (k : Int) := by omega
          obtain ⟨b, off, rfl, hbl, y0⟩ := HR.out.cells (brefl _) hlt
          by_cases he : l.getD k 0 = s
          · have EE := hide (decide_eq_true (mem_at.2 ⟨k, hlt, he⟩))
            rw [he] at y0
            clear he
            go_wp2
            go_ret
            exact ⟨ret_bool (E.out.trans EE.out).symm, K.out⟩
          · have N2 := hide (all_next (P := fun j => l.getD j 0 ≠ s) N.out he)
            have de : (l.getD k 0 == s) = false := by simpa using he
            clear he N
            generalize l.getD k 0 = m at *
            go_wp2
            go_roundw
            case rel => exact ⟨k + 1, by omega, by go_num, trivial, N2⟩
            case measure => simp [intOf]; omega
        · obtain rfl : k = l.length := by omega
          have EE := hide (decide_eq_false (fun h : s ∈ l => by obtain ⟨j, hj, e⟩ := mem_at.1 h; exact N.out j hj e))
          go_wp2
          go_ret
          exact ⟨ret_bool (E.out.trans EE.out).symm, K.out⟩
  · rw [hsB_no h] at HS
    have E := hide (iR_no (s := s) h)
    clear h HP
    go_enter Try.func29, Try.ntmps29
    go_wp2_with fail
    refine HS.out.mono ?_
    rintro e w' ⟨rfl, hb⟩
    have K := hide hb
    clear hb HS
    go_wp2
    go_ret
    exact ⟨ret_bool E.out.symm, K.out⟩
theorem oR_no {L : List A5} {a : Int} (h : ¬ (chE L = 0 ∧ 0 ≤ a ∧ a < L.length)) : oR L a = -1 := if_neg h
theorem oR_ok {L : List A5} {a : Nat} (h : chE L = 0 ∧ 0 ≤ (a : Int) ∧ (a : Int) < L.length) : oR L a = own L a := by unfold oR; rw [if_pos h, Int.toNat_natCast]
theorem own_in {L : List A5} (V : Vd L) {k : Nat} (hk : k < L.length) : 0 ≤ own L k ∧ own L k ≤ 1048576 := by
  have h := V.sta k hk
  have k0 := kc_nonneg (L := L) (x := (k : Int)) (f := us L) L.length (fun i hi _ _ => (V.rg i hi).1.1.1)
  have u := (V.rg k hk).1.1
  unfold inr at u
  unfold own at h ⊢
  omega
set_option maxHeartbeats 2000000 in
theorem ownf_any (A : Option Addr) (cp : Nat) (L : List A5) (a : Int) (w : World) (hr : As w A L) (hcp : L.length ≤ cp) (hn : L.length ≤ 9223372036854775807) :
    Calls Try.prog 30 #[.slice A L.length cp, .int .i64 a] w fun e w' => e = .returned (.int .i64 (oR L a)) ∧ Below w.heap.size w w' := by
  have C := hide (cacc_any A cp L a w hr hcp hn)
  by_cases h : chE L = 0 ∧ 0 ≤ a ∧ a < L.length
  · rw [mE_0 h.1 h.2] at C
    have V := vd_of h.1
    obtain ⟨k, rfl⟩ := Int.eq_ofNat_of_zero_le h.2.1
    have hkl : k < L.length := by omega
    have hkl2 : (k : Int) < (L.length : Int) := by omega
    have hk0 : (0 : Int) ≤ (k : Int) := by omega
    have E := hide (oR_ok h)
    have OW := hide (fun w' (h : Below w.heap.size w w') => own_any A cp L w' (hr.below h) V.len.1 V.len.2 V.tr V.rg)
    clear h V hr hcp
    go_enter Try.func30, Try.ntmps30
    go_wp2_with fail
    refine C.out.mono ?_
    rintro e w' ⟨rfl, hb⟩
    have K := hide hb
    clear hb C
    go_wp2_with fail
    refine (OW.out _ K.out).mono ?_
    rintro e w1 ⟨g, rfl, hS, hg, hb⟩
    replace K := hide (btrans K.out hb)
    have c0 : w1.cell? ⟨g, k, none⟩ = some (.int .i64 (own L k)) := hS.cell hkl
    clear hb hS hg OW
    generalize own L k = z at *
    go_wp2
    go_ret
    exact ⟨ret_int E.out.symm, K.out⟩
  · have E := hide (oR_no h)
    have hne : mE L a ≠ 0 := fun g => h (mE_ok g)
    have de : (mE L a != 0) = true := by simpa using hne
    clear hne h hr hcp
    generalize mE L a = ce at *
    go_enter Try.func30, Try.ntmps30
    go_wp2_with fail
    refine C.out.mono ?_
    rintro e w' ⟨rfl, hb⟩
    have K := hide hb
    clear hb C
    go_wp2
    go_ret
    exact ⟨ret_int E.out.symm, K.out⟩
set_option maxHeartbeats 2000000 in
theorem rown_any (A : Option Addr) (cp : Nat) (L : List A5) (a : Int) (w : World) (hr : As w A L) (hcp : L.length ≤ cp) (hn : L.length ≤ 9223372036854775807) :
    Calls Try.prog 31 #[.slice A L.length cp, .int .i64 a] w fun e w' => e = .returned (.int .i64 (oR L a)) ∧ Below w.heap.size w w' := by
  have C := hide (has_any A cp L a w hr hn)
  by_cases h : chE L = 0 ∧ 0 ≤ a ∧ a < L.length
  · rw [hsB_yes h] at C
    have V := vd_of h.1
    obtain ⟨k, rfl⟩ := Int.eq_ofNat_of_zero_le h.2.1
    have hkl : k < L.length := by omega
    have hkl2 : (k : Int) < (L.length : Int) := by omega
    have hk0 : (0 : Int) ≤ (k : Int) := by omega
    have E := hide (oR_ok h)
    obtain ⟨b, off, hA, hbl, z0, z1, z2, z3, z4⟩ := hr.cells (brefl w) hkl
    subst hA
    have Z := hide (show ∀ w', Below w.heap.size w w' → w'.cell? ⟨b, off + k * 5 + 1, none⟩ = some (.int .i64 (us L k)) from fun w' h => (h.cell (p := ⟨b, off + k * 5 + 1, none⟩) hbl).trans z1)
    have KI := hide (fun (w' : World) (h : Below w.heap.size w w') => kids_any (some ⟨b, off, none⟩) cp L (k : Int) w' (hr.below h) V.len.1 V.len.2 (fun i hi => (V.rg i hi).1.1))
    have bk := kc_bd (L := L) (x := (k : Int)) (f := us L) L.length V.len.2 (fun i hi => (V.rg i hi).1.1)
    have bu := (V.rg k hkl).1.1
    unfold inr at bu
    unfold own at E
    clear h V hr hcp z0 z1 z2 z3 z4
    generalize us L k = u at *
    generalize kc L (k : Int) (us L) L.length = s at *
    go_enter Try.func31, Try.ntmps31
    go_wp2_with fail
    refine C.out.mono ?_
    rintro e w' ⟨rfl, hb⟩
    have K := hide hb
    have y := Z.out _ hb
    have KC := hide (fun (n : Nat) => KI.out (w'.drewN n) (below_drewN K.out n))
    clear hb C Z
    go_wp2
    go_quiet ((go_at_call 58; exact quiet_left (KC.out _)))
    generalize hwy : World.drewN w' _ = wy
    have hbq : Below w'.heap.size w' wy := by rw [← hwy]; exact below_drewN (brefl _) _
    replace K := hide (btrans K.out hbq)
    clear hwy hbq
    go_wp2
    go_ret
    exact ⟨ret_int E.out.symm, K.out⟩
  · have E := hide (oR_no h)
    rw [hsB_no h] at C
    clear h hr hcp
    go_enter Try.func31, Try.ntmps31
    go_wp2_with fail
    refine C.out.mono ?_
    rintro e w' ⟨rfl, hb⟩
    have K := hide hb
    clear hb C
    go_wp2
    go_ret
    exact ⟨ret_int E.out.symm, K.out⟩
theorem arE_bad {L : List A5} {a n : Int} (h : mE L a ≠ 0) : arE L a n = mE L a := by
  unfold mE at h ⊢
  unfold arE
  by_cases h1 : chE L = 0
  · rw [if_pos h1] at h ⊢
    rw [if_pos h1]
    by_cases h2 : 0 ≤ a ∧ a < L.length
    · rw [if_pos h2] at h; exact absurd rfl h
    · rw [if_neg h2, if_neg h2]
  · rw [if_neg h1, if_neg h1]
theorem arE_in {L : List A5} {a n : Int} (h : mE L a = 0) : arE L a n = if inr n then 0 else 2 := by
  have g := mE_ok h
  unfold arE
  rw [if_pos g.1, if_pos g.2]
set_option maxHeartbeats 2000000 in
theorem cchg_any (A : Option Addr) (cp : Nat) (L : List A5) (a n : Int) (w : World) (hr : As w A L) (hcp : L.length ≤ cp) (hn : L.length ≤ 9223372036854775807) :
    Calls Try.prog 66 #[.slice A L.length cp, .int .i64 a, .int .i64 n] w fun e w' => e = .returned (.int .i64 (arE L a n)) ∧ Below w.heap.size w w' := by
  have C := hide (cacc_any A cp L a w hr hcp hn)
  have NC := hide (fun n w => num_any n w)
  clear hr hcp
  by_cases h : mE L a = 0
  · rw [h] at C
    by_cases hi : inr n
    · have E := hide ((arE_in (n := n) h).trans (if_pos hi))
      have di := decide_eq_true hi
      clear h hi
      go_enter Try.func66, Try.ntmps66
      go_wp2_with fail
      refine C.out.mono ?_
      rintro e w' ⟨rfl, hb⟩
      have K := hide hb
      clear hb C
      go_wp2_with (go_at_call 85; refine (NC.out _ _).mono ?_; rintro e w' ⟨rfl, rfl⟩)
      go_ret
      exact ⟨ret_int E.out.symm, K.out⟩
    · have E := hide ((arE_in (n := n) h).trans (if_neg hi))
      have di := decide_eq_false hi
      clear h hi
      go_enter Try.func66, Try.ntmps66
      go_wp2_with fail
      refine C.out.mono ?_
      rintro e w' ⟨rfl, hb⟩
      have K := hide hb
      clear hb C
      go_wp2_with (go_at_call 85; refine (NC.out _ _).mono ?_; rintro e w' ⟨rfl, rfl⟩)
      go_ret
      exact ⟨ret_int E.out.symm, K.out⟩
  · have E := hide (arE_bad (n := n) h)
    have de : (mE L a != 0) = true := by simpa using h
    clear h
    generalize mE L a = ce at *
    go_enter Try.func66, Try.ntmps66
    go_wp2_with fail
    refine C.out.mono ?_
    rintro e w' ⟨rfl, hb⟩
    have K := hide hb
    clear hb C
    go_wp2
    go_ret
    exact ⟨ret_int E.out.symm, K.out⟩
end Go.Proofs.Ytclkflnonckajaa.Ac
