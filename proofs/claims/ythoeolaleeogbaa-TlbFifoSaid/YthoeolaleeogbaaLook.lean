import Derived.Test.YthoeolaleeogbaaCut
namespace Go.Proofs.Ythoeolaleeogbaa.Tb
open Go Go.RowKit Go.Proofs.Ythoeolaleeogbaa.Pt
set_option linter.unusedVariables false
/-- a cache that can be read -/
structure TlbIn (w : World) (A : Option Addr) (L : List Te) (c : Nat) : Prop where
  ts : Ts w A L
  cap : L.length ≤ c
  big : L.length ≤ 9223372036854775807
  inw : ∀ o ∈ L, inW o.2.2
theorem TlbIn.below {w w' : World} {A : Option Addr} {L : List Te} {c : Nat} (h : TlbIn w A L c) (hb : Below w.heap.size w w') : TlbIn w' A L c := ⟨h.ts.below hb, h.cap, h.big, h.inw⟩
theorem TlbIn.check {w : World} {A : Option Addr} {L : List Te} {c : Nat} (h : TlbIn w A L c) (size : Int) :
    Calls Try.prog 16 #[.agg #[.int .i64 size, .slice A L.length c]] w fun e w' => e = .returned (.int .i64 (chkT size L)) ∧ Below w.heap.size w w' := check_any size A L c w h.ts h.cap h.big h.inw
theorem placeE_bad {size : Int} {L : List Te} {s p : Int} (h : chkT size L ≠ 0) : placeE size L s p = chkT size L := by unfold placeE; rw [if_pos h]
theorem placeE_sp {size : Int} {L : List Te} {s p : Int} (h : chkT size L = 0) (h2 : okSP s p = false) : placeE size L s p = 2 := by unfold placeE; rw [if_neg (by simpa using h), if_pos h2]
theorem placeE_ok {size : Int} {L : List Te} {s p : Int} (h : chkT size L = 0) (h2 : okSP s p = true) : placeE size L s p = 0 := by unfold placeE; rw [if_neg (by simpa using h), h2]; rfl
set_option maxHeartbeats 1000000 in
theorem place_any (size : Int) (A : Option Addr) (L : List Te) (c : Nat) (s p : Int) (w : World) (h : TlbIn w A L c) :
    Calls Try.prog 38 #[.agg #[.int .i64 size, .slice A L.length c], .int .i64 s, .int .i64 p] w fun e w' => e = .returned (.int .i64 (placeE size L s p)) ∧ Below w.heap.size w w' := by
  have C := hide (fun W (hb : Below w.heap.size w W) => (h.below hb).check size)
  have S1 := hide (fun w => space_any s w)
  have S2 := hide (fun w => page_any p w)
  have K0 := hide (bal (brefl w) (.cells #[.int .i64 size, .slice A L.length c] 24))
  clear h
  by_cases hk : chkT size L = 0
  · rw [hk] at C
    cases hs : spB s
    · have E := hide (placeE_sp (s := s) (p := p) hk (by rw [okSP_eq, hs]; rfl))
      rw [hs] at S1
      clear hk hs
      go_enter Try.func38, Try.ntmps38
      go_wp2_with fail
      refine (C.out _ K0.out).mono ?_
      rintro e w1 ⟨rfl, hb1⟩
      have K := hide hb1
      clear hb1
      go_wp2_with (go_at_call 50; refine (S1.out _).mono ?_; rintro e w' ⟨rfl, rfl⟩)
      go_ret
      exact ⟨ret_int E.out.symm, btrans K0.out K.out⟩
    · rw [hs] at S1
      cases hp : pgB p
      · have E := hide (placeE_sp (s := s) (p := p) hk (by rw [okSP_eq, hs, hp]; rfl))
        rw [hp] at S2
        clear hk hs hp
        go_enter Try.func38, Try.ntmps38
        go_wp2_with fail
        refine (C.out _ K0.out).mono ?_
        rintro e w1 ⟨rfl, hb1⟩
        have K := hide hb1
        clear hb1
        go_wp2_with (first | (go_at_call 50; refine (S1.out _).mono ?_; rintro e w' ⟨rfl, rfl⟩) | (go_at_call 52; refine (S2.out _).mono ?_; rintro e w' ⟨rfl, rfl⟩))
        go_ret
        exact ⟨ret_int E.out.symm, btrans K0.out K.out⟩
      · have E := hide (placeE_ok (s := s) (p := p) hk (by rw [okSP_eq, hs, hp]; rfl))
        rw [hp] at S2
        clear hk hs hp
        go_enter Try.func38, Try.ntmps38
        go_wp2_with fail
        refine (C.out _ K0.out).mono ?_
        rintro e w1 ⟨rfl, hb1⟩
        have K := hide hb1
        clear hb1
        go_wp2_with (first | (go_at_call 50; refine (S1.out _).mono ?_; rintro e w' ⟨rfl, rfl⟩) | (go_at_call 52; refine (S2.out _).mono ?_; rintro e w' ⟨rfl, rfl⟩))
        go_ret
        exact ⟨ret_int E.out.symm, btrans K0.out K.out⟩
  · have E := hide (placeE_bad (s := s) (p := p) hk)
    have hd : (chkT size L == 0) = false := by simpa using hk
    generalize chkT size L = er at *
    clear hk
    go_enter Try.func38, Try.ntmps38
    go_wp2_with fail
    refine (C.out _ K0.out).mono ?_
    rintro e w1 ⟨rfl, hb1⟩
    have K := hide hb1
    clear hb1
    go_wp2
    go_ret
    exact ⟨ret_int E.out.symm, btrans K0.out K.out⟩
def lookW (size : Int) (L : List Te) (s p : Int) : Int := match lookT size L s p with | some e => e.2.2 | none => 0
def lookB (size : Int) (L : List Te) (s p : Int) : Bool := (lookT size L s p).isSome
theorem find_hit {q : Te → Bool} {L : List Te} {k : Nat} (hk : k < L.length) (h : q (teAt L k) = true) (hb : ∀ j, j < k → q (teAt L j) = false) : L.find? q = some (teAt L k) := by
  rw [List.find?_eq_some_iff_getElem]
  refine ⟨h, k, hk, (teAt_get hk).symm, fun j hj => ?_⟩
  have := hb j hj
  rw [teAt_get (show j < L.length by omega)] at this
  rw [this]; rfl
theorem find_miss {q : Te → Bool} {L : List Te} (hb : ∀ j, j < L.length → q (teAt L j) = false) : L.find? q = none := by
  rw [List.find?_eq_none]
  intro x hx
  obtain ⟨j, hj, rfl⟩ := List.mem_iff_getElem.1 hx
  have := hb j hj
  rw [teAt_get hj] at this
  rw [this]; decide
set_option maxHeartbeats 1000000 in
theorem look_any (size : Int) (A : Option Addr) (L : List Te) (c : Nat) (s p : Int) (w : World) (h : TlbIn w A L c) (hp : inP p) :
    Calls Try.prog 19 #[.agg #[.int .i64 size, .slice A L.length c], .int .i64 s, .int .i64 p] w fun e w' => e = .returned (.tuple #[.int .u64 (lookW size L s p), .bool (lookB size L s p)]) ∧ Below w.heap.size w w' := by
  obtain ⟨W0, hW0⟩ : ∃ W0, W0 = ((w.alloc (.cells #[.int .i64 size, .slice A L.length c] 24)).alloc (.cells #[.int .i64 s] 3)).alloc (.cells #[.int .i64 p] 3) := ⟨_, rfl⟩
  have K0 := hide (show Below w.heap.size w W0 by rw [hW0]; exact bal (bal (bal (brefl w) _) _) _)
  have X0 := hide (show Box W0 w.heap.size 24 #[.int .i64 size, .slice A L.length c] by rw [hW0]; exact ((Box.new w _ _).below (bal (brefl _) _)).below (bal (brefl _) _))
  have Y0 := hide (show Box W0 (w.heap.size + 1) 3 #[.int .i64 s] by rw [hW0]; exact (Box.new2 _ _ _ _).below (bal (brefl _) _))
  have Z0 := hide (show Box W0 (w.heap.size + 2) 3 #[.int .i64 p] by rw [hW0]; have := Box.new2 (w.alloc (.cells #[.int .i64 size, .slice A L.length c] 24)) (.cells #[.int .i64 s] 3) 3 #[.int .i64 p]; rw [alloc_size] at this; exact this)
  have T0 := hide (h.below K0.out)
  have C := hide (fun W (hb : Below W0.heap.size W0 W) => (T0.out.below hb).check size)
  have P35 := hide (pred_cov35 s p (w.heap.size + 1) (w.heap.size + 2) W0 L Y0.out Z0.out hp h.inw)
  have HW := hide hW0
  by_cases hk : chkT size L = 0
  · rw [hk] at C
    have hn : L.length ≤ 16 := by obtain ⟨a, b, _⟩ := chkT_ok.1 hk; omega
    have I := hide (fun W (hb : Below W0.heap.size W0 W) => index_any 35 _ (fun o => cov o s p) A L c W0 W enters35 P35.out hb (T0.out.ts.below hb) (by omega))
    have hlk : lookT size L s p = L.find? fun e => cov e s p := by unfold lookT; rw [if_neg (by simpa using hk)]
    rcases idxT_cases (fun o => cov o s p) L with ⟨h1, h2⟩ | ⟨k, hkl, h1, h2, h3⟩
    · have E := hide (show lookW size L s p = 0 ∧ lookB size L s p = false by unfold lookW lookB; rw [hlk, find_miss h2]; exact ⟨rfl, rfl⟩)
      rw [h1] at I
      clear hk hlk h1 h2 hW0 P35 h hp
      go_enter Try.func19, Try.ntmps19
      go_wp2_with fail
      rw [← HW.out]
      refine (C.out _ (brefl _)).mono ?_
      rintro e w1 ⟨rfl, hb1⟩
      have K := hide hb1
      have x1 := (X0.out.below hb1).cell 1
      simp at x1
      clear hb1
      go_wp2_with fail
      refine (I.out _ K.out).mono ?_
      rintro e w2 ⟨rfl, hb2⟩
      replace K := hide (btrans K.out hb2)
      clear hb2
      go_wp2
      go_ret2
      rw [E.out.1, E.out.2]
      exact ⟨rfl, btrans K0.out K.out⟩
    · have E := hide (show lookW size L s p = (teAt L k).2.2 ∧ lookB size L s p = true by unfold lookW lookB; rw [hlk, find_hit hkl h2 h3]; exact ⟨rfl, rfl⟩)
      rw [h1] at I
      obtain ⟨b, off, rfl, hbl, hcs⟩ := T0.out.ts (by rintro rfl; simp at hkl)
      have c2 := (hcs k hkl).2.2
      have C2 := hide (fun W (hb : Below W0.heap.size W0 W) => (hb.cell (p := ⟨b, off + k * 3 + 2, none⟩) hbl).trans c2)
      have hk0 : decide ((k : Int) < 0) = false := decide_eq_false (by omega)
      have hkl2 : (k : Int) < (L.length : Int) := by omega
      generalize (teAt L k).2.2 = x2 at *
      clear hk hlk h1 h2 h3 hW0 P35 h hp hcs c2
      go_enter Try.func19, Try.ntmps19
      go_wp2_with fail
      rw [← HW.out]
      refine (C.out _ (brefl _)).mono ?_
      rintro e w1 ⟨rfl, hb1⟩
      have K := hide hb1
      have x1 := (X0.out.below hb1).cell 1
      simp at x1
      clear hb1
      go_wp2_with fail
      refine (I.out _ K.out).mono ?_
      rintro e w2 ⟨rfl, hb2⟩
      replace K := hide (btrans K.out hb2)
      have x1 := (X0.out.below K.out).cell 1
      simp at x1
      have c2 := C2.out _ K.out
      clear hb2
      go_wp2
      go_ret2
      rw [E.out.1, E.out.2]
      exact ⟨rfl, btrans K0.out K.out⟩
  · have E := hide (show lookW size L s p = 0 ∧ lookB size L s p = false by unfold lookW lookB lookT; rw [if_pos hk]; exact ⟨rfl, rfl⟩)
    have hd : (chkT size L != 0) = true := by simpa using hk
    generalize chkT size L = er at *
    clear hk hW0 P35 h hp
    go_enter Try.func19, Try.ntmps19
    go_wp2_with fail
    rw [← HW.out]
    refine (C.out _ (brefl _)).mono ?_
    rintro e w1 ⟨rfl, hb1⟩
    have K := hide hb1
    clear hb1
    go_wp2
    go_ret2
    rw [E.out.1, E.out.2]
    exact ⟨rfl, btrans K0.out K.out⟩
theorem covers_any (size : Int) (A : Option Addr) (L : List Te) (c : Nat) (s p : Int) (w : World) (h : TlbIn w A L c) (hp : inP p) :
    Calls Try.prog 21 #[.agg #[.int .i64 size, .slice A L.length c], .int .i64 s, .int .i64 p] w fun e w' => e = .returned (.bool (lookB size L s p)) ∧ Below w.heap.size w w' := by
  have K0 := hide (bal (brefl w) (.cells #[.int .i64 size, .slice A L.length c] 24))
  have C := hide (look_any size A L c s p _ (h.below K0.out) hp)
  generalize lookB size L s p = y at *
  generalize lookW size L s p = x at *
  clear h hp
  go_enter Try.func21, Try.ntmps21
  go_wp2_with fail
  refine C.out.mono ?_
  rintro e w1 ⟨rfl, hb1⟩
  have K := hide hb1
  clear hb1
  go_wp2
  go_ret
  exact ⟨rfl, btrans K0.out K.out⟩
end Go.Proofs.Ythoeolaleeogbaa.Tb
