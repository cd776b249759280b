import Derived.Test.YtdpdlbonlpdkjaaDoorComb
import Derived.Test.YtdpdlbonlpdkjaaDoorRNot
namespace Go.Proofs.YtdpdlbonlpdkjaaDoor.Bs
open Go Go.RowKit
set_option linter.unusedVariables false
/-- What a call that answers a set of bits of its own and an error answers. -/
def BitsMine (sz : Int) (zs : List Nat) (er : Int) (w : World) (e : Ending) (w' : World) : Prop :=
  ∃ A' c', e = .returned (.tuple #[.agg #[.int .i64 sz, .slice A' zs.length c'], .int .i64 er]) ∧ Mine w.heap.size w' A' zs ∧ Below w.heap.size w w'
theorem bitsMine_err {er : Int} {w w' : World} {e : Ending} (h : e = .returned (.tuple #[.agg #[.int .i64 0, .slice none 0 0], .int .i64 er]) ∧ Below w.heap.size w w') : BitsMine 0 [] er w e w' :=
  ⟨none, 0, h.1, fun h => absurd rfl h, h.2⟩
theorem and_wrap (s t sz er : Int) (zs : List Nat) (A B : Option Addr) (n m c d : Nat) (w : World)
    (h : ∀ W, Below w.heap.size w W → Calls Tryd.prog 45 #[.agg #[.int .i64 s, .slice A n c], .agg #[.int .i64 t, .slice B m d], .func (Fn.func 46) #[] #[]] W (BitsMine sz zs er W)) :
    Calls Tryd.prog 27 #[.agg #[.int .i64 s, .slice A n c], .agg #[.int .i64 t, .slice B m d]] w (BitsMine sz zs er w) := by
  have hb0 : Below w.heap.size w (((w.alloc (.cells #[.int .i64 s, .slice A n c] 24)).alloc (.cells #[.int .i64 t, .slice B m d] 24)).alloc (.cells #[.int .i64 0, .slice none 0 0] 24)) := bal (bal (bal (brefl _) _) _) _
  have H := hide (h _ hb0)
  have H0 := hide hb0
  clear h hb0
  go_enter Tryd.func27, Tryd.ntmps27
  go_wp2_with fail
  refine H.out.mono ?_
  rintro e w1 ⟨A1, c1, rfl, hm1, hb1⟩
  obtain ⟨hc1, hf1⟩ := bcell hb1
  have hm := hm1.mono (B' := w.heap.size + 1 + 1 + 1) (by simp)
  have HM := hide hm
  have HB := hide hb1
  clear hm1 hm hb1
  go_wp2
  refine bodyPost_ret (v := .tuple #[.agg #[.int .i64 sz, .slice A1 zs.length c1], .int .i64 er]) (by simp [results, Tryd.results27, go_sem, hc1]) rfl ⟨A1, c1, rfl, ?_, ?_⟩
  · exact (mine_far (mine_far HM.out (by show w.heap.size + 1 + 1 < _; omega) _) (by show w.heap.size + 1 + 1 < _; omega) _).mono (by omega)
  · exact bset (bset (btrans H0.out HB.out) (by show w.heap.size ≤ w.heap.size + 1 + 1; omega) _) (by show w.heap.size ≤ w.heap.size + 1 + 1; omega) _
theorem or_wrap (s t sz er : Int) (zs : List Nat) (A B : Option Addr) (n m c d : Nat) (w : World)
    (h : ∀ W, Below w.heap.size w W → Calls Tryd.prog 45 #[.agg #[.int .i64 s, .slice A n c], .agg #[.int .i64 t, .slice B m d], .func (Fn.func 48) #[] #[]] W (BitsMine sz zs er W)) :
    Calls Tryd.prog 29 #[.agg #[.int .i64 s, .slice A n c], .agg #[.int .i64 t, .slice B m d]] w (BitsMine sz zs er w) := by
  have hb0 : Below w.heap.size w (((w.alloc (.cells #[.int .i64 s, .slice A n c] 24)).alloc (.cells #[.int .i64 t, .slice B m d] 24)).alloc (.cells #[.int .i64 0, .slice none 0 0] 24)) := bal (bal (bal (brefl _) _) _) _
  have H := hide (h _ hb0)
  have H0 := hide hb0
  clear h hb0
  go_enter Tryd.func29, Tryd.ntmps29
  go_wp2_with fail
  refine H.out.mono ?_
  rintro e w1 ⟨A1, c1, rfl, hm1, hb1⟩
  obtain ⟨hc1, hf1⟩ := bcell hb1
  have hm := hm1.mono (B' := w.heap.size + 1 + 1 + 1) (by simp)
  have HM := hide hm
  have HB := hide hb1
  clear hm1 hm hb1
  go_wp2
  refine bodyPost_ret (v := .tuple #[.agg #[.int .i64 sz, .slice A1 zs.length c1], .int .i64 er]) (by simp [results, Tryd.results29, go_sem, hc1]) rfl ⟨A1, c1, rfl, ?_, ?_⟩
  · exact (mine_far (mine_far HM.out (by show w.heap.size + 1 + 1 < _; omega) _) (by show w.heap.size + 1 + 1 < _; omega) _).mono (by omega)
  · exact bset (bset (btrans H0.out HB.out) (by show w.heap.size ≤ w.heap.size + 1 + 1; omega) _) (by show w.heap.size ≤ w.heap.size + 1 + 1; omega) _
/-- what both answers -/
def bothE (s t : Int) (xs ys : List Nat) : Int := if chk s xs = 0 then (if chk t ys = 0 then (if s = t then 0 else 1) else chk t ys) else chk s xs
theorem both_any (s t e1 e2 : Int) (A B : Option Addr) (xs ys : List Nat) (c d : Nat) (w : World) (ha : Wd w A xs) (hb : Wd w B ys) (hx : ∀ x ∈ xs, x < 2 ^ 64) (hy : ∀ x ∈ ys, x < 2 ^ 64) (h1 : chk s xs = e1) (h2 : chk t ys = e2) :
    Calls Tryd.prog 47 #[.agg #[.int .i64 s, .slice A xs.length c], .agg #[.int .i64 t, .slice B ys.length d]] w fun e w' => e = .returned (.int .i64 (bothE s t xs ys)) ∧ Below w.heap.size w w' := by
  obtain ⟨W0, hW0⟩ : ∃ W0 : World, W0 = (w.alloc (.cells #[.int .i64 s, .slice A xs.length c] 24)).alloc (.cells #[.int .i64 t, .slice B ys.length d] 24) := ⟨_, rfl⟩
  have hb0 : Below w.heap.size w W0 := by rw [hW0]; exact bal (bal (brefl _) _) _
  have bb0 : BoxIs W0 w.heap.size s (.slice A xs.length c) := by rw [hW0]; exact (BoxIs.new w s _).alloc _
  have bb1 : BoxIs W0 (w.heap.size + 1) t (.slice B ys.length d) := by
    rw [hW0]
    have := BoxIs.new (w.alloc (.cells #[.int .i64 s, .slice A xs.length c] 24)) t (.slice B ys.length d)
    simpa using this
  have hr1 := ha.below hb0
  have hr2 := hb.below hb0
  have HC1 := fun W hW => rcheck_any s A xs c W (hr1.below hW) hx
  have HC2 := fun W hW => rcheck_any t B ys d W (hr2.below hW) hy
  rw [h1] at HC1
  rw [h2] at HC2
  have HA := hide HC1
  have HB := hide HC2
  have G0 := hide bb0
  have G1 := hide bb1
  have O0 := hide hb0
  have hbe : bothE s t xs ys = if e1 = 0 then (if e2 = 0 then (if s = t then 0 else 1) else e2) else e1 := by unfold bothE; rw [h1, h2]
  rw [hbe]
  clear HC1 HC2 ha hb hx hy h1 h2 hb0 bb0 bb1 hr1 hr2 hbe
  by_cases c1 : e1 = 0
  · subst c1
    by_cases c2 : e2 = 0
    · subst c2
      by_cases c3 : s = t
      · subst c3
        go_enter Tryd.func47, Tryd.ntmps47
        go_wp2_with fail
        rw [← hW0]
        clear hW0
        refine (HA.out _ (brefl _)).mono ?_
        rintro e w1 ⟨rfl, hb1⟩
        have p0 := (G1.out.below hb1).c0
        have p1 := (G1.out.below hb1).c1
        go_wp2_with fail
        refine (HB.out _ hb1).mono ?_
        rintro e w2 ⟨rfl, hb2⟩
        have K := hide (btrans hb1 hb2)
        have q0 := (G0.out.below K.out).c0
        have q1 := (G1.out.below K.out).c0
        clear hb1 hb2 p0 p1
        go_wp2
        go_ret
        exact ⟨rfl, btrans O0.out K.out⟩
      · have n1 : (s == t) = false := by simpa using c3
        have n2 : (s != t) = true := by rw [bne, n1]; rfl
        rw [if_neg c3]
        clear c3
        go_enter Tryd.func47, Tryd.ntmps47
        go_wp2_with fail
        rw [← hW0]
        clear hW0
        refine (HA.out _ (brefl _)).mono ?_
        rintro e w1 ⟨rfl, hb1⟩
        have p0 := (G1.out.below hb1).c0
        have p1 := (G1.out.below hb1).c1
        go_wp2_with fail
        refine (HB.out _ hb1).mono ?_
        rintro e w2 ⟨rfl, hb2⟩
        have K := hide (btrans hb1 hb2)
        have q0 := (G0.out.below K.out).c0
        have q1 := (G1.out.below K.out).c0
        clear hb1 hb2 p0 p1
        go_wp2
        go_ret
        exact ⟨rfl, btrans O0.out K.out⟩
    · have n1 : (e2 == 0) = false := by simpa using c2
      have n2 : (e2 != 0) = true := by rw [bne, n1]; rfl
      rw [if_neg c2]
      clear c2
      go_enter Tryd.func47, Tryd.ntmps47
      go_wp2_with fail
      rw [← hW0]
      clear hW0
      refine (HA.out _ (brefl _)).mono ?_
      rintro e w1 ⟨rfl, hb1⟩
      have p0 := (G1.out.below hb1).c0
      have p1 := (G1.out.below hb1).c1
      go_wp2_with fail
      refine (HB.out _ hb1).mono ?_
      rintro e w2 ⟨rfl, hb2⟩
      have K := hide (btrans hb1 hb2)
      have q0 := (G1.out.below K.out).c0
      have q1 := (G1.out.below K.out).c1
      clear hb1 hb2 p0 p1
      go_wp2_with fail
      refine (HB.out _ K.out).mono ?_
      rintro e w3 ⟨rfl, hb3⟩
      go_wp2
      go_ret
      exact ⟨rfl, btrans O0.out (btrans K.out hb3)⟩
  · have n1 : (e1 == 0) = false := by simpa using c1
    have n2 : (e1 != 0) = true := by rw [bne, n1]; rfl
    rw [if_neg c1]
    clear c1
    go_enter Tryd.func47, Tryd.ntmps47
    go_wp2_with fail
    rw [← hW0]
    clear hW0
    refine (HA.out _ (brefl _)).mono ?_
    rintro e w1 ⟨rfl, hb1⟩
    have p0 := (G0.out.below hb1).c0
    have p1 := (G0.out.below hb1).c1
    go_wp2_with fail
    refine (HA.out _ hb1).mono ?_
    rintro e w2 ⟨rfl, hb2⟩
    go_wp2
    go_ret
    exact ⟨rfl, btrans O0.out (btrans hb1 hb2)⟩
end Go.Proofs.YtdpdlbonlpdkjaaDoor.Bs
