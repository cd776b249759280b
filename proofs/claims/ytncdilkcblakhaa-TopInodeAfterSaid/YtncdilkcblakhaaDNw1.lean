import Derived.Test.YtncdilkcblakhaaDMkM
namespace Go.Proofs.Ytncdilkcblakhaa.Dv
open Go Go.RowKit
set_option linter.unusedVariables false
theorem ret_d2 {fn : Func} {a : Act} {W : World} {g k m : Nat} {er : Int} {x0 x1 x2 x3 x4 : Value} {Q : Ending → World → Prop} (hr : fn.results = #[.cell k 57, .tmp m]) (h2 : a.tmps.getD k undef = .pointer (some ⟨g, 0, none⟩)) (h3 : a.tmps.getD m undef = .int .i64 er) (hd : a.defers = [])
    (hE : Box W g 57 #[x0, x1, x2, x3, x4]) (hq : Q (.returned (.tuple #[.agg #[x0, x1, x2, x3, x4], .int .i64 er])) W) : bodyPost Try.prog fn Q .ret a W := by
  have c0 := hE.cell 0
  have c1 := hE.cell 1
  have c2 := hE.cell 2
  have c3 := hE.cell 3
  have c4 := hE.cell 4
  simp at c0 c1 c2 c3 c4
  simp only [Array.getD_eq_getD_getElem?] at h2 h3
  exact bodyPost_ret (v := .tuple #[.agg #[x0, x1, x2, x3, x4], .int .i64 er]) (by simp [results, hr, h2, h3, go_sem, c0, c1, c2, c3, c4]) hd hq
theorem ret_d3 {fn : Func} {a : Act} {W : World} {g k m m2 : Nat} {id er : Int} {x0 x1 x2 x3 x4 : Value} {Q : Ending → World → Prop} (hr : fn.results = #[.cell k 57, .tmp m, .tmp m2]) (h2 : a.tmps.getD k undef = .pointer (some ⟨g, 0, none⟩)) (h3 : a.tmps.getD m undef = .int .i64 id) (h4 : a.tmps.getD m2 undef = .int .i64 er) (hd : a.defers = [])
    (hE : Box W g 57 #[x0, x1, x2, x3, x4]) (hq : Q (.returned (.tuple #[.agg #[x0, x1, x2, x3, x4], .int .i64 id, .int .i64 er])) W) : bodyPost Try.prog fn Q .ret a W := by
  have c0 := hE.cell 0
  have c1 := hE.cell 1
  have c2 := hE.cell 2
  have c3 := hE.cell 3
  have c4 := hE.cell 4
  simp at c0 c1 c2 c3 c4
  simp only [Array.getD_eq_getD_getElem?] at h2 h3 h4
  exact bodyPost_ret (v := .tuple #[.agg #[x0, x1, x2, x3, x4], .int .i64 id, .int .i64 er]) (by simp [results, hr, h2, h3, h4, go_sem, c0, c1, c2, c3, c4]) hd hq
theorem DevOwn.form {B : Nat} {w : World} {v : Value} {D : Dev} (h : DevOwn B w v D) : ∃ A1 d1 A2 d2 A3 d3, v = dv D.dep D.nxt A1 D.bl.length d1 A2 D.ca.length d2 A3 D.qu.length d3 := by
  obtain ⟨vb, vc, vq, rfl, h1, h2, h3⟩ := h
  obtain ⟨A1, d1, rfl, _⟩ := h1.form
  obtain ⟨A2, d2, rfl, _⟩ := h2.form
  obtain ⟨A3, d3, rfl, _⟩ := h3.form
  exact ⟨A1, d1, A2, d2, A3, d3, rfl⟩
theorem DevOwn.zero (B : Nat) (w : World) : DevOwn B w (.agg #[.int .i64 0, .int .i64 0, .slice none 0 0, .slice none 0 0, .slice none 0 0]) zeroD := ⟨_, _, _, rfl, OwnB.nil _ _, OwnC.nil _ _, OwnQ.nil _ _⟩
/-- a device of its own and an error -/
def DvR2 (D : Dev) (er : Int) (w : World) (e : Ending) (w' : World) : Prop := ∃ v, e = .returned (.tuple #[v, .int .i64 er]) ∧ DevOwn w.heap.size w' v D ∧ Below w.heap.size w w'
def DvR3 (D : Dev) (id er : Int) (w : World) (e : Ending) (w' : World) : Prop := ∃ v, e = .returned (.tuple #[v, .int .i64 id, .int .i64 er]) ∧ DevOwn w.heap.size w' v D ∧ Below w.heap.size w w'
def nwD (dep : Int) (L : List By) : Dev := ⟨dep, 0, L, [], []⟩
theorem blE_len {L : List By} (h : blE L = 0) : ∀ b ∈ L, b.length = 32 := by
  rcases blE_cases L with ⟨_, hb⟩ | ⟨k, _, e, _⟩
  · intro b hm
    obtain ⟨j, hj, rfl⟩ := List.mem_iff_getElem.1 hm
    have := hb j hj
    rw [bAt_get hj] at this
    unfold noP at this
    simpa using this
  · rw [h] at e; exact absurd e (by decide)
theorem nwE_ok {dep : Int} {L : List By} (h : nwE dep L = 0) : (1 ≤ dep ∧ dep ≤ 16 ∧ 1 ≤ L.length ∧ L.length ≤ 256) ∧ blE L = 0 := by
  unfold nwE at h
  by_cases c : dbE dep L.length = true
  · rw [if_pos c] at h
    unfold dbE at c
    exact ⟨by simpa using c, h⟩
  · rw [if_neg c] at h; exact absurd h (by decide)
theorem sm_new {dep : Int} {L : List By} (h : nwE dep L = 0) : Sm (nwD dep L) :=
  ⟨by have := (nwE_ok h).1; show L.length ≤ 1000; omega, Nat.zero_le _, Nat.zero_le _, fun b hb => by rw [blE_len (nwE_ok h).2 b hb]; omega, fun c hc => (by cases hc), fun c hc => (by cases hc)⟩
theorem in_new {dep : Int} {A : Option Addr} {L : List By} {c : Nat} {w : World} (hr : RdB w A L) (hc : L.length ≤ c) : DevIn w (.agg #[.int .i64 dep, .int .i64 0, .slice A L.length c, .slice none 0 0, .slice none 0 0]) (nwD dep L) :=
  ⟨A, c, none, 0, none, 0, rfl, hc, Nat.le_refl _, Nat.le_refl _, hr, fun h => absurd rfl h, fun h => absurd rfl h⟩
set_option maxHeartbeats 600000 in
theorem new_any (dep : Int) (A : Option Addr) (L : List By) (c : Nat) (w : World) (hr : RdB w A L) (hc : L.length ≤ c) (hn : L.length ≤ 9223372036854775807) :
    Calls Try.prog 29 #[.int .i64 dep, .slice A L.length c] w (DvR2 (if nwE dep L = 0 then nwD dep L else zeroD) (nwE dep L) w) := by
  obtain ⟨W0, hW0⟩ : ∃ W0, W0 = w.alloc (.cells #[.int .i64 0, .int .i64 0, .slice none 0 0, .slice none 0 0, .slice none 0 0] 57) := ⟨_, rfl⟩
  have K0 := hide (show Below w.heap.size w W0 by rw [hW0]; exact bal (brefl w) _)
  have X := hide (show Box W0 w.heap.size 57 #[.int .i64 0, .int .i64 0, .slice none 0 0, .slice none 0 0, .slice none 0 0] by rw [hW0]; exact Box.new w 57 _)
  have RB := hide (hr.below K0.out)
  have C1 := hide (chkbl_any dep A L c W0 RB.out hn)
  have HW := hide hW0
  have KK := hide (brefl W0)
  obtain ⟨r0, r1, r2, r3, r4⟩ := box5_cells (W' := W0) X.out
  have g0 := X.out.frozen 0
  have g1 := X.out.frozen 1
  have g2 := X.out.frozen 2
  have g3 := X.out.frozen 3
  have g4 := X.out.frozen 4
  by_cases e0 : nwE dep L = 0
  · have CC := hide (fun W (hb : Below W0.heap.size W0 W) => clone_dev _ (nwD dep L) W (in_new (dep := dep) (RB.out.below hb) hc) (sm_new e0))
    unfold DvR at CC
    rw [if_pos e0, e0]
    rw [e0] at C1
    clear hr hW0 e0 RB r0 r1 r2 r3 r4 g0 g1 g2 g3 g4
    go_enter Try.func29, Try.ntmps29
    go_wp2_with fail
    rw [← HW.out]
    refine C1.out.mono ?_
    rintro e w1 ⟨rfl, rfl⟩
    go_wp2_with fail
    refine (CC.out _ KK.out).mono ?_
    rintro e w2 ⟨v2, rfl, ho, hb⟩
    obtain ⟨A1, d1, A2, d2, A3, d3, rfl⟩ := ho.form
    have HO := hide ho
    have X2 := hide (X.out.below (btrans KK.out hb))
    have K2 := hide (btrans KK.out hb)
    obtain ⟨r0, r1, r2, r3, r4⟩ := box5_cells (W' := w2) X2.out
    have f0 := X2.out.frozen 0
    have f1 := X2.out.frozen 1
    have f2 := X2.out.frozen 2
    have f3 := X2.out.frozen 3
    have f4 := X2.out.frozen 4
    clear ho hb
    go_wp2
    have KS := hide (kp_set5 (B := w.heap.size) X2.out (Nat.le_refl _) (.int .i64 (nwD dep L).dep) (.int .i64 (nwD dep L).nxt) (.slice A1 (nwD dep L).bl.length d1) (.slice A2 (nwD dep L).ca.length d2) (.slice A3 (nwD dep L).qu.length d3))
    exact ret_d2 Try.results29 rfl rfl rfl (X2.out.set5 _ _ _ _ _) ⟨_, rfl, (HO.out.mono (Nat.le_trans K0.out.size KK.out.size)).kp KS.out, (btrans K0.out K2.out).trans KS.out.below⟩
  · rw [if_neg e0]
    have hd : (nwE dep L != 0) = true := by simpa using e0
    generalize nwE dep L = er at *
    clear hr hW0 e0 RB
    go_enter Try.func29, Try.ntmps29
    go_wp2_with fail
    rw [← HW.out]
    refine C1.out.mono ?_
    rintro e w1 ⟨rfl, rfl⟩
    go_wp2
    have KS := hide (kp_set5 (B := w.heap.size) X.out (Nat.le_refl _) (.int .i64 0) (.int .i64 0) (.slice none 0 0) (.slice none 0 0) (.slice none 0 0))
    exact ret_d2 Try.results29 rfl rfl rfl (X.out.set5 _ _ _ _ _) ⟨_, rfl, DevOwn.zero _ _, K0.out.trans KS.out.below⟩
end Go.Proofs.Ytncdilkcblakhaa.Dv
