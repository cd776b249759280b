import Derived.Test.YthoeolaleeogbaaDel
namespace Go.Proofs.Ythoeolaleeogbaa.Tb
open Go Go.RowKit Go.Proofs.Ythoeolaleeogbaa.Pt
set_option linter.unusedVariables false
theorem Box.far {w : World} {g : Nat} {t : TypeId} {cs : Array Value} (h : Box w g t cs) {b i : Nat} (hne : g ≠ b) (u : Value) : Box (w.setCell ⟨b, i, none⟩ u) g t cs := (heap_setCell_other w ⟨b, i, none⟩ g u hne).trans h
def Tlb2 (s : Int) (A : Option Addr) (n c : Nat) : Value := .agg #[.int .i64 s, .slice A n c]
theorem OwnR.boxset {B c g : Nat} {L : List Te} {A : Option Addr} {w : World} {cs : Array Value} (h : OwnR B L A c w) (hX : Box w g 24 cs) (i : Nat) (u : Value) : OwnR B L A c (w.setCell ⟨g, i, none⟩ u) := by
  obtain ⟨hl, h | ⟨k, cap, cur, e, hg, hh, r⟩⟩ := h
  · exact ⟨hl, .inl h⟩
  · refine ⟨hl, .inr ⟨k, cap, cur, e, hg, (heap_setCell_other w ⟨g, i, none⟩ k u ?_).trans hh, r⟩⟩
    rintro rfl
    unfold Box at hX
    rw [hX] at hh
    injection hh with hh
    injection hh with _ h3
    exact absurd h3 (by decide)
theorem ret_tlb1 {fn : Func} {a : Act} {W : World} {g k : Nat} {s : Int} {v : Value} {Q : Ending → World → Prop} (hr : fn.results = #[.cell k 24]) (h2 : a.tmps.getD k undef = .pointer (some ⟨g, 0, none⟩)) (hd : a.defers = [])
    (hE : Box W g 24 #[.int .i64 s, v]) (hq : Q (.returned (.agg #[.int .i64 s, v])) W) : bodyPost Try.prog fn Q .ret a W := by
  have x0 := hE.cell 0
  have x1 := hE.cell 1
  simp at x0 x1
  simp only [Array.getD_eq_getD_getElem?] at h2
  exact bodyPost_ret (v := .agg #[.int .i64 s, v]) (by simp [results, hr, h2, go_sem, x0, x1]) hd hq
theorem ret_tlb2 {fn : Func} {a : Act} {W : World} {g k m : Nat} {s er : Int} {v : Value} {Q : Ending → World → Prop} (hr : fn.results = #[.cell k 24, .tmp m]) (h2 : a.tmps.getD k undef = .pointer (some ⟨g, 0, none⟩)) (h3 : a.tmps.getD m undef = .int .i64 er) (hd : a.defers = [])
    (hE : Box W g 24 #[.int .i64 s, v]) (hq : Q (.returned (.tuple #[.agg #[.int .i64 s, v], .int .i64 er])) W) : bodyPost Try.prog fn Q .ret a W := by
  have x0 := hE.cell 0
  have x1 := hE.cell 1
  simp at x0 x1
  simp only [Array.getD_eq_getD_getElem?] at h2 h3
  exact bodyPost_ret (v := .tuple #[.agg #[.int .i64 s, v], .int .i64 er]) (by simp [results, hr, h2, h3, go_sem, x0, x1]) hd hq
theorem PredT.later {g : Nat} {lb : Array Value} {p : Te → Bool} {w W : World} {L : List Te} (h : PredT g lb p w L) (hb : Below w.heap.size w W) : PredT g lb p W L :=
  fun V x hx hV => h V x hx (btrans hb hV)
set_option maxHeartbeats 4000000 in
theorem without_any (size : Int) (A : Option Addr) (L : List Te) (c g : Nat) (lb : Array Value) (p : Te → Bool) (w : World) (eg : Enters g) (hp : PredT g lb p w L) (hr : Ts w A L) (hn : L.length ≤ 1000) :
    Calls Try.prog 41 #[.agg #[.int .i64 size, .slice A L.length c], .func (.func g) #[] lb] w fun e w' => ∃ A' c', e = .returned (.agg #[.int .i64 size, .slice A' (L.filter fun x => !p x).length c']) ∧ OwnR w.heap.size (L.filter fun x => !p x) A' c' w' ∧ Below w.heap.size w w' := by
  obtain ⟨W0, hW0⟩ : ∃ W0, W0 = (w.alloc (.cells #[.int .i64 size, .slice A L.length c] 24)).alloc (.cells #[.int .i64 0, .slice none 0 0] 24) := ⟨_, rfl⟩
  have K0 := hide (show Below w.heap.size w W0 by rw [hW0]; exact bal (bal (brefl w) _) _)
  have X0 := hide (show Box W0 w.heap.size 24 #[.int .i64 size, .slice A L.length c] by rw [hW0]; exact (Box.new w _ _).below (bal (brefl _) _))
  have Z0 := hide (show Box W0 (w.heap.size + 1) 24 #[.int .i64 0, .slice none 0 0] by rw [hW0]; exact Box.new2 _ _ _ _)
  have CL := hide (fun (W : World) (hb : Below W0.heap.size W0 W) => clone_any A L c W (hr.below (btrans K0.out hb)) hn)
  have CD := hide (fun (A' : Option Addr) (c' : Nat) (W : World) (hb : Below W0.heap.size W0 W) (ho : OwnR W0.heap.size L A' c' W) => del_any g lb p A' L c' W0 W eg (hp.later K0.out) hb ho hn)
  generalize (L.filter fun x => !p x) = M at *
  have HW := hide hW0
  clear hp hr eg
  go_enter Try.func41, Try.ntmps41
  go_wp2
  rw [← HW.out]
  have x0 := X0.out.cell 0
  have x1 := X0.out.cell 1
  simp at x0 x1
  clear hW0 HW
  have K := hide (brefl W0)
  go_region_with (first | (go_at_call 57; refine (CL.out _ (by first | exact K.out | exact below_drewN K.out _)).mono ?_; rintro e w2 ⟨A2, c2, rfl, hown, hb2⟩; have O2 := hide (OwnR.mono hown (by first | exact K.out.size | exact (below_drewN K.out _).size)); replace K := hide (by first | exact btrans K.out hb2 | exact btrans (below_drewN K.out _) hb2); have y0 := (X0.out.below K.out).cell 0; have y1 := (X0.out.below K.out).cell 1; simp at y0 y1; clear hb2 hown) | (go_at_call 56; refine (CD.out A2 c2 _ (by first | exact K.out | exact below_drewN K.out _) O2.out).mono ?_; rintro e w3 ⟨c3, rfl, hown, hb3⟩; have O3 := hide hown; have KK := hide hb3; have y0 := (X0.out.below KK.out).cell 0; have y1 := (X0.out.below KK.out).cell 1; have z0 := (Z0.out.below KK.out).cell 0; have z1 := (Z0.out.below KK.out).cell 1; have f0 := (Z0.out.below KK.out).frozen 0; have f1 := (Z0.out.below KK.out).frozen 1; simp at y0 y1 z0 z1; clear hb3 hown))
  all_goals
    go_wp2
    exact ret_tlb1 Try.results41 rfl rfl (((Z0.out.below KK.out).put 0 (.int .i64 size)).put 1 (.slice A2 M.length c3)) ⟨A2, c3, rfl, ((O3.out.mono K0.out.size).boxset (Z0.out.below KK.out) 0 _).boxset ((Z0.out.below KK.out).put 0 (.int .i64 size)) 1 _, bset (bset (btrans K0.out KK.out) (by simp) _) (by simp) _⟩
end Go.Proofs.Ythoeolaleeogbaa.Tb
