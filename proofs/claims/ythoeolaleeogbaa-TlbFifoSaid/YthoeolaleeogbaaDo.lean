import Derived.Test.YthoeolaleeogbaaAwake
namespace Go.Proofs.Ythoeolaleeogbaa.Tb
open Go Go.RowKit Go.Proofs.Ythoeolaleeogbaa.Pt
set_option linter.unusedVariables false
/-- a slice in a block of entries -/
def Own47 (w : World) (A : Option Addr) (L : List Te) : Prop := L ≠ [] → ∃ (b off : Nat) (cur : Array Value), A = some ⟨b, off, none⟩ ∧ w.heap[b]? = some (.cells cur 47 (0, 0)) ∧ (cur.toList.drop off).take (L.length * 3) = tcs L
theorem Own47.ts {w : World} {A : Option Addr} {L : List Te} (h : Own47 w A L) : Ts w A L := fun hn => by
  obtain ⟨b, off, cur, rfl, hh, ht⟩ := h hn
  refine ⟨b, off, rfl, blk_lt hh, fun k hk => ?_⟩
  have key : ∀ j u, j < L.length * 3 → (tcs L)[j]? = some u → w.cell? ⟨b, off + j, none⟩ = some u := fun j u hj hu => by
    rw [← ht, List.getElem?_take_of_lt hj, List.getElem?_drop] at hu
    have e2 : cur[off + j]? = some u := by simpa using hu
    rw [cell_of_row w b _ cur 47 (0, 0) hh]; exact e2
  obtain ⟨a, b, c⟩ := tcs_at hk
  exact ⟨key _ _ (by omega) a, by have := key _ _ (by omega) b; rw [← Nat.add_assoc] at this; exact this, by have := key _ _ (by omega) c; rw [← Nat.add_assoc] at this; exact this⟩
theorem Own47.below {w w' : World} {A : Option Addr} {L : List Te} (h : Own47 w A L) (hb : Below w.heap.size w w') : Own47 w' A L := fun hn => by
  obtain ⟨b, off, cur, e, hh, ht⟩ := h hn
  exact ⟨b, off, cur, e, (hb.block b (blk_lt hh)).trans hh, ht⟩
theorem Own47.boxset {w : World} {A : Option Addr} {L : List Te} {g : Nat} {cs : Array Value} (h : Own47 w A L) (hX : Box w g 24 cs) (i : Nat) (u : Value) : Own47 (w.setCell ⟨g, i, none⟩ u) A L := fun hn => by
  obtain ⟨b, off, cur, e, hh, ht⟩ := h hn
  refine ⟨b, off, cur, e, (heap_setCell_other w ⟨g, i, none⟩ b u ?_).trans hh, ht⟩
  rintro rfl
  unfold Box at hX
  rw [hX] at hh
  injection hh with hh
  injection hh with _ h3
  exact absurd h3 (by decide)
theorem OwnR.o47 {B c : Nat} {L : List Te} {A : Option Addr} {w : World} (h : OwnR B L A c w) : Own47 w A L := fun hne => by
  obtain ⟨g, cur, e, _, hh, ht⟩ := h.mine hne
  exact ⟨g, 0, cur, e, hh, by simpa using ht⟩
def TlbQ (size : Int) (M : List Te) (er : Int) (w : World) (e : Ending) (w' : World) : Prop :=
  ∃ A' c', e = .returned (.tuple #[.agg #[.int .i64 size, .slice A' M.length c'], .int .i64 er]) ∧ M.length ≤ c' ∧ Own47 w' A' M ∧ Below w.heap.size w w'
theorem TlbR.q {size er : Int} {M : List Te} {w w' : World} {e : Ending} (h : TlbR size M er w e w') : TlbQ size M er w e w' := by
  obtain ⟨A, c, h1, h2, h3⟩ := h
  exact ⟨A, c, h1, h2.cap, h2.o47, h3⟩
/-- a step of a script -/
def doE (size : Int) (L : List Te) (k s p W : Int) : Int := if k = 0 then fillE size L s p W else if k = 1 then placeE size L s p else if k = 2 then flE size L s else 0
def doM (size : Int) (L : List Te) (k s p W : Int) : List Te :=
  if k = 0 then (if fillE size L s p W = 0 then fillL size L s p W else L) else if k = 1 then (if placeE size L s p = 0 then invL L s p else L) else if k = 2 then (if flE size L s = 0 then flL L s else L) else L
def DoR (size : Int) (M : List Te) (er : Int) (w : World) (e : Ending) (w' : World) : Prop :=
  ∃ A' c', e = .returned (.tuple #[.agg #[.int .i64 size, .slice A' M.length c'], .int .i64 er]) ∧ TlbIn w' A' M c' ∧ Own47 w' A' M ∧ Below w.heap.size w w'
theorem inw_fill {size : Int} {L : List Te} {s p W : Int} (h : ∀ o ∈ L, inW o.2.2) (hW : inW W) : ∀ o ∈ fillL size L s p W, inW o.2.2 := by
  intro o ho
  unfold fillL at ho
  rcases List.mem_append.1 ho with ho | ho
  · exact h o (List.mem_filter.1 (mem_shed ho)).1
  · rw [List.mem_singleton.1 ho]; exact hW
theorem inw_filter {L : List Te} (h : ∀ o ∈ L, inW o.2.2) (f : Te → Bool) : ∀ o ∈ L.filter f, inW o.2.2 := fun o ho => h o (List.mem_filter.1 ho).1
theorem fillE_chk {size : Int} {L : List Te} {s p W : Int} (h : fillE size L s p W = 0) : chkT size L = 0 := by
  by_cases c : chkT size L = 0
  · exact c
  · rw [fillE_place (by rw [placeE_bad c]; exact c), placeE_bad c] at h
    exact absurd h c
theorem big_fill {size : Int} {L : List Te} {s p W : Int} (h : fillE size L s p W = 0) : (fillL size L s p W).length ≤ 9223372036854775807 := by
  obtain ⟨a, b, _⟩ := chkT_ok.1 (fill_ok h)
  omega
theorem big_filter {L : List Te} (h : L.length ≤ 9223372036854775807) (f : Te → Bool) : (L.filter f).length ≤ 9223372036854775807 := Nat.le_trans (List.length_filter_le f L) h
set_option maxHeartbeats 8000000 in
set_option maxRecDepth 100000 in
theorem do_any (size : Int) (A : Option Addr) (L : List Te) (c : Nat) (k s p W : Int) (w : World) (h : TlbIn w A L c) (ho : Own47 w A L) (hp : inP p) (hW : inW W) :
    Calls Try.prog 28 #[.agg #[.int .i64 size, .slice A L.length c], .agg #[.int .i64 k, .int .i64 s, .int .i64 p, .int .u64 W]] w (DoR size (doM size L k s p W) (doE size L k s p W) w) := by
  obtain ⟨W0, hW0⟩ : ∃ W0, W0 = (((w.alloc (.cells #[.int .i64 size, .slice A L.length c] 24)).alloc (.cells #[.int .i64 k, .int .i64 s, .int .i64 p, .int .u64 W] 43)).alloc (.cells #[.int .i64 0, .slice none 0 0] 24)).alloc (.cells #[.int .i64 size, .slice A L.length c] 24) := ⟨_, rfl⟩
  have K0 := hide (show Below w.heap.size w W0 by rw [hW0]; exact bal (bal (bal (bal (brefl w) _) _) _) _)
  have X0 := hide (show Box W0 w.heap.size 24 #[.int .i64 size, .slice A L.length c] by rw [hW0]; exact (((Box.new w _ _).more _).more _).more _)
  have Y0 := hide (show Box W0 (w.heap.size + 1) 43 #[.int .i64 k, .int .i64 s, .int .i64 p, .int .u64 W] by rw [hW0]; exact ((Box.new2 _ _ _ _).more _).more _)
  have V0 := hide (show Box W0 (w.heap.size + 2) 24 #[.int .i64 0, .slice none 0 0] by rw [hW0]; exact (Box.new3 _ _ _ _ _).more _)
  have U0 := hide (show Box W0 (w.heap.size + 3) 24 #[.int .i64 size, .slice A L.length c] by rw [hW0]; exact Box.new4 _ _ _ _ _ _)
  have T0 := hide (h.below K0.out)
  have HH := hide h
  have HO := hide ho
  have CF := hide ((fill_any size A L c s p W W0 T0.out hW).mono fun e w' q => TlbR.q q)
  have CI := hide ((inv_any size A L c s p W0 T0.out hp).mono fun e w' q => TlbR.q q)
  have CL := hide ((flush_any size A L c s W0 T0.out).mono fun e w' q => TlbR.q q)
  have HWW := hide hW
  have HW := hide hW0
  unfold DoR doM doE
  unfold TlbQ at *
  by_cases k0 : k = 0
  · rw [if_pos k0, if_pos k0]
    have hk : (k == 0) = true := by simpa using k0
    by_cases he : fillE size L s p W = 0
    · rw [if_pos he, he]
      rw [he] at CF
      have e1 : resS size 0 = size := rfl
      have e2 : resM (fillL size L s p W) 0 = fillL size L s p W := rfl
      rw [e1, e2] at CF
      have IN := hide (show ∀ o ∈ fillL size L s p W, inW o.2.2 from inw_fill HH.out.inw HWW.out)
      have BG := hide (show (fillL size L s p W).length ≤ 9223372036854775807 from big_fill he)
      generalize fillL size L s p W = M at *
      clear he e1 e2 k0 hW0 h ho hp hW CI CL
      go_enter Try.func28, Try.ntmps28
      go_wp2_with fail
      rw [← HW.out]
      refine CF.out.mono ?_
      rintro e w1 ⟨A1, c1, rfl, hcap, hown, hb⟩
      have K := hide (btrans K0.out hb)
      have u0 := (U0.out.below hb).cell 0
      have u1 := (U0.out.below hb).cell 1
      have uf0 := (U0.out.below hb).frozen 0
      have uf1 := (U0.out.below hb).frozen 1
      have v0 := (V0.out.below hb).cell 0
      have v1 := (V0.out.below hb).cell 1
      have vf0 := (V0.out.below hb).frozen 0
      have vf1 := (V0.out.below hb).frozen 1
      simp at u0 u1 v0 v1
      have T1 := hide hown
      have V1 := hide (V0.out.below hb)
      have U1 := hide (U0.out.below hb)
      have HC := hide hcap
      clear hown hb hcap
      go_wp2
      have V2 := hide (((V1.out.far (b := w.heap.size + 3) (i := 0) (by omega) (.int .i64 size)).far (b := w.heap.size + 3) (i := 1) (by omega) (.slice A1 M.length c1)))
      have OF := hide ((((T1.out.boxset U1.out 0 (.int .i64 size)).boxset (U1.out.put 0 (.int .i64 size)) 1 (.slice A1 M.length c1)).boxset V2.out 0 (.int .i64 size)).boxset (V2.out.put 0 (.int .i64 size)) 1 (.slice A1 M.length c1))
      exact ret_tlb2 Try.results28 rfl rfl rfl ((V2.out.put 0 (.int .i64 size)).put 1 (.slice A1 M.length c1)) ⟨A1, c1, rfl, ⟨OF.out.ts, HC.out, BG.out, IN.out⟩, OF.out, bset (bset (bset (bset K.out (by simp <;> omega) _) (by simp <;> omega) _) (by simp <;> omega) _) (by simp <;> omega) _⟩
    · rw [if_neg he]
      rw [resS_er he, resM_er he] at CF
      have hd : (fillE size L s p W != 0) = true := by simpa using he
      generalize fillE size L s p W = er at *
      clear he k0 hW0 h ho hp hW CI CL
      go_enter Try.func28, Try.ntmps28
      go_wp2_with fail
      rw [← HW.out]
      refine CF.out.mono ?_
      rintro e w1 ⟨A1, c1, rfl, hcap, hown, hb⟩
      have K := hide (btrans K0.out hb)
      have x0 := (X0.out.below hb).cell 0
      have x1 := (X0.out.below hb).cell 1
      have u0 := (U0.out.below hb).cell 0
      have u1 := (U0.out.below hb).cell 1
      have uf0 := (U0.out.below hb).frozen 0
      have uf1 := (U0.out.below hb).frozen 1
      have v0 := (V0.out.below hb).cell 0
      have v1 := (V0.out.below hb).cell 1
      have vf0 := (V0.out.below hb).frozen 0
      have vf1 := (V0.out.below hb).frozen 1
      simp at x0 x1 u0 u1 v0 v1
      have V1 := hide (V0.out.below hb)
      have hlt0 := Nat.lt_of_lt_of_le X0.out.lt hb.size
      clear hown hb hcap
      go_wp2
      have V2 := hide (((V1.out.far (b := w.heap.size + 3) (i := 0) (by omega) (.int .i64 0)).far (b := w.heap.size + 3) (i := 1) (by omega) (.slice A1 0 c1)))
      have KF := hide (bset (bset (bset (bset K.out (p := ⟨w.heap.size + 3, 0, none⟩) (by simp <;> omega) (.int .i64 0)) (p := ⟨w.heap.size + 3, 1, none⟩) (by simp <;> omega) (.slice A1 0 c1)) (p := ⟨w.heap.size + 2, 0, none⟩) (by simp <;> omega) (.int .i64 size)) (p := ⟨w.heap.size + 2, 1, none⟩) (by simp <;> omega) (.slice A L.length c))
      exact ret_tlb2 Try.results28 rfl rfl rfl ((V2.out.put 0 (.int .i64 size)).put 1 (.slice A L.length c)) ⟨A, c, rfl, HH.out.below KF.out, HO.out.below KF.out, KF.out⟩
  by_cases k1 : k = 1
  · rw [if_neg k0, if_neg k0]; rw [if_pos k1, if_pos k1]
    have hk : (k == 1) = true := by simpa using k1
    have hk0 : (k == 0) = false := by simpa using k0
    by_cases he : placeE size L s p = 0
    · rw [if_pos he, he]
      rw [he] at CI
      have e1 : resS size 0 = size := rfl
      have e2 : resM (invL L s p) 0 = invL L s p := rfl
      rw [e1, e2] at CI
      have IN := hide (show ∀ o ∈ invL L s p, inW o.2.2 from inw_filter HH.out.inw _)
      have BG := hide (show (invL L s p).length ≤ 9223372036854775807 from big_filter HH.out.big _)
      generalize invL L s p = M at *
      clear he e1 e2 k0 k1 hW0 h ho hp hW CF CL
      go_enter Try.func28, Try.ntmps28
      go_wp2_with fail
      rw [← HW.out]
      refine CI.out.mono ?_
      rintro e w1 ⟨A1, c1, rfl, hcap, hown, hb⟩
      have K := hide (btrans K0.out hb)
      have u0 := (U0.out.below hb).cell 0
      have u1 := (U0.out.below hb).cell 1
      have uf0 := (U0.out.below hb).frozen 0
      have uf1 := (U0.out.below hb).frozen 1
      have v0 := (V0.out.below hb).cell 0
      have v1 := (V0.out.below hb).cell 1
      have vf0 := (V0.out.below hb).frozen 0
      have vf1 := (V0.out.below hb).frozen 1
      simp at u0 u1 v0 v1
      have T1 := hide hown
      have V1 := hide (V0.out.below hb)
      have U1 := hide (U0.out.below hb)
      have HC := hide hcap
      clear hown hb hcap
      go_wp2
      have V2 := hide (((V1.out.far (b := w.heap.size + 3) (i := 0) (by omega) (.int .i64 size)).far (b := w.heap.size + 3) (i := 1) (by omega) (.slice A1 M.length c1)))
      have OF := hide ((((T1.out.boxset U1.out 0 (.int .i64 size)).boxset (U1.out.put 0 (.int .i64 size)) 1 (.slice A1 M.length c1)).boxset V2.out 0 (.int .i64 size)).boxset (V2.out.put 0 (.int .i64 size)) 1 (.slice A1 M.length c1))
      exact ret_tlb2 Try.results28 rfl rfl rfl ((V2.out.put 0 (.int .i64 size)).put 1 (.slice A1 M.length c1)) ⟨A1, c1, rfl, ⟨OF.out.ts, HC.out, BG.out, IN.out⟩, OF.out, bset (bset (bset (bset K.out (by simp <;> omega) _) (by simp <;> omega) _) (by simp <;> omega) _) (by simp <;> omega) _⟩
    · rw [if_neg he]
      rw [resS_er he, resM_er he] at CI
      have hd : (placeE size L s p != 0) = true := by simpa using he
      generalize placeE size L s p = er at *
      clear he k0 k1 hW0 h ho hp hW CF CL
      go_enter Try.func28, Try.ntmps28
      go_wp2_with fail
      rw [← HW.out]
      refine CI.out.mono ?_
      rintro e w1 ⟨A1, c1, rfl, hcap, hown, hb⟩
      have K := hide (btrans K0.out hb)
      have x0 := (X0.out.below hb).cell 0
      have x1 := (X0.out.below hb).cell 1
      have u0 := (U0.out.below hb).cell 0
      have u1 := (U0.out.below hb).cell 1
      have uf0 := (U0.out.below hb).frozen 0
      have uf1 := (U0.out.below hb).frozen 1
      have v0 := (V0.out.below hb).cell 0
      have v1 := (V0.out.below hb).cell 1
      have vf0 := (V0.out.below hb).frozen 0
      have vf1 := (V0.out.below hb).frozen 1
      simp at x0 x1 u0 u1 v0 v1
      have V1 := hide (V0.out.below hb)
      have hlt0 := Nat.lt_of_lt_of_le X0.out.lt hb.size
      clear hown hb hcap
      go_wp2
      have V2 := hide (((V1.out.far (b := w.heap.size + 3) (i := 0) (by omega) (.int .i64 0)).far (b := w.heap.size + 3) (i := 1) (by omega) (.slice A1 0 c1)))
      have KF := hide (bset (bset (bset (bset K.out (p := ⟨w.heap.size + 3, 0, none⟩) (by simp <;> omega) (.int .i64 0)) (p := ⟨w.heap.size + 3, 1, none⟩) (by simp <;> omega) (.slice A1 0 c1)) (p := ⟨w.heap.size + 2, 0, none⟩) (by simp <;> omega) (.int .i64 size)) (p := ⟨w.heap.size + 2, 1, none⟩) (by simp <;> omega) (.slice A L.length c))
      exact ret_tlb2 Try.results28 rfl rfl rfl ((V2.out.put 0 (.int .i64 size)).put 1 (.slice A L.length c)) ⟨A, c, rfl, HH.out.below KF.out, HO.out.below KF.out, KF.out⟩
  by_cases k2 : k = 2
  · rw [if_neg k0, if_neg k0]; rw [if_neg k1, if_neg k1]; rw [if_pos k2, if_pos k2]
    have hk : (k == 2) = true := by simpa using k2
    have hk0 : (k == 0) = false := by simpa using k0
    have hk1 : (k == 1) = false := by simpa using k1
    by_cases he : flE size L s = 0
    · rw [if_pos he, he]
      rw [he] at CL
      have e1 : resS size 0 = size := rfl
      have e2 : resM (flL L s) 0 = flL L s := rfl
      rw [e1, e2] at CL
      have IN := hide (show ∀ o ∈ flL L s, inW o.2.2 from inw_filter HH.out.inw _)
      have BG := hide (show (flL L s).length ≤ 9223372036854775807 from big_filter HH.out.big _)
      generalize flL L s = M at *
      clear he e1 e2 k0 k1 k2 hW0 h ho hp hW CF CI
      go_enter Try.func28, Try.ntmps28
      go_wp2_with fail
      rw [← HW.out]
      refine CL.out.mono ?_
      rintro e w1 ⟨A1, c1, rfl, hcap, hown, hb⟩
      have K := hide (btrans K0.out hb)
      have u0 := (U0.out.below hb).cell 0
      have u1 := (U0.out.below hb).cell 1
      have uf0 := (U0.out.below hb).frozen 0
      have uf1 := (U0.out.below hb).frozen 1
      have v0 := (V0.out.below hb).cell 0
      have v1 := (V0.out.below hb).cell 1
      have vf0 := (V0.out.below hb).frozen 0
      have vf1 := (V0.out.below hb).frozen 1
      simp at u0 u1 v0 v1
      have T1 := hide hown
      have V1 := hide (V0.out.below hb)
      have U1 := hide (U0.out.below hb)
      have HC := hide hcap
      clear hown hb hcap
      go_wp2
      have V2 := hide (((V1.out.far (b := w.heap.size + 3) (i := 0) (by omega) (.int .i64 size)).far (b := w.heap.size + 3) (i := 1) (by omega) (.slice A1 M.length c1)))
      have OF := hide ((((T1.out.boxset U1.out 0 (.int .i64 size)).boxset (U1.out.put 0 (.int .i64 size)) 1 (.slice A1 M.length c1)).boxset V2.out 0 (.int .i64 size)).boxset (V2.out.put 0 (.int .i64 size)) 1 (.slice A1 M.length c1))
      exact ret_tlb2 Try.results28 rfl rfl rfl ((V2.out.put 0 (.int .i64 size)).put 1 (.slice A1 M.length c1)) ⟨A1, c1, rfl, ⟨OF.out.ts, HC.out, BG.out, IN.out⟩, OF.out, bset (bset (bset (bset K.out (by simp <;> omega) _) (by simp <;> omega) _) (by simp <;> omega) _) (by simp <;> omega) _⟩
    · rw [if_neg he]
      rw [resS_er he, resM_er he] at CL
      have hd : (flE size L s != 0) = true := by simpa using he
      generalize flE size L s = er at *
      clear he k0 k1 k2 hW0 h ho hp hW CF CI
      go_enter Try.func28, Try.ntmps28
      go_wp2_with fail
      rw [← HW.out]
      refine CL.out.mono ?_
      rintro e w1 ⟨A1, c1, rfl, hcap, hown, hb⟩
      have K := hide (btrans K0.out hb)
      have x0 := (X0.out.below hb).cell 0
      have x1 := (X0.out.below hb).cell 1
      have u0 := (U0.out.below hb).cell 0
      have u1 := (U0.out.below hb).cell 1
      have uf0 := (U0.out.below hb).frozen 0
      have uf1 := (U0.out.below hb).frozen 1
      have v0 := (V0.out.below hb).cell 0
      have v1 := (V0.out.below hb).cell 1
      have vf0 := (V0.out.below hb).frozen 0
      have vf1 := (V0.out.below hb).frozen 1
      simp at x0 x1 u0 u1 v0 v1
      have V1 := hide (V0.out.below hb)
      have hlt0 := Nat.lt_of_lt_of_le X0.out.lt hb.size
      clear hown hb hcap
      go_wp2
      have V2 := hide (((V1.out.far (b := w.heap.size + 3) (i := 0) (by omega) (.int .i64 0)).far (b := w.heap.size + 3) (i := 1) (by omega) (.slice A1 0 c1)))
      have KF := hide (bset (bset (bset (bset K.out (p := ⟨w.heap.size + 3, 0, none⟩) (by simp <;> omega) (.int .i64 0)) (p := ⟨w.heap.size + 3, 1, none⟩) (by simp <;> omega) (.slice A1 0 c1)) (p := ⟨w.heap.size + 2, 0, none⟩) (by simp <;> omega) (.int .i64 size)) (p := ⟨w.heap.size + 2, 1, none⟩) (by simp <;> omega) (.slice A L.length c))
      exact ret_tlb2 Try.results28 rfl rfl rfl ((V2.out.put 0 (.int .i64 size)).put 1 (.slice A L.length c)) ⟨A, c, rfl, HH.out.below KF.out, HO.out.below KF.out, KF.out⟩
  rw [if_neg k0, if_neg k0, if_neg k1, if_neg k1, if_neg k2, if_neg k2]
  have hk0 : (k == 0) = false := by simpa using k0
  have hk1 : (k == 1) = false := by simpa using k1
  have hk2 : (k == 2) = false := by simpa using k2
  have v0 := V0.out.cell 0
  have v1 := V0.out.cell 1
  have vf0 := V0.out.frozen 0
  have vf1 := V0.out.frozen 1
  have x0 := X0.out.cell 0
  have x1 := X0.out.cell 1
  have u0 := U0.out.cell 0
  have u1 := U0.out.cell 1
  simp at x0 x1 u0 u1 v0 v1
  clear k0 k1 k2 hW0 h ho hp hW CF CI CL
  go_enter Try.func28, Try.ntmps28
  go_wp2
  have KF := hide (bal (bal (bal (bal (brefl w) (.cells #[.int .i64 size, .slice A L.length c] 24)) (.cells #[.int .i64 k, .int .i64 s, .int .i64 p, .int .u64 W] 43)) (.cells #[.int .i64 size, .slice A L.length c] 24)) (.cells #[.int .i64 size, .slice A L.length c] 24))
  exact ret_tlb2 Try.results28 rfl rfl rfl ((Box.new3 _ _ _ _ _).more _) ⟨A, c, rfl, HH.out.below KF.out, HO.out.below KF.out, KF.out⟩
end Go.Proofs.Ythoeolaleeogbaa.Tb
