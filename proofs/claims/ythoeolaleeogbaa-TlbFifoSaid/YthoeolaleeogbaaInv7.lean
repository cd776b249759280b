import Derived.Test.YthoeolaleeogbaaFill0
namespace Go.Proofs.Ythoeolaleeogbaa.Tb
open Go Go.RowKit Go.Proofs.Ythoeolaleeogbaa.Pt
set_option linter.unusedVariables false
theorem Box.new3 (w : World) (o1 o2 : Obj) (t : TypeId) (cs : Array Value) : Box (((w.alloc o1).alloc o2).alloc (.cells cs t)) (w.heap.size + 2) t cs := by
  have h := Box.new2 (w.alloc o1) o2 t cs
  rw [alloc_size] at h
  exact h
theorem Box.new4 (w : World) (o1 o2 o3 : Obj) (t : TypeId) (cs : Array Value) : Box ((((w.alloc o1).alloc o2).alloc o3).alloc (.cells cs t)) (w.heap.size + 3) t cs := by
  have h := Box.new3 (w.alloc o1) o2 o3 t cs
  rw [alloc_size] at h
  exact h
theorem Box.more {w : World} {g : Nat} {t : TypeId} {cs : Array Value} (h : Box w g t cs) (o : Obj) : Box (w.alloc o) g t cs := h.below (bal (brefl _) _)
theorem TlbIn.small {w : World} {A : Option Addr} {L : List Te} {c : Nat} (h : TlbIn w A L c) {size : Int} (hk : chkT size L = 0) : L.length ≤ 1000 := by
  obtain ⟨a, b, _⟩ := chkT_ok.1 hk; omega
theorem placeE_zero {size : Int} {L : List Te} {s p : Int} (h : placeE size L s p = 0) : chkT size L = 0 ∧ okSP s p = true := by
  unfold placeE at h
  by_cases c : chkT size L = 0
  · rw [if_neg (by simpa using c)] at h
    refine ⟨c, ?_⟩
    cases d : okSP s p
    · rw [d] at h; simp at h
    · rfl
  · rw [if_pos c] at h; exact absurd h c
set_option maxHeartbeats 2000000 in
theorem inv_any (size : Int) (A : Option Addr) (L : List Te) (c : Nat) (s p : Int) (w : World) (h : TlbIn w A L c) (hp : inP p) :
    Calls Try.prog 24 #[.agg #[.int .i64 size, .slice A L.length c], .int .i64 s, .int .i64 p] w (TlbR (resS size (placeE size L s p)) (resM (invL L s p) (placeE size L s p)) (placeE size L s p) w) := by
  obtain ⟨W0, hW0⟩ : ∃ W0, W0 = (((w.alloc (.cells #[.int .i64 size, .slice A L.length c] 24)).alloc (.cells #[.int .i64 s] 3)).alloc (.cells #[.int .i64 p] 3)).alloc (.cells #[.int .i64 0, .slice none 0 0] 24) := ⟨_, rfl⟩
  have K0 := hide (show Below w.heap.size w W0 by rw [hW0]; exact bal (bal (bal (bal (brefl w) _) _) _) _)
  have X0 := hide (show Box W0 w.heap.size 24 #[.int .i64 size, .slice A L.length c] by rw [hW0]; exact (((Box.new w _ _).more _).more _).more _)
  have Y0 := hide (show Box W0 (w.heap.size + 1) 3 #[.int .i64 s] by rw [hW0]; exact ((Box.new2 _ _ _ _).more _).more _)
  have Z0 := hide (show Box W0 (w.heap.size + 2) 3 #[.int .i64 p] by rw [hW0]; exact (Box.new3 _ _ _ _ _).more _)
  have V0 := hide (show Box W0 (w.heap.size + 3) 24 #[.int .i64 0, .slice none 0 0] by rw [hW0]; exact Box.new4 _ _ _ _ _ _)
  have T0 := hide (h.below K0.out)
  have C := hide (fun W (hb : Below W0.heap.size W0 W) => place_any size A L c s p W (T0.out.below hb))
  have HW := hide hW0
  unfold TlbR
  by_cases hk : placeE size L s p = 0
  · obtain ⟨hk1, hk2⟩ := placeE_zero hk
    have P49 := pred_cov49 s p (w.heap.size + 1) (w.heap.size + 2) W0 L Y0.out Z0.out hp h.inw
    have WO := hide (fun W (hb : Below W0.heap.size W0 W) => without_any size A L c 49 _ (fun o => cov o s p) W enters49 (P49.later hb) (T0.out.ts.below hb) (h.small hk1))
    rw [hk] at C
    rw [hk]
    have e1 : resS size 0 = size := rfl
    have e2 : resM (invL L s p) 0 = invL L s p := rfl
    rw [e1, e2]
    have e3 : (L.filter fun x => !(fun o => cov o s p) x) = invL L s p := rfl
    rw [e3] at WO
    generalize invL L s p = M at *
    clear hk hk1 hk2 P49 hW0 h hp e1 e2 e3
    go_enter Try.func24, Try.ntmps24
    go_wp2_with fail
    rw [← HW.out]
    refine (C.out _ (brefl _)).mono ?_
    rintro e w1 ⟨rfl, hb1⟩
    have K := hide hb1
    have x0 := (X0.out.below hb1).cell 0
    have x1 := (X0.out.below hb1).cell 1
    simp at x0 x1
    clear hb1
    go_wp2_with fail
    refine (WO.out _ K.out).mono ?_
    rintro e w2 ⟨A2, c2, rfl, hown, hb2⟩
    have O2 := hide (hown.mono (Nat.le_trans K0.out.size K.out.size))
    replace K := hide (btrans K.out hb2)
    have V2 := hide (V0.out.below K.out)
    have v0 := V2.out.cell 0
    have v1 := V2.out.cell 1
    have f0 := V2.out.frozen 0
    have f1 := V2.out.frozen 1
    simp at v0 v1
    clear hb2 hown x0 x1
    go_wp2
    exact ret_tlb2 Try.results24 rfl rfl rfl ((V2.out.put 0 (.int .i64 size)).put 1 (.slice A2 M.length c2)) ⟨A2, c2, rfl, (O2.out.boxset V2.out 0 _).boxset (V2.out.put 0 (.int .i64 size)) 1 _, bset (bset (btrans K0.out K.out) (by simp <;> omega) _) (by simp <;> omega) _⟩
  · rw [resS_er hk, resM_er hk]
    have hd : (placeE size L s p != 0) = true := by simpa using hk
    generalize placeE size L s p = er at *
    clear hk hW0 h hp
    go_enter Try.func24, Try.ntmps24
    go_wp2_with fail
    rw [← HW.out]
    refine (C.out _ (brefl _)).mono ?_
    rintro e w1 ⟨rfl, hb1⟩
    have K := hide hb1
    have V2 := hide (V0.out.below K.out)
    have v0 := V2.out.cell 0
    have v1 := V2.out.cell 1
    have f0 := V2.out.frozen 0
    have f1 := V2.out.frozen 1
    simp at v0 v1
    clear hb1
    go_wp2
    exact ret_tlb2 Try.results24 rfl rfl rfl ((V2.out.put 0 (.int .i64 0)).put 1 (.slice none 0 0)) ⟨none, 0, rfl, own_nil _ _, bset (bset (btrans K0.out K.out) (by simp <;> omega) _) (by simp <;> omega) _⟩
set_option maxHeartbeats 2000000 in
theorem flush_any (size : Int) (A : Option Addr) (L : List Te) (c : Nat) (s : Int) (w : World) (h : TlbIn w A L c) :
    Calls Try.prog 26 #[.agg #[.int .i64 size, .slice A L.length c], .int .i64 s] w (TlbR (resS size (flE size L s)) (resM (flL L s) (flE size L s)) (flE size L s) w) := by
  obtain ⟨W0, hW0⟩ : ∃ W0, W0 = ((w.alloc (.cells #[.int .i64 size, .slice A L.length c] 24)).alloc (.cells #[.int .i64 s] 3)).alloc (.cells #[.int .i64 0, .slice none 0 0] 24) := ⟨_, rfl⟩
  have K0 := hide (show Below w.heap.size w W0 by rw [hW0]; exact bal (bal (bal (brefl w) _) _) _)
  have X0 := hide (show Box W0 w.heap.size 24 #[.int .i64 size, .slice A L.length c] by rw [hW0]; exact ((Box.new w _ _).more _).more _)
  have Y0 := hide (show Box W0 (w.heap.size + 1) 3 #[.int .i64 s] by rw [hW0]; exact (Box.new2 _ _ _ _).more _)
  have V0 := hide (show Box W0 (w.heap.size + 2) 24 #[.int .i64 0, .slice none 0 0] by rw [hW0]; exact Box.new3 _ _ _ _ _)
  have T0 := hide (h.below K0.out)
  have C := hide (fun W (hb : Below W0.heap.size W0 W) => (T0.out.below hb).check size)
  have S1 := hide (fun w => space_any s w)
  have HW := hide hW0
  unfold TlbR
  by_cases hk : chkT size L = 0
  · have P51 := pred_sp51 s (w.heap.size + 1) W0 L Y0.out
    have WO := hide (fun W (hb : Below W0.heap.size W0 W) => without_any size A L c 51 _ (fun o => o.1 == s) W enters51 (P51.later hb) (T0.out.ts.below hb) (h.small hk))
    have fe : flE size L s = if spB s = false then 2 else 0 := by unfold flE; rw [if_neg (by simpa using hk)]; rfl
    rw [hk] at C
    have e3 : (L.filter fun x => !(fun o : Te => o.1 == s) x) = flL L s := rfl
    rw [e3] at WO
    cases hs : spB s
    · rw [hs] at S1 fe
      rw [fe]
      have e1 : resS size (if false = false then 2 else 0) = 0 := rfl
      have e2 : resM (flL L s) (if false = false then 2 else 0) = [] := rfl
      rw [e1, e2]
      clear hk P51 hW0 h e1 e2 e3 hs fe WO
      go_enter Try.func26, Try.ntmps26
      go_wp2_with fail
      rw [← HW.out]
      refine (C.out _ (brefl _)).mono ?_
      rintro e w1 ⟨rfl, hb1⟩
      have K := hide hb1
      have y0 := (Y0.out.below hb1).cell 0
      have V2 := hide (V0.out.below K.out)
      have v0 := V2.out.cell 0
      have v1 := V2.out.cell 1
      have f0 := V2.out.frozen 0
      have f1 := V2.out.frozen 1
      simp at v0 v1 y0
      clear hb1
      go_wp2_with (go_at_call 50; refine (S1.out _).mono ?_; rintro e w' ⟨rfl, rfl⟩)
      exact ret_tlb2 Try.results26 rfl rfl rfl ((V2.out.put 0 (.int .i64 0)).put 1 (.slice none 0 0)) ⟨none, 0, rfl, own_nil _ _, bset (bset (btrans K0.out K.out) (by simp <;> omega) _) (by simp <;> omega) _⟩
    · rw [hs] at S1 fe
      rw [fe]
      have e1 : resS size (if true = false then 2 else 0) = size := rfl
      have e2 : resM (flL L s) (if true = false then 2 else 0) = flL L s := rfl
      rw [e1, e2]
      generalize flL L s = M at *
      clear hk P51 hW0 h e1 e2 e3 hs fe
      go_enter Try.func26, Try.ntmps26
      go_wp2_with fail
      rw [← HW.out]
      refine (C.out _ (brefl _)).mono ?_
      rintro e w1 ⟨rfl, hb1⟩
      have K := hide hb1
      have y0 := (Y0.out.below hb1).cell 0
      have x0 := (X0.out.below hb1).cell 0
      have x1 := (X0.out.below hb1).cell 1
      simp at x0 x1 y0
      clear hb1
      go_wp2_with (go_at_call 50; refine (S1.out _).mono ?_; rintro e w' ⟨rfl, rfl⟩)
      refine (WO.out _ K.out).mono ?_
      rintro e w2 ⟨A2, c2, rfl, hown, hb2⟩
      have O2 := hide (hown.mono (Nat.le_trans K0.out.size K.out.size))
      replace K := hide (btrans K.out hb2)
      have V2 := hide (V0.out.below K.out)
      have v0 := V2.out.cell 0
      have v1 := V2.out.cell 1
      have f0 := V2.out.frozen 0
      have f1 := V2.out.frozen 1
      simp at v0 v1
      clear hb2 hown x0 x1
      go_wp2
      exact ret_tlb2 Try.results26 rfl rfl rfl ((V2.out.put 0 (.int .i64 size)).put 1 (.slice A2 M.length c2)) ⟨A2, c2, rfl, (O2.out.boxset V2.out 0 _).boxset (V2.out.put 0 (.int .i64 size)) 1 _, bset (bset (btrans K0.out K.out) (by simp <;> omega) _) (by simp <;> omega) _⟩
  · have fe : flE size L s = chkT size L := by unfold flE; rw [if_pos hk]
    rw [fe, resS_er hk, resM_er hk]
    have hd : (chkT size L != 0) = true := by simpa using hk
    generalize chkT size L = er at *
    clear hk hW0 h fe
    go_enter Try.func26, Try.ntmps26
    go_wp2_with fail
    rw [← HW.out]
    refine (C.out _ (brefl _)).mono ?_
    rintro e w1 ⟨rfl, hb1⟩
    have K := hide hb1
    have V2 := hide (V0.out.below K.out)
    have v0 := V2.out.cell 0
    have v1 := V2.out.cell 1
    have f0 := V2.out.frozen 0
    have f1 := V2.out.frozen 1
    simp at v0 v1
    clear hb1
    go_wp2
    exact ret_tlb2 Try.results26 rfl rfl rfl ((V2.out.put 0 (.int .i64 0)).put 1 (.slice none 0 0)) ⟨none, 0, rfl, own_nil _ _, bset (bset (btrans K0.out K.out) (by simp <;> omega) _) (by simp <;> omega) _⟩
end Go.Proofs.Ythoeolaleeogbaa.Tb
