import Derived.Test.YthoeolaleeogbaaCov
namespace Go.Proofs.Ythoeolaleeogbaa.Tb
open Go Go.RowKit Go.Proofs.Ythoeolaleeogbaa.Pt
set_option linter.unusedVariables false
theorem box3_cells {w w' : World} {g : Nat} {a q W : Int} (h : Box w g 47 #[.int .i64 a, .int .i64 q, .int .u64 W]) (hb : Below w.heap.size w w') : w'.cell? ⟨g, 0, none⟩ = some (.int .i64 a) ∧ w'.cell? ⟨g, 1, none⟩ = some (.int .i64 q) ∧ w'.cell? ⟨g, 2, none⟩ = some (.int .u64 W) :=
  ⟨(h.below hb).cell 0, (h.below hb).cell 1, (h.below hb).cell 2⟩
theorem alloc_size (w : World) (o : Obj) : (w.alloc o).heap.size = w.heap.size + 1 := by simp
theorem Box.new2 (w : World) (o : Obj) (t : TypeId) (cs : Array Value) : Box ((w.alloc o).alloc (.cells cs t)) (w.heap.size + 1) t cs := by
  have h := Box.new (w.alloc o) t cs
  rw [alloc_size] at h
  exact h
set_option maxHeartbeats 1000000 in
theorem cov_raw (a q W s p : Int) (w : World) (hp : inP p) (hW : inW W) :
    Calls Try.prog 36 #[.agg #[.int .i64 a, .int .i64 q, .int .u64 W], .int .i64 s, .int .i64 p] w fun e w' => e = .returned (.bool ((a == s) && (q == fp W p))) ∧ Below w.heap.size w w' := by
  have F := hide (fun w => fp_any p W w hp hW)
  have X := hide (Box.new w 47 #[.int .i64 a, .int .i64 q, .int .u64 W])
  clear hp hW
  generalize fp W p = y at *
  by_cases h : a = s
  · have hd : (a == s) = true := by simpa using h
    clear h
    go_enter Try.func36, Try.ntmps36
    go_wp2
    obtain ⟨x0, x1, x2⟩ := box3_cells X.out (brefl _)
    have K := hide (brefl (w.alloc (.cells #[.int .i64 a, .int .i64 q, .int .u64 W] 47)))
    go_region_held3 (fun w' => w'.cell? ⟨w.heap.size, 0, none⟩ = some (.int .i64 a) ∧ w'.cell? ⟨w.heap.size, 1, none⟩ = some (.int .i64 q) ∧ w'.cell? ⟨w.heap.size, 2, none⟩ = some (.int .u64 W))
      ((have kk := box3_cells X.out K.out; exact kk))
      (first | (go_at_call 40; refine (F.out _).mono ?_; rintro e wk ⟨rfl, hbk⟩; replace K := hide (by first | exact btrans K.out hbk | exact btrans (below_drewN K.out _) hbk); clear hbk))
    all_goals
      go_wp2
      go_ret
      exact ⟨ret_bool (by simp [hd]), btrans (bal (brefl _) _) (by first | exact K.out | exact below_drewN K.out _)⟩
  · have hd : (a == s) = false := by simpa using h
    clear h
    obtain ⟨x0, x1, x2⟩ := box3_cells X.out (brefl _)
    go_enter Try.func36, Try.ntmps36
    go_wp2
    go_quiet (fail)
    go_wp2
    go_ret
    exact ⟨ret_bool (by simp [hd]), below_drewN (bal (brefl _) _) _⟩
theorem cov_any (e : Te) (s p : Int) (w : World) (hp : inP p) (hW : inW e.2.2) :
    Calls Try.prog 36 #[tv e, .int .i64 s, .int .i64 p] w fun r w' => r = .returned (.bool (cov e s p)) ∧ Below w.heap.size w w' :=
  cov_raw e.1 e.2.1 e.2.2 s p w hp hW
set_option maxHeartbeats 1000000 in
theorem ovl_any (a b : Te) (w : World) (ha : inP a.2.1) (hA : inW a.2.2) (hb : inP b.2.1) (hB : inW b.2.2) :
    Calls Try.prog 43 #[tv a, tv b] w fun r w' => r = .returned (.bool (ovl a b)) ∧ Below w.heap.size w w' := by
  unfold ovl
  have C1 := hide (fun w => cov_any a b.1 b.2.1 w hb hA)
  have C2 := hide (fun w => cov_any b a.1 a.2.1 w ha hB)
  unfold tv at *
  have X := hide (Box.new w 47 #[.int .i64 a.1, .int .i64 a.2.1, .int .u64 a.2.2])
  have Y := hide (Box.new2 w (.cells #[.int .i64 a.1, .int .i64 a.2.1, .int .u64 a.2.2] 47) 47 #[.int .i64 b.1, .int .i64 b.2.1, .int .u64 b.2.2])
  clear ha hA hb hB
  obtain ⟨a0, a1, a2⟩ := a
  obtain ⟨b0, b1, b2⟩ := b
  simp only at *
  cases h : cov (a0, a1, a2) b0 b1
  · rw [h] at C1
    clear h
    go_enter Try.func43, Try.ntmps43
    go_wp2_with fail
    refine (C1.out _).mono ?_
    rintro e w1 ⟨rfl, hb1⟩
    have K := hide hb1
    obtain ⟨x0, x1, x2⟩ := box3_cells (X.out.below (bal (brefl _) _)) K.out
    obtain ⟨y0, y1, y2⟩ := box3_cells Y.out K.out
    clear hb1
    go_wp2_with fail
    refine (C2.out _).mono ?_
    rintro e w2 ⟨rfl, hb2⟩
    replace K := hide (btrans K.out hb2)
    clear hb2
    go_wp2
    go_ret
    exact ⟨rfl, btrans (bal (bal (brefl _) _) _) K.out⟩
  · rw [h] at C1
    clear h
    go_enter Try.func43, Try.ntmps43
    go_wp2_with fail
    refine (C1.out _).mono ?_
    rintro e w1 ⟨rfl, hb1⟩
    have K := hide hb1
    obtain ⟨x0, x1, x2⟩ := box3_cells (X.out.below (bal (brefl _) _)) K.out
    obtain ⟨y0, y1, y2⟩ := box3_cells Y.out K.out
    clear hb1
    go_wp2
    go_ret
    exact ⟨rfl, btrans (bal (bal (brefl _) _) _) K.out⟩
end Go.Proofs.Ythoeolaleeogbaa.Tb
