import Derived.Test.YtinoddpdfknkbabDr
import Derived.Lib.SliceRun
namespace Go.Proofs.Ytinoddpdfknkbab.Pc
open Go Go.RowKit
set_option linter.unusedVariables false
theorem zero4 (w : World) : (zeroValue 4).run Try.prog w = .ok (.bool false) w := by
  obtain ⟨i0, hi0, hz0, hz1, hz2⟩ := info_parts info4
  simp [zeroValue, typeInfo, hi0, hz0]
theorem MapS.look {w : World} {b n : Nat} {S : Is} (h : MapS w b n S) {f : Int} (hf : fr f = true) : (Instr.lookup 52 (.map (some b)) (.int .i64 f) false).run Try.prog w = .ok (.bool (decide (f ∈ S))) w := by
  obtain ⟨D, hown, h1, _⟩ := h
  obtain ⟨v, ps, hrun, hv⟩ := hown.lookup (t := 52) (e := 4) kint Try.underlying52 (zero4 w) (zd := .lit (.bool false)) (plainElem_bool Try.underlying4 false) (Maps.keyOf_int_mk Try.underlying3 (fr_wf hf))
  rw [h1 f hf] at hv
  rw [hrun]
  unfold plainElem at hv
  rw [Try.underlying4] at hv
  cases v <;> simp at hv
  obtain ⟨rfl, _⟩ := hv
  rfl
theorem row_drop {base n c g b : Nat} {w : World} {l : Is} (h : w.ownsRow base 3 1 (.slice (some ⟨g, 0, none⟩) n c) n (l.map ic)) (hl : l.length = n) (hb : b ≤ n) : OwnI w (.slice (some ⟨g, b, none⟩) (n - b) (c - b)) (l.drop b) := by
  obtain ⟨hl1, ⟨e, _⟩ | ⟨g', cap, cur, e, hgb, hh, h1, h2, h3, h4⟩⟩ := h
  · cases e
  · injection e with e1 _ e2
    injection e1 with e1; injection e1 with e1
    subst e1 e2
    have hdl : (l.drop b).length = n - b := by rw [List.length_drop, hl]
    refine ⟨_, _, by rw [hdl], by rw [hdl]; omega, fun _ => ⟨g, b, cur, rfl, hh, ?_⟩⟩
    rw [hdl, List.map_drop, ← h4, List.drop_take]
    congr 1
    omega
set_option maxHeartbeats 1000000 in
/-- slices.Clone of a slice that lies somewhere -/
theorem sclone_any (g : Nat) (l : Is) (m c : Nat) (w : World) (hl : l.length = m) (hr : Bi w (some ⟨g, 0, none⟩) l) (hn : m ≤ 10000) : Calls Try.prog 37 #[.slice (some ⟨g, 0, none⟩) m c] w fun e w' => ∃ A d, e = .returned (.slice A m d) ∧ m ≤ d ∧ OwnI w' (.slice A m d) l ∧ Below w.heap.size w w' := by
  have q34 : ∀ (w : World) (a : Option Addr) (n c n' c' : Nat), (binOp .eql 34 (.slice a n c) (.slice none n' c')).run Try.prog w = .ok (.bool a.isNone) w := fun w a n c n' c' => Lib.run_eql_slice_nil w _ _ a n c n' c' Try.underlying34
  have K0 := bal (brefl w) (.cells #[] 3)
  obtain ⟨v5, w5, ha5, ho5, hg5, hat5⟩ := app_run (w.alloc (.cells #[] 3)) w w.heap.size 0 m c (some ⟨g, 0, none⟩) l (.slice (some ⟨w.heap.size, 0, none⟩) 0 0) [] (World.ownsRow_made w #[] 0 (Nat.le_refl _) (Nat.zero_le _) (by simp)) hl hr K0 (by omega) K0.size
  rw [Nat.zero_add, List.nil_append] at ho5
  obtain ⟨A5, c5, rfl, hc5⟩ := row_form ho5
  have HA5 := hide ha5
  have K5 := hide (show Below w.heap.size w w5 from K0.trans ((brefl _).mono K0.size |>.grown hg5 K0.size (fun k e => by
    have : w.heap.size = k := by simpa [Value.ownBlock] using e
    omega)))
  have O5 := hide (show OwnI w5 (.slice A5 m c5) l from by
    have := OwnI.of_row' (base := w.heap.size) (u := .slice A5 m c5) (w := w5) (l := l) (by rw [hl]; exact ho5)
    exact this)
  clear ha5 ho5 hg5 hat5 hr K0 hl
  go_enter Try.func37, Try.ntmps37
  go_wp2_with (at_builtin; (refine wpList_app rfl (.tmp 5) (.tmp 6) 34 rfl _ _ _ rfl rfl 34 rfl HA5.out ?_))
  go_ret
  exact ⟨A5, c5, rfl, hc5, O5.out, K5.out⟩
end Go.Proofs.Ytinoddpdfknkbab.Pc
