import Derived.Test.YtdpdlbonlpdkjaaDoorRRun
import Derived.Test.YtdpdlbonlpdkjaaDoorLFills
import Derived.Deep.RegionHeld3
namespace Go.Proofs.YtdpdlbonlpdkjaaDoor.Bs
open Go Go.RowKit
set_option linter.unusedVariables false
set_option maxHeartbeats 4000000 in
theorem law_runs (s f t : Int) (on : Bool) (A : Option Addr) (ws : List Nat) (c : Nat) (w : World) (ht : Tab w) (hr : Wd w A ws) (hw : ∀ x ∈ ws, x < 2 ^ 64) (hn : ws.length ≤ 9223372036854775807) (hf2 : f ≤ 9223372036854775807) (ht2 : t ≤ 9223372036854775807) :
    Calls Tryd.prog 7 #[.agg #[.int .i64 s, .slice A ws.length c], .agg #[.int .i64 f, .int .i64 t], .bool on] w fun e w' => e = .returned (.bool true) ∧ Below w.heap.size w w' := by
  obtain ⟨r, hF, hG⟩ := run_both s f t A ws c on hw hn hf2 ht2
  have HT := hide (ht.below (bal (bal (brefl w) (.cells #[.int .i64 s, .slice A ws.length c] 24)) (.cells #[.int .i64 f, .int .i64 t] 33)))
  have HR := hide (hr.below (bal (bal (brefl w) (.cells #[.int .i64 s, .slice A ws.length c] 24)) (.cells #[.int .i64 f, .int .i64 t] 33)))
  have HF := hide hF
  have HG := hide hG
  clear hF hG ht hr hw
  go_enter Tryd.func7, Tryd.ntmps7
  go_wp2_with fail
  refine (awake _ HT.out).mono ?_
  rintro e w1 ⟨rfl, hb1⟩
  have b1 : BoxIs w1 w.heap.size s (.slice A ws.length c) := ((BoxIs.new w s (.slice A ws.length c)).alloc _).below hb1
  have q1 : PairIs w1 (w.heap.size + 1) f t := (by simpa using PairIs.new (w.alloc (.cells #[.int .i64 s, .slice A ws.length c] 24)) f t : PairIs _ (w.heap.size + 1) f t).below hb1
  have r1 := HR.out.below hb1
  have o1 : Below w.heap.size w w1 := btrans (bal (bal (brefl _) _) _) hb1
  have P1 := hide (And.intro o1 (And.intro b1 (And.intro q1 r1)))
  have x0 := b1.c0
  have x1 := b1.c1
  have x2 := q1.c0
  have x3 := q1.c1
  clear hb1 b1 q1 r1 o1
  have K := hide (brefl w1)
  go_wp2_with fail
  go_region_held3 (fun w' => w'.cell? ⟨w.heap.size, 0, none⟩ = some (.int .i64 s) ∧ w'.cell? ⟨w.heap.size, 1, none⟩ = some (.slice A ws.length c) ∧ w'.cell? ⟨w.heap.size + 1, 0, none⟩ = some (.int .i64 f) ∧ w'.cell? ⟨w.heap.size + 1, 1, none⟩ = some (.int .i64 t))
    (first | exact ⟨(P1.out.2.1.below K.out).c0, (P1.out.2.1.below K.out).c1, (P1.out.2.2.1.below K.out).c0, (P1.out.2.2.1.below K.out).c1⟩)
    (first
    | (go_at_call 24; refine (HF.out _ (P1.out.2.2.2.below (by first | exact K.out | exact below_drewN K.out _))).mono ?_; rintro e wk ⟨rfl, hbk⟩; replace K : Hid (Below w1.heap.size w1 wk) := hide (by first | exact btrans K.out hbk | exact btrans (below_drewN K.out _) hbk); clear hbk)
    | (go_at_call 25; refine (HG.out _ (P1.out.2.2.2.below (by first | exact K.out | exact below_drewN K.out _))).mono ?_; rintro e wl ⟨rfl, hbk⟩; replace K : Hid (Below w1.heap.size w1 wl) := hide (by first | exact btrans K.out hbk | exact btrans (below_drewN K.out _) hbk); clear hbk))
  all_goals
    go_wp2
    go_ret
    exact ⟨rfl, by first | exact btrans P1.out.1 K.out | exact btrans P1.out.1 (below_drewN K.out _)⟩
end Go.Proofs.YtdpdlbonlpdkjaaDoor.Bs
