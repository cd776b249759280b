import Derived.Test.YtncjicggolmofaaOb
import Derived.Deep.RegionWith
namespace Go.Proofs.Ytncjicggolmofaa.Sb
open Go Go.RowKit
set_option linter.unusedVariables false
set_option linter.unusedSimpArgs false
theorem ret_iii {fn : Func} {a : Act} {W : World} {k m m2 : Nat} {x y z : Int} {Q : Ending → World → Prop} (hr : fn.results = #[.tmp k, .tmp m, .tmp m2]) (h2 : a.tmps.getD k undef = .int .i64 x) (h3 : a.tmps.getD m undef = .int .i64 y) (h4 : a.tmps.getD m2 undef = .int .i64 z) (hd : a.defers = [])
    (hq : Q (.returned (.tuple #[.int .i64 x, .int .i64 y, .int .i64 z])) W) : bodyPost Try.prog fn Q .ret a W := by
  simp only [Array.getD_eq_getD_getElem?] at h2 h3 h4
  exact bodyPost_ret (v := .tuple #[.int .i64 x, .int .i64 y, .int .i64 z]) (by simp [results, hr, h2, h3, h4, go_sem]; try rfl) hd hq
/-- how many objects of the first k slabs are used -/
def ud (S : Sc) : Nat → Nat
  | 0 => 0
  | k + 1 => ud S k + cnt (us S k)
theorem ls_ud (S : Sc) : ∀ k, (ls S true k).length = ud S k
  | 0 => rfl
  | k + 1 => by
    show (ls S true k ++ nb (fr S k) S.ob (us S k) true (us S k).length).length = ud S k + cnt (us S k)
    rw [List.length_append, ls_ud S k, nb_all]
/-- what Account answers: frames, used, free -/
def aF (S : Sc) : Int := if chE S = 0 then (S.sl.length : Int) else 0
def aU (S : Sc) : Int := if chE S = 0 then ((ud S S.sl.length : Nat) : Int) else 0
def aR (S : Sc) : Int := if chE S = 0 then (S.sl.length : Int) * S.ob - ((ud S S.sl.length : Nat) : Int) else 0
theorem obj_ud {S : Sc} (h : chE S = 0) : (obj S).length = ud S S.sl.length := by unfold obj; rw [if_pos h, ls_ud]
theorem ud_le {S : Sc} (h : Wf S) {k : Nat} (hk : k ≤ S.sl.length) : ud S k ≤ 32 * k := by rw [← ls_ud]; exact ls_len h true k hk
set_option maxRecDepth 100000 in
set_option maxHeartbeats 8000000 in
theorem acc_any (A : Option Addr) (cp : Nat) (S : Sc) (w : World) (hr : RdC w A S.sl) (hn : S.sl.length ≤ 9223372036854775807) (hln : ∀ k, k < S.sl.length → (us S k).length ≤ 9223372036854775807) : Calls Try.prog 19 #[.agg #[.int .i64 S.ob, .slice A S.sl.length cp]] w fun e w' => e = .returned (.tuple #[.int .i64 (aF S), .int .i64 (aU S), .int .i64 (aR S)]) ∧ Below w.heap.size w w' := by
  have X2 := hide (Box.new w 24 #[.int .i64 S.ob, .slice A S.sl.length cp])
  have KF := hide (bal (brefl w) (.cells #[.int .i64 S.ob, .slice A S.sl.length cp] 24))
  obtain ⟨W0, hW0⟩ : ∃ W0, W0 = (w.alloc (.cells #[.int .i64 S.ob, .slice A S.sl.length cp] 24)) := ⟨_, rfl⟩
  rw [← hW0] at X2 KF
  obtain ⟨g2, hg2⟩ : ∃ g2, g2 = w.heap.size := ⟨_, rfl⟩
  rw [← hg2] at X2
  have HR := hide (hr.below KF.out)
  have CK := hide (check_any A cp S W0 HR.out hn hln)
  have x0 := X2.out.cell 0
  have x1 := X2.out.cell 1
  simp at x0 x1
  clear hr
  by_cases hc : chE S = 0
  · have OB := hide (fun W (h : Below W0.heap.size W0 W) => objs_any A cp S W (HR.out.below h) hn hln)
    have HU := hide (obj_ud hc)
    have HW := hide (vd_of hc).wf
    have hN := HW.out.len
    have hud := ud_le HW.out (Nat.le_refl _)
    have HO := HW.out.ob
    have E := hide (show aF S = (S.sl.length : Int) ∧ aU S = ((ud S S.sl.length : Nat) : Int) ∧ aR S = (S.sl.length : Int) * S.ob - ((ud S S.sl.length : Nat) : Int) from ⟨if_pos hc, if_pos hc, if_pos hc⟩)
    rw [hc] at CK
    clear hc hn hln
    have hp : 0 ≤ (S.sl.length : Int) * S.ob ∧ (S.sl.length : Int) * S.ob ≤ 8192 := by
      constructor
      · exact Int.mul_nonneg (by omega) (by omega)
      · have h2 : (S.sl.length : Int) * S.ob ≤ 256 * S.ob := Int.mul_le_mul_of_nonneg_right (by omega) (by omega)
        omega
    obtain ⟨pr, hpr⟩ : ∃ pr, pr = (S.sl.length : Int) * S.ob := ⟨_, rfl⟩
    have hpr2 : (S.sl.length : Int) * S.ob = pr := hpr.symm
    rw [← hpr] at hp E
    clear hpr
    go_enter Try.func19, Try.ntmps19
    go_upto_region 1 with fail
    rw [← hg2, ← hW0]
    clear hg2 hW0
    go_upto_region 3 with (go_at_call 16; refine CK.out.mono ?_; rintro e w1 ⟨rfl, hb⟩; have X21 := hide (X2.out.below hb); have K1 := hide (KF.out.trans (hb.mono KF.out.size)); have B1 := hide hb; clear hb)
    clear x0 x1 X2 CK
    have x0 := X21.out.cell 0
    have x1 := X21.out.cell 1
    simp at x0 x1
    go_region_with (go_at_call 24; refine (OB.out _ (by first | exact B1.out | exact below_drewN B1.out _)).mono ?_; rintro e w2 ⟨⟨A2, c2, rfl, hO⟩, hb⟩; have hbw : Below w1.heap.size w1 w2 := (below_drewN (brefl w1) 1).trans hb; have X22 := hide (X21.out.below hbw); have K2 := hide (K1.out.trans (hbw.mono K1.out.size)); clear hO hb hbw; have x0' := X22.out.cell 0; have x1' := X22.out.cell 1; simp at x0' x1')
    all_goals
      rw [HU.out]
      generalize ud S S.sl.length = uu at *
      go_wp2
      go_quiet (fail)
      go_wp2
      refine ret_iii Try.results19 rfl rfl rfl rfl ⟨?_, below_drewN K2.out _⟩
      have hw : IntKind.i64.wrap (IntKind.i64.wrap pr - (uu : Int)) = pr - (uu : Int) := by rw [IntKind.wrap_i64, IntKind.wrap_i64]; omega
      rw [E.out.1, E.out.2.1, E.out.2.2, hw]
  · have E := hide (show aF S = 0 ∧ aU S = 0 ∧ aR S = 0 from ⟨if_neg hc, if_neg hc, if_neg hc⟩)
    have dc : (chE S != 0) = true := by simpa using hc
    clear hc hn hln
    generalize chE S = ce at *
    go_enter Try.func19, Try.ntmps19
    go_upto_region 1 with fail
    rw [← hg2, ← hW0]
    clear hg2 hW0
    go_wp2_with (go_at_call 16; refine CK.out.mono ?_; rintro e w1 ⟨rfl, hb⟩; have K1 := hide (KF.out.trans (hb.mono KF.out.size)); clear hb)
    refine ret_iii Try.results19 rfl rfl rfl rfl ⟨?_, K1.out⟩
    rw [E.out.1, E.out.2.1, E.out.2.2]
end Go.Proofs.Ytncjicggolmofaa.Sb
