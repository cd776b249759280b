import Derived.Test.YtioffnpnoohbiaaF8
namespace Go.Proofs.Ytioffnpnoohbiaa.Rm
open Go Go.RowKit
set_option linter.unusedVariables false
set_option linter.unusedSimpArgs false
theorem del_own (B : Nat) (A : Option Addr) (c i : Nat) (L : List Mp) (w : World) (ho : OwM B w (.slice A L.length c) L) (hB : B ≤ w.heap.size) (hi : i < L.length) :
    Calls Try.prog 28 #[.slice A L.length c, .int .i64 i, .int .i64 ((i : Int) + 1)] w (InR B (L.take i ++ L.drop (i + 1)) w) := by
  obtain ⟨n, hL⟩ : ∃ n, L.length = n + 1 := ⟨L.length - 1, by omega⟩
  have ho2 := ho
  obtain ⟨hl, h | ⟨g, cap, cur, e, hg, hh, h4, h5, h6, ht⟩⟩ := ho
  · omega
  · injection e with e1 _ e2
    subst e1 e2
    have hr : RwM w g c L := ⟨cur, hh, h6, ht⟩
    have H := del_any g c n i L w hL (by omega) h4 h5 hr
    rw [← hL] at H
    refine H.mono ?_
    rintro e w' ⟨rfl, h1, h2⟩
    have hlen : (L.take i ++ L.drop (i + 1)).length = n := by simp only [List.length_append, List.length_take, List.length_drop]; omega
    unfold InR
    unfold OwM
    rw [hlen]
    refine ⟨_, _, rfl, ?_, below_grown (B := 0) ho2 h2 hB⟩
    have := h1.own hg (by rw [hlen]; omega) h5
    rw [hlen] at this
    exact this
theorem er_ix {L : List Mp} {m : Mp} (h : ck L = 0) (hm : m ∈ L) : reL L m = L.take (ix L m) ++ L.drop (ix L m + 1) := by
  have E : reE L m = 0 := by unfold reE; rw [if_pos h, if_pos hm]
  unfold reL
  rw [if_pos E]
  exact er_cut (ck_ok h).2 hm
set_option maxRecDepth 100000 in
set_option maxHeartbeats 8000000 in
theorem rem_any (A : Option Addr) (c : Nat) (L : List Mp) (t q : Int) (w : World) (hr : Ms w A L) (hn : L.length ≤ 1000) : Calls Try.prog 11 #[.slice A L.length c, .agg #[.int .i64 t, .int .i64 q]] w (PuR (reL L ⟨t, q⟩) (reE L ⟨t, q⟩) w) := by
  unfold PuR
  have K := hide (bal (brefl w) (.cells #[.int .i64 t, .int .i64 q] 26))
  have X := hide (MB.new w t q)
  obtain ⟨g3, hg3⟩ : ∃ g, g = w.heap.size := ⟨_, rfl⟩
  have HG := hide hg3
  rw [← hg3] at X
  have FI := hide (fun w' (h : Below w.heap.size w w') => find_any A L c t q w' (hr.below h) (by omega))
  have CL := hide (fun w' (h : Below w.heap.size w w') => clone_any A c L w' (hr.below h) (by omega))
  unfold ClR at CL
  by_cases h0 : ck L = 0
  rotate_left 1
  · have E := hide (show reE L ⟨t, q⟩ = ck L from if_neg h0)
    have EL := hide (show reL L ⟨t, q⟩ = [] from if_neg (by rw [E.out]; exact h0))
    rw [EL.out, E.out]
    have h2 := ne_bool h0
    clear E EL CL h0 hr hg3
    generalize ck L = ce at *
    generalize hs L ⟨t, q⟩ = hb at *
    generalize fiI L ⟨t, q⟩ = ii at *
    go_enter Try.func11, Try.ntmps11
    go_wp2_with fail
    rw [← HG.out]
    generalize w.alloc (.cells #[.int .i64 t, .int .i64 q] 26) = w1 at *
    refine (FI.out _ K.out).mono ?_
    rintro e w2 ⟨rfl, hb⟩
    replace X := hide (X.out.below hb)
    replace K := hide (btrans K.out hb)
    clear hb
    go_wp2
    go_ret2
    exact ⟨none, 0, rfl, owm_nil _ _, K.out⟩
  by_cases hm : (⟨t, q⟩ : Mp) ∈ L
  rotate_left 1
  · have E := hide (show reE L ⟨t, q⟩ = 6 by unfold reE; rw [if_pos h0, if_neg hm])
    have EL := hide (show reL L ⟨t, q⟩ = [] from if_neg (by rw [E.out]; decide))
    have EH := hide (show hs L ⟨t, q⟩ = false from decide_eq_false fun h => hm h.2)
    rw [EL.out, E.out]
    rw [h0, EH.out] at FI
    clear E EL CL h0 hm hr hg3 EH
    generalize fiI L ⟨t, q⟩ = ii at *
    go_enter Try.func11, Try.ntmps11
    go_wp2_with fail
    rw [← HG.out]
    generalize w.alloc (.cells #[.int .i64 t, .int .i64 q] 26) = w1 at *
    refine (FI.out _ K.out).mono ?_
    rintro e w2 ⟨rfl, hb⟩
    replace X := hide (X.out.below hb)
    replace K := hide (btrans K.out hb)
    clear hb
    go_wp2
    go_ret2
    exact ⟨none, 0, rfl, owm_nil _ _, K.out⟩
  · have E := hide (show reE L ⟨t, q⟩ = 0 by unfold reE; rw [if_pos h0, if_pos hm])
    have EL := hide (er_ix h0 hm)
    have EH := hide (show hs L ⟨t, q⟩ = true from decide_eq_true ⟨h0, hm⟩)
    have EI := hide (show fiI L ⟨t, q⟩ = ((ix L ⟨t, q⟩ : Nat) : Int) from if_pos h0)
    have HI := hide ((ix_mem (ck_ok h0).2 ⟨t, q⟩).1 hm).1
    rw [E.out]
    rw [h0, EH.out, EI.out] at FI
    clear E h0 hm hr hg3 EH EI
    generalize ix L ⟨t, q⟩ = ii at *
    generalize reL L ⟨t, q⟩ = R at *
    have hi2 := HI.out
    have hw : IntKind.i64.wrap ((ii : Int) + 1) = (ii : Int) + 1 := by rw [IntKind.wrap_i64]; omega
    clear hi2
    go_enter Try.func11, Try.ntmps11
    go_wp2_with fail
    rw [← HG.out]
    generalize w.alloc (.cells #[.int .i64 t, .int .i64 q] 26) = w1 at *
    refine (FI.out _ K.out).mono ?_
    rintro e w2 ⟨rfl, hb⟩
    replace X := hide (X.out.below hb)
    replace K := hide (btrans K.out hb)
    clear hb
    go_wp2_with fail
    refine (CL.out _ K.out).mono ?_
    rintro e wc ⟨A1, c1, rfl, ho, hb⟩
    have IN := del_own w.heap.size A1 c1 ii L wc (row_mono ho K.out.size) (Nat.le_trans K.out.size hb.size) HI.out
    rw [← EL.out] at IN
    replace IN := hide IN
    replace K := hide (btrans K.out hb)
    clear hb ho CL
    go_wp2_with fail
    refine IN.out.mono ?_
    rintro e wd ⟨A2, c2, rfl, ho, hb⟩
    replace K := hide (K.out.trans hb)
    have OR := hide ho
    clear hb ho IN
    go_wp2
    go_ret2
    exact ⟨A2, c2, rfl, OR.out, K.out⟩
end Go.Proofs.Ytioffnpnoohbiaa.Rm
