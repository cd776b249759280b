import Derived.Test.YtioffnpnoohbiaaF14
namespace Go.Proofs.Ytioffnpnoohbiaa.Rm
open Go Go.RowKit
set_option linter.unusedVariables false
set_option linter.unusedSimpArgs false
theorem mv_drop {L : List Mp} {f t : Int} {k : Nat} (h : k < L.length) : ((at' L k).s = f → mv (L.drop k) f t = ⟨t, (at' L k).p⟩ :: mv (L.drop (k + 1)) f t) ∧ ((at' L k).s ≠ f → mv (L.drop k) f t = mv (L.drop (k + 1)) f t) := by
  unfold mv
  rw [drop_at h, List.filter_cons]
  refine ⟨fun g => ?_, fun g => ?_⟩
  · rw [if_pos (decide_eq_true g)]; rfl
  · rw [if_neg (by simpa using g)]
theorem mv_len (L : List Mp) (f t : Int) : (mv L f t).length ≤ L.length := by
  unfold mv
  rw [List.length_map]
  exact List.length_filter_le _ _
def CpR (L : List Mp) (f t : Int) (w : World) (e : Ending) (w' : World) : Prop := ∃ R A c, e = .returned (.tuple #[.slice A R.length c, .int .i64 (cpE L f t)]) ∧ CpL L f t R ∧ OwM w.heap.size w' (.slice A R.length c) R ∧ Below w.heap.size w w'
theorem cpl_nil {L : List Mp} {f t : Int} (h : cpE L f t ≠ 0) : CpL L f t [] := by unfold CpL; rw [if_neg h]
theorem clash_no {L : List Mp} {f t : Int} (h : ∀ j, j < L.length → (at' L j).s = f → ¬ (⟨t, (at' L j).p⟩ : Mp) ∈ L) : ¬ clash L f t := by
  rintro ⟨x, hx, h1, h2⟩
  obtain ⟨k, hk, rfl⟩ := mem_at hx
  exact h k hk h1 h2
set_option maxRecDepth 100000 in
set_option maxHeartbeats 8000000 in
theorem copy_any (A : Option Addr) (c : Nat) (L : List Mp) (f t : Int) (w : World) (hr : Ms w A L) (hn : L.length ≤ 1000) : Calls Try.prog 19 #[.slice A L.length c, .int .i64 f, .int .i64 t] w (CpR L f t w) := by
  obtain ⟨i0, hi0, hz0, hz1, hz2⟩ := info_parts info26
  unfold CpR
  have HR := hide hr
  have K := hide (brefl w)
  have HLE := hide (Nat.le_refl w.heap.size)
  have CK := hide (fun w' (h : Below w.heap.size w w') => check_any A c L w' (hr.below h) (by omega))
  have CL := hide (fun w' (h : Below w.heap.size w w') => clone_any A c L w' (hr.below h) (by omega))
  have HA := hide (fun p w' (h : Below w.heap.size w w') => has_any A L c t p w' (hr.below h) (by omega))
  have SP := hide (fun s w => space_any s w)
  unfold ClR at CL
  clear hr
  by_cases h0 : ck L = 0
  rotate_left 1
  · have E := hide (show cpE L f t = ck L from if_neg h0)
    have EL := hide (cpl_nil (show cpE L f t ≠ 0 by rw [E.out]; exact h0))
    rw [E.out]
    have h2 := ne_bool h0
    clear E h0 CL HA
    generalize ck L = ce at *
    go_enter Try.func19, Try.ntmps19
    go_wp2_with fail
    refine (CK.out _ K.out).mono ?_
    rintro e w2 ⟨rfl, hb⟩
    replace K := hide (btrans K.out hb)
    clear hb
    go_wp2
    go_ret2
    exact ⟨[], none, 0, rfl, EL.out, owm_nil _ _, K.out⟩
  rw [h0] at CK
  by_cases hi : inS f ∧ inS t
  rotate_left 1
  · have E := hide (show cpE L f t = 2 by unfold cpE; rw [if_pos h0, if_neg hi])
    have EL := hide (cpl_nil (show cpE L f t ≠ 0 by rw [E.out]; decide))
    rw [E.out]
    clear E h0 CL HA
    by_cases hf : inS f
    · have ht : ¬ inS t := fun h => hi ⟨hf, h⟩
      have d1 := decide_eq_true hf
      have d2 := decide_eq_false ht
      clear hf ht hi
      go_enter Try.func19, Try.ntmps19
      go_wp2_with fail
      refine (CK.out _ K.out).mono ?_
      rintro e w2 ⟨rfl, hb⟩
      replace K := hide (btrans K.out hb)
      clear hb
      go_wp2_with (go_at_call 33; refine (SP.out _ _).mono ?_; rintro e w' ⟨rfl, rfl⟩)
      go_ret2
      exact ⟨[], none, 0, rfl, EL.out, owm_nil _ _, K.out⟩
    · have d1 := decide_eq_false hf
      clear hf hi
      go_enter Try.func19, Try.ntmps19
      go_wp2_with fail
      refine (CK.out _ K.out).mono ?_
      rintro e w2 ⟨rfl, hb⟩
      replace K := hide (btrans K.out hb)
      clear hb
      go_wp2_with (go_at_call 33; refine (SP.out _ _).mono ?_; rintro e w' ⟨rfl, rfl⟩)
      go_ret2
      exact ⟨[], none, 0, rfl, EL.out, owm_nil _ _, K.out⟩
  have d1 := decide_eq_true hi.1
  have d2 := decide_eq_true hi.2
  have EY := hide (show clash L f t → cpE L f t = 7 from fun h => by unfold cpE; rw [if_pos h0, if_pos hi, if_pos h])
  have EN := hide (show ¬ clash L f t → cpE L f t = 0 from fun h => by unfold cpE; rw [if_pos h0, if_pos hi, if_neg h])
  have CC := hide (show ∀ m, hs L m = true → m ∈ L from fun m h => (of_decide_eq_true h).2)
  have CN := hide (show ∀ m, hs L m = false → ¬ m ∈ L from fun m h g => of_decide_eq_false h ⟨h0, g⟩)
  have SS := hide (ck_ok h0).2
  clear hi h0
  go_enter Try.func19, Try.ntmps19
  go_wp2_with fail
  refine (CK.out _ K.out).mono ?_
  rintro e w2 ⟨rfl, hb⟩
  replace K := hide (btrans K.out hb)
  clear hb
  go_wp2_with (go_at_call 33; refine (SP.out _ _).mono ?_; rintro e w' ⟨rfl, rfl⟩)
  refine (CL.out _ K.out).mono ?_
  rintro e w3 ⟨A1, c1, rfl, ho, hb⟩
  have OQ := hide (row_mono ho K.out.size)
  replace K := hide (btrans K.out hb)
  clear hb ho d1 d2
  go_wp2
  go_loopw [9, 11, 29] (fun o _ i wr => ∃ k : Nat, ∃ A1 c1, ∃ R : List Mp, k ≤ L.length ∧ o = .slice A1 R.length c1 ∧ i = .int .i64 k ∧ Hid (OwM w.heap.size wr (.slice A1 R.length c1) R) ∧ Hid (Below w.heap.size w wr) ∧ Hid (R ++ mv (L.drop k) f t = L ++ mv L f t) ∧ Hid (∀ j, j < k → (at' L j).s = f → ¬ (⟨t, (at' L j).p⟩ : Mp) ∈ L)) (fun _ _ i _ => L.length - (intOf i).toNat)
  case atStart => exact ⟨0, A1, c1, L, Nat.zero_le _, rfl, rfl, OQ, K, hide rfl, hide (fun j h => by omega)⟩
  case round =>
    clear K OQ
    obtain ⟨k, A1, c1, R, hk, rfl, rfl, OQ, K, N, NC⟩ := hrel
    by_cases hlt : k < L.length
    · have hl2 : (k : Int) < (L.length : Int) := by omega
      have hk0 : (0 : Int) ≤ (k : Int) := by omega
      obtain ⟨b, off, rfl, hbl, y0, y1⟩ := HR.out.cells K.out hlt
      have RB := hide (show R.length ≤ 2000 from by
        have h1 := congrArg List.length N.out
        have h2 := mv_len L f t
        rw [List.length_append, List.length_append] at h1
        omega)
      have NY := hide (show (at' L k).s = f → (R ++ [(⟨t, (at' L k).p⟩ : Mp)]) ++ mv (L.drop (k + 1)) f t = L ++ mv L f t from fun h => by
        rw [List.append_assoc, ← N.out, (mv_drop hlt).1 h]; rfl)
      have NN := hide (show (at' L k).s ≠ f → R ++ mv (L.drop (k + 1)) f t = L ++ mv L f t from fun h => by rw [← N.out, (mv_drop hlt).2 h])
      have NC1 := hide (show ((at' L k).s = f → ¬ (⟨t, (at' L k).p⟩ : Mp) ∈ L) → ∀ j, j < k + 1 → (at' L j).s = f → ¬ (⟨t, (at' L j).p⟩ : Mp) ∈ L from fun h j hj g => if e : j = k then e ▸ h (e ▸ g) else NC.out j (by omega) g)
      have ND := hide (show (at' L k).s = f → (⟨t, (at' L k).p⟩ : Mp) ∈ L → cpE L f t = 7 from fun h g => EY.out ⟨at' L k, at_mem hlt, h, g⟩)
      clear N NC
      obtain ⟨a, ha⟩ : ∃ a, a = at' L k := ⟨_, rfl⟩
      rw [← ha] at y0 y1 NY NN NC1 ND
      clear ha
      obtain ⟨s, p⟩ := a
      dsimp only at y0 y1 NY NN NC1 ND
      have M0 := bal (brefl wr) (.cells #[.int .i64 s, .int .i64 p] 26)
      by_cases hs1 : s = f
      rotate_left 1
      · have G := hide (NN.out hs1)
        have G1 := hide (NC1.out fun h => absurd h hs1)
        have hb1 : (s != f) = true := bne_iff_ne.2 hs1
        replace OQ := hide (row_below OQ.out M0)
        replace K := hide (btrans K.out M0)
        clear hs1 NY NN NC1 ND M0
        go_wp2
        go_roundw
        case rel => exact ⟨k + 1, A1, c1, R, by omega, rfl, by go_num, OQ, K, G, G1⟩
        case measure => simp [intOf]; omega
      · have hb1 : (s != f) = false := by simp [hs1]
        have M1 := bal (brefl wr) (.cells #[.int .i64 t, .int .i64 p] 26)
        have X1 := hide (MB.new wr t p)
        replace NY := hide (NY.out hs1)
        replace NC1 := hide (fun h => NC1.out (fun _ => h))
        replace ND := hide (ND.out hs1)
        clear M0 NN hs1
        go_upto_region 12 with fail
        replace OQ := hide (row_below OQ.out M1)
        replace K := hide (btrans K.out M1)
        clear M1
        obtain ⟨g4, hg4⟩ : ∃ g, g = wr.heap.size := ⟨_, rfl⟩
        rw [← hg4] at X1 ⊢
        generalize wr.alloc (.cells #[.int .i64 t, .int .i64 p] 26) = w4 at *
        clear hg4 y0 y1
        obtain ⟨x0, x1⟩ := MB.cells X1.out
        have HC := HA.out p w4 K.out
        cases hh : hs L ⟨t, p⟩
        · rw [hh] at HC
          have G1 := hide (NC1.out (CN.out _ hh))
          replace HC := hide HC
          clear hh NC1 ND
          go_wp2_with fail
          refine HC.out.mono ?_
          rintro e w5 ⟨rfl, hb⟩
          replace OQ := hide (row_below OQ.out hb)
          replace K := hide (btrans K.out hb)
          replace X1 := hide (X1.out.below hb)
          clear hb x0 x1 HC
          obtain ⟨x0, x1⟩ := MB.cells X1.out
          have RB2 := RB.out
          have M := bal (brefl w5) (.cells #[.int .i64 t, .int .i64 p] 26)
          have OQ2 := hide (row_below OQ.out M)
          have NB := hide (MB.news (MB.new w5 t p))
          have KM := hide (btrans K.out M)
          unfold mC at NB
          dsimp only at NB
          clear M OQ K
          have HBB := hide (show w.heap.size ≤ _ from KM.out.size)
          go_wp2_with (at_builtin; refine wpList_append_own _ rfl (.tmp 42) (.tmp 44) 22 rfl w.heap.size 26 i0 _ 2 16 Try.underlying22 hi0 hz0 hz1 hz2 rfl (by omega) (.slice A1 R.length c1) R.length (mcs R) rfl OQ2.out ⟨w5.heap.size, 0, none⟩ 1 1 [.int .i64 t, .int .i64 p] rfl rfl NB.out (by intro u hu; simp only [List.mem_cons, List.not_mem_nil, or_false] at hu; rcases hu with rfl | rfl <;> rfl) (by simp only [maxLen]; omega) (by omega) HBB.out ?_; intro v1 w9 hown1 hg1 _; obtain ⟨A2, c2, rfl, OQ, BG⟩ := push_next HBB.out OQ2.out hown1 hg1; replace OQ := hide OQ; have K := hide (KM.out.trans (BG.mono HLE.out)); clear hown1 hg1 OQ2 NB KM BG HBB)
          have RL := hide (show (R ++ [(⟨t, p⟩ : Mp)]).length = R.length + 1 by simp)
          rw [← RL.out]
          generalize R ++ [(⟨t, p⟩ : Mp)] = R3 at *
          go_wp2
          go_roundw
          case rel => exact ⟨k + 1, A2, c2, R3, by omega, rfl, by go_num, OQ, K, NY, G1⟩
          case measure => simp [intOf]; omega
        · rw [hh] at HC
          have G := hide (ND.out (CC.out _ hh))
          have EL := hide (cpl_nil (show cpE L f t ≠ 0 by rw [G.out]; decide))
          replace HC := hide HC
          clear hh NC1 ND NY
          go_wp2_with fail
          refine HC.out.mono ?_
          rintro e w5 ⟨rfl, hb⟩
          replace K := hide (btrans K.out hb)
          clear hb x0 x1 HC
          go_wp2
          go_ret2
          refine ⟨[], none, 0, ?_, EL.out, owm_nil _ _, K.out⟩
          rw [G.out]; rfl
    · obtain rfl : k = L.length := by omega
      have G := hide (EN.out (clash_no NC.out))
      have GR := hide (show R = L ++ mv L f t by
        have := N.out
        rw [List.drop_length] at this
        rw [← this]; unfold mv; simp)
      have RB := hide (show R.length ≤ 2000 from by
        have h1 := congrArg List.length GR.out
        have h2 := mv_len L f t
        rw [List.length_append] at h1
        omega)
      have SO := hide (srt_own w.heap.size A1 c1 R wr OQ.out K.out.size (by have := RB.out; omega))
      have CP := hide (show CpL L f t (so R) from by
        unfold CpL
        rw [if_pos G.out]
        refine ⟨so_srt ?_, (so_perm R).trans (by rw [GR.out])⟩
        rw [GR.out]
        exact cp_nodup SS.out (clash_no NC.out))
      have SL := hide (so_len R)
      clear GR N NC
      generalize so R = R9 at *
      go_wp2_with fail
      refine SO.out.mono ?_
      rintro e w5 ⟨rfl, ho, hb⟩
      replace OQ := hide ho
      replace K := hide (K.out.trans hb)
      clear ho hb SO
      rw [← SL.out]
      go_wp2
      go_ret2
      refine ⟨R9, A1, c1, ?_, CP.out, OQ.out, K.out⟩
      rw [G.out]; rfl
end Go.Proofs.Ytioffnpnoohbiaa.Rm
