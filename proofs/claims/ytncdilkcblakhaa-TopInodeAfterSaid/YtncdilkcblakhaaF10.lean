import Derived.Test.YtncdilkcblakhaaF9
namespace Go.Proofs.Ytncdilkcblakhaa.In
open Go Go.RowKit
set_option linter.unusedVariables false
set_option linter.unusedSimpArgs false
theorem not_good {L : Is} {k : Nat} (hk : k < L.length) (h : ¬ (1 ≤ L.getD k 0 ∧ L.getD k 0 ≤ 16)) : ¬ goodF L := fun g => h (goodF_at g hk)
theorem good_of {L : Is} (h : ∀ j, j < L.length → 1 ≤ L.getD j 0 ∧ L.getD j 0 ≤ 16) : goodF L := good_all fun j hj => decide_eq_false (fun g => g (h j hj))
/-- while the first k are good -/
theorem fi_bd2 {L : Is} : ∀ k, k ≤ L.length → (∀ j, j < k → 1 ≤ L.getD j 0 ∧ L.getD j 0 ≤ 16) → (k : Int) ≤ fi L k ∧ fi L k ≤ 17 * k
  | 0, _, _ => by simp [fi]
  | k + 1, hk, h => by
    have a := fi_bd2 k (by omega) (fun j hj => h j (by omega))
    have b := h k (by omega)
    rw [fi]
    omega
set_option maxRecDepth 100000 in
set_option maxHeartbeats 8000000 in
theorem rlayout_any (A : Option Addr) (c : Nat) (L : Is) (s : Int) (w : World) (h : BsI w A L) (hn : L.length ≤ 9223372036854775807) : Calls Try.prog 25 #[.slice A L.length c, .int .i64 s] w (LyR L s w) := by
  obtain ⟨i0, hi0, hz0, hz1, hz2⟩ := info_parts info3
  by_cases h4 : 4 < L.length
  · have E0 : lE L s = 9 := if_pos h4
    have EN := hide (fun w' (hb : Below w.heap.size w w') => ly_no (L := L) (s := s) (by rw [E0]; omega) hb)
    rw [E0] at EN
    have hgt : (4 : Int) < L.length := by omega
    clear E0 h
    go_enter Try.func25, Try.ntmps25
    go_wp2
    go_ret2
    exact EN.out _ (brefl _)
  · have hgt : ¬ (4 : Int) < L.length := by omega
    have hl4 : L.length ≤ 4 := by omega
    obtain ⟨B, hB⟩ : ∃ B, B = w.heap.size := ⟨_, rfl⟩
    have HB := hide hB
    have K := hide (show Below B w w by rw [hB]; exact brefl _)
    have HR := hide h
    have BAD := hide (fun w' (hg : ¬ (goodF L ∧ 0 ≤ s ∧ s ≤ 64)) (hb : Below w.heap.size w w') => show LyR L s w (.returned (.tuple #[.slice none 0 0, .int .i64 2])) w' from by
      have E0 : lE L s = 2 := by unfold lE; rw [if_neg h4, if_neg hg]
      have := ly_no (L := L) (s := s) (by rw [E0]; omega) hb
      rwa [E0] at this)
    have OKK := hide (fun (hg : goodF L ∧ 0 ≤ s ∧ s ≤ 64) e w' => show (∃ A c, e = .returned (.tuple #[.slice A (L.length + 2) c, .int .i64 0]) ∧ OwI w.heap.size w' (.slice A (L.length + 2) c) (lL L s) ∧ Below w.heap.size w w') → LyR L s w e w' from by
      have E0 : lE L s = 0 := by unfold lE; rw [if_neg h4, if_pos hg]
      have ER : lR L s = lL L s := if_pos E0
      unfold LyR; rw [ER, E0, lL_len]; exact fun h => h)
    rw [← hB] at BAD OKK
    clear hB h h4
    go_enter Try.func25, Try.ntmps25
    go_wp2
    go_loopw [6, 7, 8] (fun a x i wr => ∃ k : Nat, k ≤ L.length ∧ i = .int .i64 k ∧ x = .int .i64 (fi L k) ∧ Hid (∀ j, j < k → 1 ≤ L.getD j 0 ∧ L.getD j 0 ≤ 16) ∧ Hid (OwI B wr a (fl L k)) ∧ Hid (Below B w wr)) (fun _ _ i _ => L.length - (intOf i).toNat)
    case atStart => exact ⟨0, Nat.zero_le _, rfl, rfl, hide (fun j hj => by omega), hide (OwI.nil _ _), K⟩
    case round =>
      clear K
      obtain ⟨k, hk, rfl, rfl, N, O, K⟩ := hrel
      obtain ⟨A1, cap1, ev, hcp⟩ := row_form O.out
      subst ev
      clear hcp
      rw [fl_len] at O ⊢
      have fb := fi_bd2 k hk N.out
      have SA0 : B ≤ wr.heap.size := by have := K.out.size; rw [HB.out]; exact (HB.out ▸ this)
      by_cases hlt : k < L.length
      · have hl2 : (k : Int) < (L.length : Int) := by omega
        have hk0 : (0 : Int) ≤ (k : Int) := by omega
        have RB := hide (show Below w.heap.size w wr by rw [← HB.out]; exact K.out)
        obtain ⟨b, o, rfl, hb, xx⟩ := HR.out.cells RB.out hlt
        by_cases g1 : L.getD k 0 < 1
        · have NG := hide (show ¬ (goodF L ∧ 0 ≤ s ∧ s ≤ 64) from fun h => not_good hlt (by omega) h.1)
          generalize L.getD k 0 = z at *
          go_wp2
          go_ret2
          exact BAD.out _ NG.out K.out
        · by_cases g2 : 16 < L.getD k 0
          · have NG := hide (show ¬ (goodF L ∧ 0 ≤ s ∧ s ≤ 64) from fun h => not_good hlt (by omega) h.1)
            generalize L.getD k 0 = z at *
            go_wp2
            go_ret2
            exact BAD.out _ NG.out K.out
          · have N2 := hide (show ∀ j, j < k + 1 → 1 ≤ L.getD j 0 ∧ L.getD j 0 ≤ 16 from fun j hj => by
              by_cases e : j = k
              · rw [e]; omega
              · exact N.out j (by omega))
            have EF := hide (fl_succ L k)
            have EX := hide (show fi L (k + 1) = fi L k + (1 + L.getD k 0) from rfl)
            clear N
            generalize L.getD k 0 = z at *
            generalize fi L k = x at *
            have wz : IntKind.i64.wrap (1 + z) = 1 + z := by rw [IntKind.wrap_i64]; omega
            have wx : IntKind.i64.wrap (x + (1 + z)) = x + (1 + z) := by rw [IntKind.wrap_i64]; omega
            have M := bal (brefl wr) (.cells #[.int .i64 x] 3)
            have OA := hide (show (wr.alloc (.cells #[.int .i64 x] 3)).ownsRow B 3 1 (.slice A1 k cap1) k ((fl L k).map ic) by
              have := row_below O.out M
              rwa [fl_len] at this)
            have NB := hide (cell_one_new wr (.int .i64 x) 3)
            have SA := hide (show B ≤ (wr.alloc (.cells #[.int .i64 x] 3)).heap.size by rw [alloc_size']; omega)
            have KA := hide (K.out.trans (M.mono SA0))
            clear M O K SA0 fb
            go_upto_region 11 with (at_builtin; refine wpList_append_own_at _ rfl (.tmp 30) (.tmp 32) 38 rfl B 3 i0 _ 1 8 Try.underlying38 hi0 hz0 hz1 hz2 rfl (by omega) (.slice A1 k cap1) k ((fl L k).map ic) rfl OA.out ⟨wr.heap.size, 0, none⟩ 1 1 [.int .i64 x] rfl rfl NB.out (by intro u hu; rw [List.mem_singleton.1 hu]; rfl) (by simp only [maxLen]; omega) (by omega) SA.out ?_; intro v4 w4 hown4 hg4 _ hat4; obtain ⟨A4, cp4, ev4, _⟩ := row_form hown4; subst ev4)
            have O := hide (show OwI B w4 (.slice A4 (k + 1) cp4) (fl L (k + 1)) by
              unfold OwI
              rw [fl_len, EF.out, List.map_append]
              exact hown4)
            have B4 := below_grown OA.out hg4 SA.out
            have K := hide (KA.out.trans B4)
            have x4 : w4.cell? ⟨b, o + k, none⟩ = some (.int .i64 z) := by
              have R4 : Below w.heap.size w w4 := by rw [← HB.out]; exact K.out
              exact (R4.cell (p := ⟨b, o + k, none⟩) hb).trans ((RB.out.cell (p := ⟨b, o + k, none⟩) hb).symm.trans xx)
            clear B4 hown4 hg4 hat4 OA NB SA KA EF xx RB
            go_wp2
            go_roundw
            case rel => first | exact ⟨k + 1, by omega, by go_num, by rw [EX.out], N2, O, K⟩ | ((repeat apply Exists.intro); exact ⟨⟨k + 1, by omega, by go_num, by rw [EX.out], N2, O, K⟩, rfl⟩)
            case measure => simp [intOf]; omega
      · obtain rfl : k = L.length := by omega
        have HG := hide (good_of N.out)
        by_cases hs1 : s < 0
        · have NG := hide (show ¬ (goodF L ∧ 0 ≤ s ∧ s ≤ 64) by omega)
          clear O N fb
          go_wp2
          go_ret2
          exact BAD.out _ NG.out K.out
        · by_cases hs2 : 64 < s
          · have NG := hide (show ¬ (goodF L ∧ 0 ≤ s ∧ s ≤ 64) by omega)
            clear O N fb
            go_wp2
            go_ret2
            exact BAD.out _ NG.out K.out
          · have OK := hide (OKK.out ⟨HG.out, by omega, by omega⟩)
            have EF := hide (show lL L s = fl L L.length ++ [fi L L.length, fi L L.length + s] from rfl)
            clear BAD OKK
            generalize fi L L.length = x at *
            have wx : IntKind.i64.wrap (x + s) = x + s := by rw [IntKind.wrap_i64]; omega
            have M := bal (brefl wr) (.cells #[.int .i64 x, .int .i64 (x + s)] 3)
            have OA := hide (show (wr.alloc (.cells #[.int .i64 x, .int .i64 (x + s)] 3)).ownsRow B 3 1 (.slice A1 L.length cap1) L.length ((fl L L.length).map ic) by
              have := row_below O.out M
              rwa [fl_len] at this)
            have NB := hide (two_new wr (.int .i64 x) (.int .i64 (x + s)) 3)
            have SA := hide (show B ≤ (wr.alloc (.cells #[.int .i64 x, .int .i64 (x + s)] 3)).heap.size by rw [alloc_size']; omega)
            have KA := hide (K.out.trans (M.mono SA0))
            clear M O K SA0 fb N
            go_wp2_with (at_builtin; refine wpList_append_own_at _ rfl (.tmp 47) (.tmp 52) 38 rfl B 3 i0 _ 1 8 Try.underlying38 hi0 hz0 hz1 hz2 rfl (by omega) (.slice A1 L.length cap1) L.length ((fl L L.length).map ic) rfl OA.out ⟨wr.heap.size, 0, none⟩ 2 2 [.int .i64 x, .int .i64 (x + s)] rfl rfl NB.out (by intro u hu; simp at hu; rcases hu with rfl | rfl <;> rfl) (by simp only [maxLen]; omega) (by omega) SA.out ?_; intro v4 w4 hown4 hg4 _ hat4; obtain ⟨A4, cp4, ev4, _⟩ := row_form hown4; subst ev4)
            have O := hide (show OwI B w4 (.slice A4 (L.length + 2) cp4) (lL L s) by
              unfold OwI
              rw [lL_len, EF.out, List.map_append]
              exact hown4)
            have B4 := below_grown OA.out hg4 SA.out
            have K := hide (KA.out.trans B4)
            clear B4 hown4 hg4 hat4 OA NB SA KA EF
            go_ret2
            exact OK.out _ _ ⟨_, _, rfl, O.out, K.out⟩
end Go.Proofs.Ytncdilkcblakhaa.In
