import Derived.Test.YtncjicggolmofaaCl
namespace Go.Proofs.Ytncjicggolmofaa.Sb
open Go Go.RowKit
set_option linter.unusedVariables false
set_option linter.unusedSimpArgs false
/-- k frames in a row -/
def nx (f : Int) : Nat → Is
  | 0 => []
  | k + 1 => nx f k ++ [f + (k : Int)]
theorem nx_len (f : Int) : ∀ k, (nx f k).length = k
  | 0 => rfl
  | k + 1 => by unfold nx; rw [List.length_append, nx_len f k]; rfl
/-- how many: n, at most 60 -/
def nxN (n : Int) : Nat := min n.toNat 60
set_option maxRecDepth 100000 in
set_option maxHeartbeats 4000000 in
theorem next_any (f n : Int) (w : World) (hf : 0 ≤ f ∧ f ≤ 1000000) : Calls Try.prog 30 #[.int .i64 f, .int .i64 n] w fun e w' => (∃ A2 c2, e = .returned (.slice A2 (nx f (nxN n)).length c2) ∧ OwI w.heap.size w' (.slice A2 (nx f (nxN n)).length c2) (nx f (nxN n))) ∧ Below w.heap.size w w' := by
  obtain ⟨i0, hi0, hz0, hz1, hz2⟩ := info_parts info3
  obtain ⟨B, hB⟩ : ∃ B, B = w.heap.size := ⟨_, rfl⟩
  have HB := hide hB
  clear hB
  go_enter Try.func30, Try.ntmps30
  go_wp2
  go_loopw [5, 6] (fun a i wr => ∃ k : Nat, k ≤ nxN n ∧ i = .int .i64 k ∧ Hid (OwI B wr a (nx f k)) ∧ Hid (Below B w wr)) (fun _ i _ => nxN n - (intOf i).toNat)
  case atStart => exact ⟨0, Nat.zero_le _, rfl, hide (ow_nil _ _), hide (Below.refl _ _)⟩
  case round =>
    obtain ⟨k, hk, rfl, O, K⟩ := hrel
    obtain ⟨A1, cap1, ev, hcp⟩ := row_form O.out
    subst ev
    clear hcp
    have hk60 : k ≤ 60 := Nat.le_trans hk (Nat.min_le_right _ _)
    have HN := hide (show nxN n = min n.toNat 60 from rfl)
    by_cases hlt : k < nxN n
    · have hl2 : (k : Int) < n := by have := HN.out; omega
      have hl3 : (k : Int) < 60 := by have := HN.out; omega
      have EH := hide (show nx f (k + 1) = nx f k ++ [f + (k : Int)] from rfl)
      go_upto_region 5 with fail
      have M := bal (brefl wr) (.cells #[.int .i64 (f + (k : Int))] 3)
      have OA := hide (row_below O.out M)
      have NB := hide (cell_one_new wr (.int .i64 (f + (k : Int))) 3)
      have SA0 : B ≤ wr.heap.size := by have := K.out.size; rw [HB.out]; exact (HB.out ▸ this)
      have SA := hide (show B ≤ (wr.alloc (.cells #[.int .i64 (f + (k : Int))] 3)).heap.size by rw [alloc_size']; omega)
      have KA := hide (K.out.trans (M.mono SA0))
      clear M O K SA0
      obtain ⟨l1, hl1⟩ : ∃ l1, l1 = nx f k := ⟨_, rfl⟩
      obtain ⟨m1, hm1⟩ : ∃ m1, m1 = l1.length := ⟨_, rfl⟩
      have hfl : m1 ≤ 1000 := by rw [hm1, hl1]; exact by rw [nx_len]; omega
      rw [← hl1, ← hm1] at OA
      rw [← hl1] at EH
      rw [← hl1, ← hm1]
      have HLM := hide hm1
      clear hl1 hm1
      go_upto_region 4 with (at_builtin; refine wpList_append_own_at _ rfl (.tmp 16) (.tmp 20) 35 rfl B 3 i0 _ 1 8 Try.underlying35 hi0 hz0 hz1 hz2 rfl (by omega) (.slice A1 m1 cap1) m1 (l1.map ic) rfl OA.out ⟨wr.heap.size, 0, none⟩ 1 1 [.int .i64 (f + (k : Int))] rfl rfl NB.out (by intro u hu; rw [List.mem_singleton.1 hu]; rfl) (by simp only [maxLen]; omega) (by omega) SA.out ?_; intro v4 w4 hown4 hg4 _ hat4; obtain ⟨A4, cp4, ev4, _⟩ := row_form hown4; subst ev4)
      have e3 : (nx f (k + 1)).length = m1 + 1 := by rw [EH.out, List.length_append, ← HLM.out]; rfl
      have O := hide (show OwI B w4 (.slice A4 (m1 + 1) cp4) (nx f (k + 1)) by
        unfold OwI
        rw [e3, EH.out, List.map_append]
        exact hown4)
      have B4 := below_grown OA.out hg4 SA.out
      have K := hide (KA.out.trans B4)
      rw [← e3] at O ⊢
      clear B4 hown4 hg4 hat4 OA NB SA KA e3 hfl HLM
      go_wp2
      go_roundw
      case rel => first | exact ⟨k + 1, by omega, by go_num, O, K⟩ | ((repeat apply Exists.intro); exact ⟨⟨k + 1, by omega, by go_num, O, K⟩, rfl⟩)
      case measure => simp [intOf]; omega
    · obtain rfl : k = nxN n := by omega
      have HO := hide (row_mono O.out (show w.heap.size ≤ B from Nat.le_of_eq HB.out.symm))
      have HK := hide (show Below w.heap.size w wr from HB.out ▸ K.out)
      clear O K hlt hk
      by_cases h1 : (nxN n : Int) < n
      · have h2 : ¬ (nxN n : Int) < 60 := by have := HN.out; omega
        have d2 : decide ((nxN n : Int) < 60) = false := decide_eq_false h2
        go_wp2
        go_ret
        exact ⟨⟨_, _, rfl, HO.out⟩, HK.out⟩
      · have d1 : decide ((nxN n : Int) < n) = false := decide_eq_false h1
        go_wp2
        go_ret
        exact ⟨⟨_, _, rfl, HO.out⟩, HK.out⟩
end Go.Proofs.Ytncjicggolmofaa.Sb
