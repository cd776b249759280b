import Derived.Test.YtnegigcjeoenmaaDe1
namespace Go.Proofs.Ytnegigcjeoenmaa.Dv
open Go Go.RowKit
set_option linter.unusedVariables false
set_option maxRecDepth 100000 in
set_option maxHeartbeats 1000000 in
theorem del_any (b c n i : Nat) (L : List PQ) (w : World) (hL : L.length = n + 1) (hi : i ≤ n) (hc : L.length ≤ c) (hm : c ≤ maxLen) (hr : RowQ w b c L) (hP : ∀ r ∈ L, ∃ l : By, ∃ A c, r.2.2.2.2 = .slice A l.length c) :
    Calls Try.prog 51 #[.slice (some ⟨b, 0, none⟩) (n + 1) c, .int .i64 i, .int .i64 ((i : Int) + 1)] w fun e w' => e = .returned (.slice (some ⟨b, 0, none⟩) n c) ∧ RowQ w' b c (L.take i ++ L.drop (i + 1)) ∧ w.grownBy w' (some b) := by
  obtain ⟨i0, hi0, hz0, hz1, hz2⟩ := info_parts info39
  have hr1 : RowQ w.drew b c L := hr
  obtain ⟨news, hnews⟩ : ∃ news, news = cQ (L.drop (i + 1)) := ⟨_, rfl⟩
  obtain ⟨W1, hW1⟩ : ∃ W1, W1 = w.drew.setCells b (i * 4) news := ⟨_, rfl⟩
  obtain ⟨x, hsh⟩ : ∃ x, RowQ W1 b c (L.take i ++ L.drop (i + 1) ++ [x]) := by rw [hW1, hnews]; exact hr1.shift hL hi hc
  have hlen1 : (L.take i ++ L.drop (i + 1)).length = n := by simp; omega
  have hlen2 : (L.take i ++ L.drop (i + 1) ++ [x]).length = n + 1 := by rw [List.length_append, hlen1]; rfl
  obtain ⟨w6, hrun, hr6, hbb⟩ := run_clearQ W1 b c n _ hsh (by omega) (by omega)
  have hb1 : w.grownBy W1 (some b) := by rw [hW1]; have q := setCells_grown b news (i * 4) w.drew; exact ⟨q.os, q.tape, q.output, q.size, q.block⟩
  have K6 := hide (grown_trans hb1 hbb)
  rw [List.take_append_of_le_length (by omega), List.take_of_length_le (by omega)] at hr6
  have O6 := hide hr6
  rw [hlen2, show n + 1 - n = 1 by omega] at hrun
  have hcl := hrun
  have s1 : Hid (news.length = (n - i) * 4) := by rw [hnews, cQ_length, List.length_drop, hL]; congr 1; omega
  have s2 : Hid (∀ u ∈ news, u.oneCell' = true) := by rw [hnews]; exact cQ_one fun r hr => hP r (List.mem_of_mem_drop hr)
  have s3 : Hid (∀ t, t < news.length → (w.drew.cell? ⟨b, 0 + i * 4 + t, none⟩).isSome = true ∧ w.drew.frozen? ⟨b, 0 + i * 4 + t, none⟩ = false) := by
    intro t ht
    rw [s1.out] at ht
    exact ⟨hr1.isSome (by omega) hc, hr1.frozen _⟩
  have hc1 : (1 : Int) ≤ (n : Int) + 1 := by omega
  have hnc : n + 1 ≤ c := by omega
  have hic : i + 1 ≤ c := by omega
  have hin : i < n + 1 := by omega
  unfold maxLen at hm
  have HW := hide (show W1 = w.drew.setCells b (0 + i * 4) news by rw [Nat.zero_add]; exact hW1)
  have hsrc : Hid (∀ t u, news[t]? = some u → w.drew.cell? ⟨b, (i + 1) * 4 + t, none⟩ = some u) := by
    intro t u hu
    rw [hnews, cQ_drop, List.getElem?_drop] at hu
    exact hr1.cell hu
  have N0 := hide (show n = i → news = [] by intro e; have := s1.out; rw [e] at this; simpa using this)
  have hni : (i : Int) ≤ (n : Int) := by omega
  have hne : ((i : Int) == (i : Int) + 1) = false := by rw [beq_eq_false_iff_ne]; omega
  clear hr hr1 hnews hW1 hsh hlen1 hlen2 hrun hr6 hbb hb1 hL hc hP
  rcases (by omega : c = i + 1 ∨ i + 1 < c) with h | h
  · obtain rfl : n = i := by omega
    subst h
    have hn0 := N0.out rfl
    subst hn0
    have hsr : Hid (∀ t u, ([] : List Value)[t]? = some u → w.drew.cell? ((⟨b, 0, none⟩ : Addr).add t) = some u) := fun t u hu => by simp at hu
    have hle : (n : Int) ≤ (n : Int) + 1 := by omega
    have hle0 : (0 : Int) ≤ (n : Int) + 1 := by omega
    clear N0 hsrc
    go_enter Try.func51, Try.ntmps51
    go_wp2_with fail
    go_region_law (refine step_append_room rfl (.tmp 22) (.tmp 25) 26 rfl 39 i0 4 Try.underlying26 hi0 hz1 b 0 n (n + 1) (by simp [Act.eval, Act.put]) ⟨b, 0, none⟩ 0 0 [] (by simp [Act.eval, Act.put]) (by simp) hsr.out s2.out (by omega) s3.out ?_; rw [← HW.out])
    go_wp2
    go_ret
    exact ⟨by simp, O6.out, K6.out⟩
  · have hsr : Hid (∀ t u, news[t]? = some u → w.drew.cell? ((⟨b, (i + 1) * 4, none⟩ : Addr).add t) = some u) := fun t u hu => by rw [add_at']; exact hsrc.out t u hu
    have hci : ¬ c = i + 1 := by omega
    have hic2 : i ≤ c := by omega
    have hle0 : (0 : Int) ≤ (i : Int) + 1 := by omega
    have hic3 : (i : Int) + 1 ≤ (n : Int) + 1 := by omega
    have hnc3 : n ≠ c := by omega
    clear N0 hsrc
    go_enter Try.func51, Try.ntmps51
    go_wp2_with fail
    go_region_law (refine step_append_room rfl (.tmp 22) (.tmp 25) 26 rfl 39 i0 4 Try.underlying26 hi0 hz1 b 0 i c (by simp [Act.eval, Act.put]) ⟨b, (i + 1) * 4, none⟩ (n - i) (c - (i + 1)) news (by simp [Act.eval, Act.put]) s1.out hsr.out s2.out (by omega) s3.out ?_; rw [← HW.out])
    go_wp2
    go_ret
    exact ⟨by simp, O6.out, K6.out⟩
end Go.Proofs.Ytnegigcjeoenmaa.Dv
