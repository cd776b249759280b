import Derived.Test.YtnegigcjeoenmaaPg1
namespace Go.Proofs.Ytnegigcjeoenmaa.Dv
open Go Go.RowKit
set_option linter.unusedVariables false
/-- blocks in a call's own memory -/
def BsR (L : List By) (w : World) (e : Ending) (w' : World) : Prop := ∃ v, e = .returned v ∧ OwnB w.heap.size w' v L ∧ Below w.heap.size w w'
set_option maxHeartbeats 1000000 in
theorem blocks_any (n : Nat) (hn : n ≤ 1000) (w : World) : Calls Try.prog 35 #[.int .i64 n] w (BsR (List.replicate n (pg 0)) w) := by
  obtain ⟨i0, hi0, hz0, hz1, hz2⟩ := info_parts info35
  go_enter Try.func35, Try.ntmps35
  go_wp2
  go_loopw [3, 5] (fun o i wr => ∃ k : Nat, k ≤ n ∧ i = .int .i64 k ∧ Hid (OwnB w.heap.size wr o (List.replicate k (pg 0))) ∧ Hid (Below w.heap.size w wr)) (fun _ i _ => n - (intOf i).toNat)
  case atStart => exact ⟨0, Nat.zero_le _, rfl, hide (OwnB.nil _ _), hide (brefl _)⟩
  case round =>
    obtain ⟨k, hk, rfl, HO, K⟩ := hrel
    by_cases hlt : k < n
    · have hlt' : (k : Int) < (n : Int) := by omega
      have C := hide (page_any 0 wr)
      unfold ByR at C
      go_wp2_with fail
      refine C.out.mono ?_
      rintro e w1 ⟨u, rfl, hu, hb⟩
      have O0 := HO.out.below hb
      obtain ⟨R, hR, hrow, hro⟩ := O0
      rw [List.length_replicate] at hrow
      have hRk : R.length = k := by have := congrArg List.length hR; simpa using this
      obtain ⟨A1, n1, rfl, _⟩ := row_form hrow
      obtain ⟨A3, d3, rfl⟩ := hu.form
      have K1 := hide (btrans K.out hb)
      have O1 := hide (row_below hrow (bal (brefl w1) (.cells #[.slice A3 (pg 0).length d3] 35)))
      have K2 := hide (bal K1.out (.cells #[.slice A3 (pg 0).length d3] 35))
      have HU := hide (hu.below (bal (brefl w1) (.cells #[.slice A3 (pg 0).length d3] 35)))
      have HR := hide (fun r hr => (hro r hr).below (bal (brefl w1) (.cells #[.slice A3 (pg 0).length d3] 35)))
      have NW := hide (show ∀ j u, [Value.slice A3 (pg 0).length d3][j]? = some u → (w1.alloc (.cells #[.slice A3 (pg 0).length d3] 35)).cell? ((⟨w1.heap.size, 0, none⟩ : Addr).add j) = some u from by
        intro j u hu
        rw [add_at', Nat.zero_add, (Box.new w1 35 #[.slice A3 (pg 0).length d3]).cell]
        simpa using hu)
      have EL := hide (show List.replicate (k + 1) (pg 0) = R.map Prod.fst ++ [pg 0] by rw [hR, List.replicate_succ'])
      clear hrow hro hu hb
      rw [pg_len] at O1 K2 HU HR NW ⊢
      go_wp2_with (at_builtin; refine wpList_append_own _ rfl (.tmp 7) (.tmp 9) _ rfl w.heap.size 35 i0 _ 1 24 Try.underlying22 hi0 hz0 hz1 hz2 rfl (by omega) (.slice A1 k n1) k _ rfl O1.out ⟨w1.heap.size, 0, none⟩ 1 1 [.slice A3 32 d3] rfl rfl NW.out (by intro u hu; simp at hu; subst hu; rfl) (by simp only [maxLen]; omega) (by omega) K2.out.size ?_; intro v1 w2 hown1 hg1 hat1; have HB := hide (K2.out.trans (row_grown O1.out hg1 K2.out.size)); have HM := hide (OwnB.push (l := pg 0) HR.out HU.out hRk O1.out hown1 (kp_grown O1.out hg1 K2.out.size)); clear hown1 hg1 hat1)
      go_wp2
      go_roundw
      case rel => exact ⟨k + 1, by omega, by go_num, hide (by rw [EL.out]; exact HM.out), HB⟩
      case measure => simp [intOf]; omega
    · obtain rfl : k = n := by omega
      go_wp2
      go_ret
      exact ⟨_, rfl, HO.out, K.out⟩
end Go.Proofs.Ytnegigcjeoenmaa.Dv
