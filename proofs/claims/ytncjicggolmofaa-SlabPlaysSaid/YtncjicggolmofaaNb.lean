import Derived.Test.YtncjicggolmofaaFn2
import Derived.Maps.AppendAt
namespace Go.Proofs.Ytncjicggolmofaa.Sb
open Go Go.RowKit
set_option linter.unusedVariables false
set_option linter.unusedSimpArgs false
/-- the numbers of the objects among the first k of a slab whose flag is b -/
def nb (f m : Int) (l : By) (b : Bool) : Nat → Is
  | 0 => []
  | k + 1 => if l.getD k false = b then nb f m l b k ++ [f * m + (k : Int)] else nb f m l b k
theorem nb_1 {f m : Int} {l : By} {b : Bool} {k : Nat} (h : l.getD k false = b) : nb f m l b (k + 1) = nb f m l b k ++ [f * m + (k : Int)] := if_pos h
theorem nb_0 {f m : Int} {l : By} {b : Bool} {k : Nat} (h : l.getD k false ≠ b) : nb f m l b (k + 1) = nb f m l b k := if_neg h
theorem nb_len (f m : Int) (l : By) (b : Bool) : ∀ k, (nb f m l b k).length ≤ k
  | 0 => Nat.le_refl _
  | k + 1 => by
    have ih := nb_len f m l b k
    unfold nb
    split
    · rw [List.length_append]; simp; omega
    · omega
theorem nb_cnt (f m : Int) (l : By) : ∀ k, k ≤ l.length → (nb f m l true k).length = cnt (l.take k)
  | 0, _ => rfl
  | k + 1, hk => by
    have ih := nb_cnt f m l k (by omega)
    rw [cnt_next (show k < l.length by omega), ← ih]
    cases h : l.getD k false
    · rw [nb_0 (by rw [h]; decide)]; simp
    · rw [nb_1 h]; simp
theorem nb_all (f m : Int) (l : By) : (nb f m l true l.length).length = cnt l := by
  have := nb_cnt f m l l.length (Nat.le_refl _)
  rwa [List.take_length] at this
set_option maxRecDepth 100000 in
set_option maxHeartbeats 4000000 in
theorem nums_any (f : Int) (A : Option Addr) (c : Nat) (l : By) (ub : Bool) (w : World) (h : Bs w A l) (hf : 0 ≤ f ∧ f < 256) (hn : l.length ≤ 32) : Calls Try.prog 37 #[.agg #[.int .i64 f, .slice A l.length c], .bool ub] w fun e w' => (∃ A2 c2, e = .returned (.slice A2 (nb f l.length l ub l.length).length c2) ∧ OwI w.heap.size w' (.slice A2 (nb f l.length l ub l.length).length c2) (nb f l.length l ub l.length)) ∧ Below w.heap.size w w' := by
  obtain ⟨i0, hi0, hz0, hz1, hz2⟩ := info_parts info3
  have KF := hide (bal (brefl w) (.cells #[.int .i64 f, .slice A l.length c] 52))
  have X2 := hide (Box.new w 52 #[.int .i64 f, .slice A l.length c])
  obtain ⟨W0, hW0⟩ : ∃ W0, W0 = (w.alloc (.cells #[.int .i64 f, .slice A l.length c] 52)) := ⟨_, rfl⟩
  rw [← hW0] at X2 KF
  obtain ⟨g2, hg2⟩ : ∃ g2, g2 = w.heap.size := ⟨_, rfl⟩
  rw [← hg2] at X2
  have HL := hide (h.below KF.out)
  obtain ⟨B, hB⟩ : ∃ B, B = W0.heap.size := ⟨_, rfl⟩
  have HB := hide hB
  obtain ⟨m, hm⟩ : ∃ m : Int, m = (l.length : Int) := ⟨_, rfl⟩
  have HM := hide hm
  have x0 := X2.out.cell 0
  have x1 := X2.out.cell 1
  simp at x0 x1
  rw [← hm]
  clear h hB hm
  go_enter Try.func37, Try.ntmps37
  go_upto_region 1 with fail
  rw [← hg2, ← hW0]
  clear hg2 hW0
  go_wp2
  clear x0 x1
  go_loopw [5, 11] (fun a i wr => ∃ k : Nat, k ≤ l.length ∧ i = .int .i64 k ∧ Hid (OwI B wr a (nb f m l ub k)) ∧ Hid (Below B W0 wr)) (fun _ i _ => l.length - (intOf i).toNat)
  case atStart => exact ⟨0, Nat.zero_le _, rfl, hide (ow_nil _ _), hide (Below.refl _ _)⟩
  case round =>
    obtain ⟨k, hk, rfl, O, K⟩ := hrel
    obtain ⟨A1, cap1, ev, hcp⟩ := row_form O.out
    subst ev
    clear hcp
    have hbb : Below W0.heap.size W0 wr := by rw [← HB.out]; exact K.out
    by_cases hlt : k < l.length
    · have hl2 : (k : Int) < (l.length : Int) := by omega
      have hk0 : (0 : Int) ≤ (k : Int) := by omega
      obtain ⟨b, o, rfl, _, xx⟩ := HL.out.cells hbb hlt
      have x0 := (X2.out.below hbb).cell 0
      have x1 := (X2.out.below hbb).cell 1
      simp at x0 x1
      clear hbb
      by_cases he : l.getD k false = ub
      · have EH := hide (nb_1 (f := f) (m := m) he)
        rw [he] at xx
        clear he
        have hprod : 0 ≤ f * m ∧ f * m ≤ 8192 := by
          have h1 : m = ((l.length : Nat) : Int) := HM.out
          constructor
          · exact Int.mul_nonneg hf.1 (by omega)
          · have h2 : f * m ≤ 256 * m := Int.mul_le_mul_of_nonneg_right (by omega) (by omega)
            omega
        have hm1 : (l.length : Int) = m := HM.out.symm
        obtain ⟨pr, hpr⟩ : ∃ pr, pr = f * m := ⟨_, rfl⟩
        have hpr2 : f * (l.length : Int) = pr := by rw [hpr, hm1]
        have HPR := hide hpr
        rw [← hpr] at EH hprod
        clear hpr hm1
        go_upto_region 6 with fail
        clear xx
        have M := bal (brefl wr) (.cells #[.int .i64 (pr + (k : Int))] 3)
        have OA := hide (row_below O.out M)
        have NB := hide (cell_one_new wr (.int .i64 (pr + (k : Int))) 3)
        have SA0 : B ≤ wr.heap.size := by have := K.out.size; rw [HB.out]; exact (HB.out ▸ this)
        have SA := hide (show B ≤ (wr.alloc (.cells #[.int .i64 (pr + (k : Int))] 3)).heap.size by rw [alloc_size']; omega)
        have KA := hide (K.out.trans (M.mono SA0))
        clear M O K SA0
        obtain ⟨l1, hl1⟩ : ∃ l1, l1 = nb f m l ub k := ⟨_, rfl⟩
        obtain ⟨m1, hm1⟩ : ∃ m1, m1 = l1.length := ⟨_, rfl⟩
        have hfl : m1 ≤ 1000 := by rw [hm1, hl1]; exact by have := nb_len f m l ub k; omega
        rw [← hl1, ← hm1] at OA
        rw [← hl1] at EH
        rw [← hl1, ← hm1]
        have HLM := hide hm1
        clear hl1 hm1
        go_upto_region 7 with (at_builtin; refine wpList_append_own_at _ rfl (.tmp 19) (.tmp 28) 35 rfl B 3 i0 _ 1 8 Try.underlying35 hi0 hz0 hz1 hz2 rfl (by omega) (.slice A1 m1 cap1) m1 (l1.map ic) rfl OA.out ⟨wr.heap.size, 0, none⟩ 1 1 [.int .i64 (pr + (k : Int))] rfl rfl NB.out (by intro u hu; rw [List.mem_singleton.1 hu]; rfl) (by simp only [maxLen]; omega) (by omega) SA.out ?_; intro v4 w4 hown4 hg4 _ hat4; obtain ⟨A4, cp4, ev4, _⟩ := row_form hown4; subst ev4)
        have e3 : (nb f m l ub (k + 1)).length = m1 + 1 := by rw [EH.out, List.length_append, ← HLM.out]; rfl
        have O := hide (show OwI B w4 (.slice A4 (m1 + 1) cp4) (nb f m l ub (k + 1)) by
          unfold OwI
          rw [e3, EH.out, List.map_append]
          exact hown4)
        have B4 := below_grown OA.out hg4 SA.out
        have K := hide (KA.out.trans B4)
        rw [← e3] at O ⊢
        clear B4 hown4 hg4 hat4 OA NB SA KA e3 hfl HLM
        go_wp2
        go_roundw
        case rel => first | exact ⟨k + 1, by omega, by go_num, O, K⟩ | ((repeat apply Exists.intro); exact ⟨⟨k + 1, by omega, by go_num, O, K⟩, rfl⟩)
        case measure => simp [intOf]; omega
      · have EH := nb_0 (f := f) (m := m) he
        have dn : (l.getD k false == ub) = false := by simpa using he
        rw [← EH] at O ⊢
        clear he EH
        generalize l.getD k false = fb at *
        go_wp2
        go_roundw
        case rel => first | exact ⟨k + 1, by omega, by go_num, O, K⟩ | ((repeat apply Exists.intro); exact ⟨⟨k + 1, by omega, by go_num, O, K⟩, rfl⟩)
        case measure => simp [intOf]; omega
    · obtain rfl : k = l.length := by omega
      go_wp2
      go_ret
      exact ⟨⟨_, _, rfl, row_mono O.out (by rw [HB.out]; exact KF.out.size)⟩, KF.out.trans (K.out.mono (by rw [HB.out]; exact KF.out.size))⟩
end Go.Proofs.Ytncjicggolmofaa.Sb
