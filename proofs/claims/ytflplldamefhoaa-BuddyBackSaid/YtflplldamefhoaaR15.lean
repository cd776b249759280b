import Derived.Test.YtflplldamefhoaaR10
import Derived.Test.YtflplldamefhoaaR6
namespace Go.Proofs.Ytflplldamefhoaa.Bd
open Go Go.RowKit
set_option linter.unusedVariables false
/-- the free frames below n, ascending -/
def fr (L : Fl) : Nat → Is
  | 0 => []
  | n + 1 => if 0 < cn L 5 n then fr L n ++ [(n : Int)] else fr L n
def frs (p : Pm) (L : Fl) : Is := if chk p L = 0 then fr L 256 else []
theorem fr_len (L : Fl) : ∀ n, (fr L n).length ≤ n
  | 0 => Nat.le_refl _
  | n + 1 => by
    have ih := fr_len L n
    unfold fr
    split
    · rw [List.length_append]; simp; omega
    · omega
theorem fr_mem {L : Fl} {x : Int} : ∀ {n : Nat}, x ∈ fr L n ↔ ∃ m : Nat, m < n ∧ x = m ∧ 0 < cn L 5 m
  | 0 => by simp [fr]
  | n + 1 => by
    unfold fr
    by_cases h : 0 < cn L 5 n
    · rw [if_pos h, List.mem_append, fr_mem, List.mem_singleton]
      constructor
      · rintro (⟨m, h1, h2, h3⟩ | e)
        · exact ⟨m, by omega, h2, h3⟩
        · exact ⟨n, by omega, e, h⟩
      · rintro ⟨m, h1, h2, h3⟩
        by_cases e : m = n
        · rw [e] at h2; exact .inr h2
        · exact .inl ⟨m, by omega, h2, h3⟩
    · rw [if_neg h, fr_mem]
      constructor
      · rintro ⟨m, h1, h2, h3⟩; exact ⟨m, by omega, h2, h3⟩
      · rintro ⟨m, h1, h2, h3⟩
        by_cases e : m = n
        · rw [e] at h3; exact absurd h3 h
        · exact ⟨m, by omega, h2, h3⟩
theorem fr_srt (L : Fl) : ∀ n, Srt (fr L n)
  | 0 => List.Pairwise.nil
  | n + 1 => by
    unfold fr
    split
    · refine List.pairwise_append.2 ⟨fr_srt L n, List.pairwise_singleton _ _, fun a ha b hb => ?_⟩
      obtain ⟨m, h1, h2, _⟩ := fr_mem.1 ha
      rw [List.mem_singleton.1 hb, h2]
      omega
    · exact fr_srt L n
set_option maxRecDepth 100000 in
set_option maxHeartbeats 8000000 in
theorem rframes_any (p : Pm) (v : Nat → Value) (L : Fl) (w : World) (hz : ZIn w p v L) : Calls Try.prog 33 #[.agg (znC p v)] w fun e w' => ∃ u, e = .returned u ∧ OwI w.heap.size w' u (frs p L) ∧ Below w.heap.size w w' := by
  have X := hide (Box.new w 25 (znC p v))
  have K0 := hide (bal (brefl w) (.cells (znC p v) 25))
  obtain ⟨res, hres⟩ : ∃ r, r = frs p L := ⟨_, rfl⟩
  rw [← hres]
  have HRes := hide hres
  obtain ⟨g, hg⟩ : ∃ g, g = w.heap.size := ⟨_, rfl⟩
  have HG := hide hg
  obtain ⟨W0, hW0⟩ : ∃ W0, W0 = (w.alloc (.cells (znC p v) 25)) := ⟨_, rfl⟩
  rw [← hg, ← hW0] at X
  rw [← hW0] at K0
  have CH := hide (rcheck_any p v L W0 (hz.below K0.out))
  have HZ := hide hz
  clear hz hres
  by_cases hc : chk p L = 0
  · have E := hide (show res = fr L 256 by rw [HRes.out]; unfold frs; rw [if_pos hc])
    obtain ⟨hp, V⟩ := chk_zero.1 hc
    have RS := hide (fun w1 (hb : Below w.heap.size w w1) => rset_any p v L w1 hp V.toLst (HZ.out.rd.below hb))
    unfold ZS at RS
    rw [hc] at CH
    obtain ⟨i0, hi0, hz0, hz1, hz2⟩ := info_parts info3
    clear hc hp V HRes
    go_enter Try.func33, Try.ntmps33
    go_upto_region 1 with fail
    rw [← hg, ← hW0]
    clear hg hW0
    go_upto_region 5 with (first | (refine wpList_load_row rfl 25 _ rfl g rfl 25 (znC p v) (0, 0) _ X.out Try.underlying25 rfl (by kernel_rfl) ?_) | (go_at_call 17; refine CH.out.mono ?_; rintro e w1 ⟨rfl, hb⟩; replace X := hide (X.out.below hb); replace K0 := hide (K0.out.trans (hb.mono K0.out.size)); clear hb) | (go_at_call 47; refine (RS.out _ K0.out).mono ?_; rintro e w3 ⟨gs, rfl, ri, hgs, hb⟩; have GX := hide (show g < gs from Nat.lt_of_lt_of_le X.out.lt hgs); have RR := hide ri; clear ri hgs; replace K0 := hide (K0.out.trans (hb.mono K0.out.size)); clear hb))
    have O := hide (show OwI (gs + 1) w3 (.slice none 0 0) (fr L 0) from (ow_zero (gs + 1) w3).row 0 (by omega))
    have SZ := hide (show gs + 1 ≤ w3.heap.size from RR.out.lt)
    clear X CH RS
    go_wp2
    go_loopw [3, 5] (fun a b wr => ∃ k : Nat, k ≤ 256 ∧ b = .int .i64 k ∧ Hid (OwI (gs + 1) wr a (fr L k)) ∧ Hid (RI wr gs (fun x => cn L 5 x)) ∧ Hid (gs + 1 ≤ wr.heap.size) ∧ Hid (Below w.heap.size w wr)) (fun _ b _ => 256 - (intOf b).toNat)
    case atStart => exact ⟨0, by omega, rfl, O, RR, SZ, K0⟩
    case round =>
      clear O RR SZ K0
      obtain ⟨k, hk, rfl, O, RR, SZ, K0⟩ := hrel
      have hfl := fr_len L k
      obtain ⟨A, cap, ev, hcp⟩ := row_form O.out
      subst ev
      by_cases hlt : k < 256
      · have hlt2 : (k : Int) < 256 := by omega
        have cell : wr.cell? ⟨gs, k, none⟩ = some (.int .i64 ((cn L 5 k : Nat) : Int)) := RR.out.cell hlt
        by_cases hi : 0 < cn L 5 k
        · have EK := hide (show fr L (k + 1) = fr L k ++ [(k : Int)] by show (if 0 < cn L 5 k then fr L k ++ [(k : Int)] else fr L k) = _; rw [if_pos hi])
          have d1 : decide (0 < cn L 5 k) = true := decide_eq_true hi
          have M := bal (brefl wr) (.cells #[.int .i64 (k : Int)] 3)
          have OA := hide (row_below O.out M)
          have RA := hide (RR.out.below M)
          have NB := hide (cell_one_new wr (.int .i64 (k : Int)) 3)
          have SA := hide (show gs + 1 ≤ (wr.alloc (.cells #[.int .i64 (k : Int)] 3)).heap.size by rw [alloc_size']; have := SZ.out; omega)
          have KA := hide (btrans K0.out M)
          clear M O RR K0 hi
          obtain ⟨l, hl⟩ : ∃ l, l = fr L k := ⟨_, rfl⟩
          obtain ⟨m, hm⟩ : ∃ m, m = l.length := ⟨_, rfl⟩
          rw [← hl, ← hm] at OA
          rw [← hl] at EK hfl
          rw [← hm] at hfl
          rw [← hl, ← hm]
          have HLM := hide hm
          generalize cn L 5 k = q at *
          clear hl hm hcp
          go_upto_region 7 with (at_builtin; refine wpList_append_own_at _ rfl (.tmp 23) (.tmp 25) 22 rfl (gs + 1) 3 i0 _ 1 8 Try.underlying22 hi0 hz0 hz1 hz2 rfl (by omega) (.slice A m cap) m (l.map ic) rfl OA.out ⟨wr.heap.size, 0, none⟩ 1 1 [.int .i64 (k : Int)] rfl rfl NB.out (by intro u hu; rw [List.mem_singleton.1 hu]; rfl) (by simp only [maxLen]; omega) (by omega) SA.out ?_; intro v4 w4 hown4 hg4 _ hat4; obtain ⟨A4, cp4, ev4, _⟩ := row_form hown4; subst ev4)
          have ou := hide (show OwI (gs + 1) w4 (.slice A4 (m + 1) cp4) (fr L (k + 1)) by
            have e3 : (fr L (k + 1)).length = m + 1 := by rw [EK.out, List.length_append, ← HLM.out]; rfl
            unfold OwI
            rw [e3, EK.out, List.map_append]
            exact hown4)
          have R4 := hide (RA.out.grown OA.out (show gs < gs + 1 by omega) hg4)
          have B4 := below_grown OA.out hg4 SA.out
          have K4 := hide (KA.out.trans (B4.mono (show w.heap.size ≤ gs + 1 by have := GX.out; rw [← HG.out]; omega)))
          have S4 := hide (Nat.le_trans SA.out B4.size)
          clear B4 hown4 hg4 hat4 OA RA NB SA KA
          go_wp2
          go_roundw
          case rel => exact ⟨k + 1, by omega, by go_num, ou, R4, S4, K4⟩
          case measure => simp [intOf]; omega
        · have EK : fr L (k + 1) = fr L k := by show (if 0 < cn L 5 k then fr L k ++ [(k : Int)] else fr L k) = _; rw [if_neg hi]
          have O2 := hide (show OwI (gs + 1) wr (.slice A (fr L k).length cap) (fr L (k + 1)) by rw [EK]; exact O.out)
          have d1 : decide (0 < cn L 5 k) = false := decide_eq_false hi
          generalize cn L 5 k = q at *
          generalize (fr L k).length = m at *
          clear EK hi hcp O
          go_wp2
          go_roundw
          case rel => exact ⟨k + 1, by omega, by go_num, O2, RR, SZ, K0⟩
          case measure => simp [intOf]; omega
      · obtain rfl : k = 256 := by omega
        have O2 := hide (show OwI w.heap.size wr (.slice A (fr L 256).length cap) res by rw [E.out]; exact row_mono O.out (by have := GX.out; rw [← HG.out]; omega))
        generalize (fr L 256).length = m at *
        clear O hcp
        go_wp2
        go_ret
        exact ⟨_, rfl, O2.out, K0.out⟩
  · have E := hide (show res = [] by rw [HRes.out]; unfold frs; rw [if_neg hc])
    have hne : (chk p L != 0) = true := by simpa using hc
    generalize chk p L = ce at *
    clear hc
    go_enter Try.func33, Try.ntmps33
    go_upto_region 1 with fail
    rw [← hg, ← hW0]
    clear hg hW0
    go_wp2_with (first | (refine wpList_load_row rfl 25 _ rfl g rfl 25 (znC p v) (0, 0) _ X.out Try.underlying25 rfl (by kernel_rfl) ?_) | (go_at_call 17; refine CH.out.mono ?_; rintro e w1 ⟨rfl, hb⟩; replace X := hide (X.out.below hb); replace K0 := hide (K0.out.trans (hb.mono K0.out.size)); clear hb))
    go_ret
    exact ⟨_, rfl, by rw [E.out]; exact (ow_zero w.heap.size w1).row 0 (by omega), K0.out⟩
end Go.Proofs.Ytflplldamefhoaa.Bd
