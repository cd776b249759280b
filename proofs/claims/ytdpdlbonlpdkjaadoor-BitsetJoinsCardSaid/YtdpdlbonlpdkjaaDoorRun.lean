import Derived.Test.YtdpdlbonlpdkjaaDoorSet
import Derived.Test.YtdpdlbonlpdkjaaDoorMath6
import Derived.Deep.LoopGhost
import Derived.WalkMore
namespace Go.Proofs.YtdpdlbonlpdkjaaDoor.Bs
open Go Go.RowKit
set_option linter.unusedVariables false
theorem run_no (s q a e0 : Int) (A : Option Addr) (ws : List Nat) (c : Nat) (on : Bool) (w : World) (hr : Wd w A ws) (hw : ∀ x ∈ ws, x < 2 ^ 64) (hn : ws.length ≤ 9223372036854775807) (he : chk s ws = e0) (h : (e0 == 0) = false ∨ (e0 = 0 ∧ q < 1) ∨ (e0 = 0 ∧ 1 ≤ q ∧ a < 1)) :
    Calls Tryd.prog 24 #[.agg #[.int .i64 s, .slice A ws.length c], .int .i64 q, .int .i64 a, .bool on] w fun e w' => e = .returned (.int .i64 (-1)) ∧ Below w.heap.size w w' := by
  have hr' : Wd (w.alloc (.cells #[.int .i64 s, .slice A ws.length c] 24)) A ws := hr.below (bal (brefl _) _)
  have HC := check_any s A ws c _ hr' hw hn
  rw [he] at HC
  have HCC := hide HC
  clear hw hr hr' HC he
  rcases h with h | ⟨rfl, h⟩ | ⟨rfl, h, h'⟩
  · have h2 : (e0 != 0) = true := by rw [bne, h]; rfl
    go_enter Tryd.func24, Tryd.ntmps24
    go_wp2
    go_step3
    go_wp2_with (go_at_call 14; refine HCC.out.mono ?_; rintro e w1 ⟨rfl, hb1⟩; obtain ⟨hc1, hf1⟩ := bcell hb1)
    try rw [Exit.noGoto_ret]
    go_ret
    exact ⟨rfl, btrans (bal (brefl _) _) hb1⟩
  all_goals
    go_enter Tryd.func24, Tryd.ntmps24
    go_wp2
    go_step3
    go_wp2_with (go_at_call 14; refine HCC.out.mono ?_; rintro e w1 ⟨rfl, hb1⟩; obtain ⟨hc1, hf1⟩ := bcell hb1)
    try rw [Exit.noGoto_ret]
    go_ret
    exact ⟨rfl, btrans (bal (brefl _) _) hb1⟩
def RunEnd (ws : List Nat) (S q a : Nat) (on : Bool) (w : World) (e : Ending) (w' : World) : Prop := ∃ r : Int, e = .returned (.int .i64 r) ∧ RunIs ws S q a on r ∧ Below w.heap.size w w'
theorem next_form (k u a : Nat) (hk : k * 64 + u ≤ 4096) (hle : ((k * 64 + u) / a + 1) * a ≤ 9223372036854775807) :
    wrap64 (wrap64 (((k : Int) * 64 + ((u : Int) + 1) - 1) / (a : Int) + 1) * (a : Int)) = ((((k * 64 + u) / a + 1) * a : Nat) : Int) := by
  have e1 : ((k : Int) * 64 + ((u : Int) + 1) - 1) = ((k * 64 + u : Nat) : Int) := by omega
  have hd : (k * 64 + u) / a ≤ 4096 := Nat.le_trans (Nat.div_le_self _ _) hk
  rw [e1, ← Int.natCast_ediv]
  generalize (k * 64 + u) / a = d at *
  have e2 : wrap64 ((d : Int) + 1) = ((d + 1 : Nat) : Int) := by unfold wrap64; omega
  rw [e2, ← Int.natCast_mul]
  generalize (d + 1) * a = m at *
  unfold wrap64
  omega
theorem frun_good (S q a : Nat) (A : Option Addr) (ws : List Nat) (c : Nat) (on : Bool) (w : World) (hr : Wd w A ws) (hw : ∀ x ∈ ws, x < 2 ^ 64) (he : chk (S : Int) ws = 0) (hq : 1 ≤ q) (hq2 : q ≤ 9223372036854775807) (ha : 1 ≤ a) (ha2 : a ≤ 9223372036854775807) :
    Calls Tryd.prog 24 #[.agg #[.int .i64 S, .slice A ws.length c], .int .i64 q, .int .i64 a, .bool on] w (RunEnd ws S q a on w) := by
  obtain ⟨v1, v2, v3, v4⟩ := valid_len he
  have hS1 : S ≤ 64 * ws.length := by omega
  have hS2 : S ≤ 4096 := by omega
  have hb0 : Below w.heap.size w (w.alloc (.cells #[.int .i64 (S : Int), .slice A ws.length c] 24)) := bal (brefl _) _
  have hr' := hr.below hb0
  have HC := check_any S A ws c _ hr' hw (by omega)
  rw [he] at HC
  have HW : ∀ wr, Below (w.heap.size + 1) (w.alloc (.cells #[.int .i64 (S : Int), .slice A ws.length c] 24)) wr → Wd wr A ws ∧ Below w.heap.size w wr := fun wr hb =>
    ⟨hr'.below (by simpa using hb), btrans hb0 (by simpa using hb)⟩
  have HCC := hide HC
  have HWW := hide HW
  have HX := hide hw
  clear hr hr' HC he HW hw hb0 v2 v3 v4
  go_enter Tryd.func24, Tryd.ntmps24
  go_wp2
  go_step3
  go_wp2_with (go_at_call 14; refine HCC.out.mono ?_; rintro e w1 ⟨rfl, hb1⟩; obtain ⟨hc1, hf1⟩ := bcell hb1)
  have HB1 := hide hb1
  clear hb1 hc1 hf1 HCC
  go_step3
  go_wp2
  go_loopg [9] (S + 1) (fun g s9 wr => ∃ st : Nat, S + 1 ≤ st + g ∧ st ≤ 9223372036854775807 ∧ s9 = .int .i64 st ∧ st % a = 0 ∧ noRun ws S q a on st ∧ Below (w.heap.size + 1) (w.alloc (.cells #[.int .i64 (S : Int), .slice A ws.length c] 24)) wr)
  case atStart => exact ⟨0, by omega, by omega, rfl, Nat.zero_mod _, fun p hp => by omega, by simpa using HB1.out⟩
  case round =>
    obtain ⟨g1, rfl⟩ : ∃ g1 : Nat, g1 = gk := ⟨_, rfl⟩
    obtain ⟨wo, rfl⟩ : ∃ wo : World, wo = wr := ⟨_, rfl⟩
    obtain ⟨st, hst, hst2, rfl, hmod, hno, hb⟩ := hrel
    have c0 : wo.cell? ⟨w.heap.size, 0, none⟩ = some (.int .i64 S) := by rw [hb.cell (by show w.heap.size < _; omega)]; simp [go_sem]
    have HB := hide hb
    have HNO := hide hno
    have HMOD := hide hmod
    clear hb hno hmod
    by_cases hfit : st + q ≤ S
    · have hfi : decide ((st : Int) ≤ (S : Int) - (q : Int)) = true := by rw [decide_eq_true]; omega
      go_wp2
      go_loopg [9, 10] 65 (fun g2 s9 s10 wy => s9 = .int .i64 st ∧ ∃ k : Nat, st / 64 ≤ k ∧ k ≤ 64 ∧ 65 ≤ k + g2 ∧ s10 = .int .i64 k ∧ noneTo ws (st + q) st (!on) k ∧ Below (w.heap.size + 1) (w.alloc (.cells #[.int .i64 (S : Int), .slice A ws.length c] 24)) wy)
      case atStart => exact ⟨rfl, st / 64, Nat.le_refl _, by omega, by omega, by go_num, noneTo_start _ _ _ _, HB.out⟩
      case round =>
        obtain ⟨rfl, k, hk, hk64, hg2, rfl, hno2, hb2⟩ := hrel
        have d0 : wr.cell? ⟨w.heap.size, 0, none⟩ = some (.int .i64 S) := by rw [hb2.cell (by show w.heap.size < _; omega)]; simp [go_sem]
        have d1 : wr.cell? ⟨w.heap.size, 1, none⟩ = some (.slice A ws.length c) := by rw [hb2.cell (by show w.heap.size < _; omega)]; simp [go_sem]
        have HB2 := hide hb2
        have HN2 := hide hno2
        clear hb2 hno2 c0
        by_cases hlt : k * 64 < st + q
        · have hkl : k < ws.length := by omega
          obtain ⟨hrr, _⟩ := HWW.out wr HB2.out
          obtain ⟨y, hy⟩ : ∃ y, y = eqW (!on) (ws.getD k 0) := ⟨_, rfl⟩
          obtain ⟨z, hz⟩ : ∃ z, z = foundW ws (st + q) st (!on) k := ⟨_, rfl⟩
          have hzl : z < 2 ^ 64 := by rw [hz]; exact foundW_lt _ _ _ _ _
          have hbit : bits .and .u64 (y : Int) (spanN k st (st + q) : Int) = (z : Int) := by
            rw [hy, hz]
            exact u64_and_nat (eqW (!on) (ws.getD k 0)) (spanN k st (st + q)) (by have := eqW_lt (!on) _ (getD_lt HX.out k); omega) (by have := spanN_lt k st (st + q); omega)
          have HQ : Calls Tryd.prog 40 #[.agg #[.int .i64 S, .slice A ws.length c], .int .i64 (k : Int), .bool (!on)] wr fun e w' => e = .returned (.int .u64 (y : Int)) ∧ Below wr.heap.size wr w' := by
            rw [hy]; exact equal_any S A ws c k (!on) wr hrr HX.out v1 hkl
          have ec : ((st + q : Nat) : Int) = (st : Int) + (q : Int) := by omega
          have HSP : ∀ W, Calls Tryd.prog 34 #[.int .i64 k, .int .i64 st, .int .i64 ((st : Int) + (q : Int))] W fun e w' => e = .returned (.int .u64 (spanN k st (st + q) : Nat)) ∧ ∃ n, w' = W.drewN n := fun W => by
            have := span_any k st (st + q) W (by omega) (by omega) (by omega)
            rw [ec] at this
            exact this
          have HQQ := hide HQ
          have HSS := hide HSP
          have HZ := hide hz
          clear hy HQ hz hrr HSP ec
          by_cases hz : z = 0
          · subst hz
            have hzz : foundW ws (st + q) st (!on) k = 0 := HZ.out.symm
            have HZZ := hide hzz
            clear hzz hzl
            go_wp2_with (first | (go_at_call 40; refine HQQ.out.mono ?_; rintro e w2 ⟨rfl, hb3⟩) | (go_at_call 34; refine (HSS.out _).mono ?_; rintro e w' ⟨rfl, n3, rfl⟩))
            have hbw : Below (w.heap.size + 1) (w.alloc (.cells #[.int .i64 (S : Int), .slice A ws.length c] 24)) w2 := HB2.out.trans (hb3.mono (by simpa using HB2.out.size))
            have HBW := hide hbw
            clear hb3 hbw
            go_roundg (gk - 1)
            case measure => omega
            case rel => exact ⟨rfl, k + 1, by omega, by omega, by omega, by go_num, noneTo_step HX.out HN2.out HZZ.out, below_drewN HBW.out _⟩
          · have n1 : ((z : Int) == 0) = false := by rw [beq_eq_false_iff_ne]; omega
            have n2 : ((z : Int) != 0) = true := by rw [bne, n1]; rfl
            obtain ⟨u, hu, hul, hub⟩ := bitLen_spec hz hzl
            have HL : ∀ W, Calls Tryd.prog 42 #[.int .u64 (z : Int)] W fun e w' => e = .returned (.int .i64 ((u : Int) + 1)) ∧ W = w' := fun W =>
              (Tryd.bits_Len64 z W (by omega) (by omega)).mono fun e w' ⟨a, b⟩ => ⟨by rw [a, Int.toNat_natCast, hu]; rfl, b.symm⟩
            have HLL := hide HL
            rw [HZ.out, testBit_foundW HX.out _ _ _ _ _ hul] at hub
            simp only [Bool.and_eq_true, beq_iff_eq, decide_eq_true_eq] at hub
            obtain ⟨hub1, hub2, hub3⟩ := hub
            have hnext := noRun_next HNO.out hub2 hub3 hub1
            have hmodn := next_mod (k * 64 + u) a
            have hgtn := next_gt (last := k * 64 + u) ha
            have hlen := next_le (last := k * 64 + u) ha (by omega) ha2
            have HNX := hide (And.intro hnext hmodn)
            have HUB := hide hub1
            clear HL hu hz hzl hnext hmodn hub1
            go_wp2_with (first | (go_at_call 40; refine HQQ.out.mono ?_; rintro e w2 ⟨rfl, hb3⟩) | (go_at_call 34; refine (HSS.out _).mono ?_; rintro e w' ⟨rfl, n3, rfl⟩) | (go_at_call 42; refine (HLL.out _).mono ?_; rintro e w' ⟨rfl, rfl⟩))
            have hbw : Below (w.heap.size + 1) (w.alloc (.cells #[.int .i64 (S : Int), .slice A ws.length c] 24)) w2 := HB2.out.trans (hb3.mono (by simpa using HB2.out.size))
            have hnf := next_form k u a (by omega) hlen
            generalize ((k * 64 + u) / a + 1) * a = st' at *
            go_roundg (g1 - 1)
            case measure => omega
            case rel => exact ⟨st', by omega, hlen, by rw [hnf], HNX.out.2, HNX.out.1, below_drewN hbw _⟩
        · go_wp2
          try rw [Exit.noGoto_ret]
          go_ret
          exact ⟨_, rfl, .inr ⟨st, rfl, HMOD.out, hfit, fun i h1 h2 => onTo_of_none HN2.out i h1 h2 (by omega), HNO.out⟩, (HWW.out wr HB2.out).2⟩
    · go_wp2
      try rw [Exit.noGoto_ret]
      go_ret
      exact ⟨_, rfl, .inl ⟨rfl, fun p h1 h2 => HNO.out p (by omega) h1 h2⟩, (HWW.out wo HB.out).2⟩
end Go.Proofs.YtdpdlbonlpdkjaaDoor.Bs
