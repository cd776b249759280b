import Derived.Test.YtdpdlbonlpdkjaaDoorAwake
import Derived.Test.YtdpdlbonlpdkjaaDoorMath7
import Derived.Deep.RegionHeld3
namespace Go.Proofs.YtdpdlbonlpdkjaaDoor.Bs
open Go Go.RowKit
set_option linter.unusedVariables false
theorem not_far (s e0 : Int) (A : Option Addr) (ws : List Nat) (c : Nat) (w : World) (hr : Wd w A ws) (hw : ∀ x ∈ ws, x < 2 ^ 64) (hn : ws.length ≤ 9223372036854775807) (he : chk s ws = e0) (h : (e0 == 0) = false) :
    Calls Tryd.prog 31 #[.agg #[.int .i64 s, .slice A ws.length c]] w fun e w' => e = .returned (.tuple #[.agg #[.int .i64 0, .slice none 0 0], .int .i64 e0]) ∧ Below w.heap.size w w' := by
  have hr' : Wd ((w.alloc (.cells #[.int .i64 s, .slice A ws.length c] 24)).alloc (.cells #[.int .i64 0, .slice none 0 0] 24)) A ws := hr.below (bal (bal (brefl _) _) _)
  have HC := check_any s A ws c _ hr' hw hn
  rw [he] at HC
  have HCC := hide HC
  have h2 : (e0 != 0) = true := by rw [bne, h]; rfl
  clear hw hr hr' HC he
  go_enter Tryd.func31, Tryd.ntmps31
  go_wp2_with (go_at_call 14; refine HCC.out.mono ?_; rintro e w1 ⟨rfl, hb1⟩; obtain ⟨hc1, hf1⟩ := bcell hb1)
  have hbw := btrans (bal (bal (brefl w) (.cells #[.int .i64 s, .slice A ws.length c] 24)) (.cells #[.int .i64 0, .slice none 0 0] 24)) hb1
  refine bodyPost_ret (v := .tuple #[.agg #[.int .i64 0, .slice none 0 0], .int .i64 e0]) (by simp [results, Tryd.results31, go_sem, hc1]) rfl ⟨rfl, ?_⟩
  repeat (first | exact hbw | refine bset ?_ (by simp) _)
def notV (S : Nat) (ws : List Nat) (i : Nat) : Bool := !bitAt ws i && decide (i < S)
set_option maxHeartbeats 1000000 in
theorem not_good (S : Nat) (A : Option Addr) (ws : List Nat) (c : Nat) (w : World) (hr : Wd w A ws) (hw : ∀ x ∈ ws, x < 2 ^ 64) (he : chk (S : Int) ws = 0) :
    Calls Tryd.prog 31 #[.agg #[.int .i64 S, .slice A ws.length c]] w fun e w' => ∃ A' c' zs, e = .returned (.tuple #[.agg #[.int .i64 S, .slice A' ws.length c'], .int .i64 0]) ∧ bitsAre ws.length zs (notV S ws) ∧ Mine w.heap.size w' A' zs ∧ Below w.heap.size w w' := by
  obtain ⟨hn, v2, v3, v4⟩ := valid_len he
  have hS : S ≤ 64 * ws.length := by omega
  have h40 : S ≤ 4096 := by omega
  obtain ⟨W0, hW0⟩ : ∃ W0 : World, W0 = (w.alloc (.cells #[.int .i64 S, .slice A ws.length c] 24)).alloc (.cells #[.int .i64 0, .slice none 0 0] 24) := ⟨_, rfl⟩
  have hb0 : Below w.heap.size w W0 := by rw [hW0]; exact bal (bal (brefl _) _) _
  have hr' : Wd W0 A ws := hr.below hb0
  have HC := check_any S A ws c _ hr' hw (by omega)
  rw [he] at HC
  have HK : ∀ W, Below W0.heap.size W0 W → Calls Tryd.prog 39 #[.slice A ws.length c] W fun e w' => ∃ A' c', e = .returned (.slice A' ws.length c') ∧ Mine W.heap.size w' A' ws ∧ Below W.heap.size W w' := fun W hb => clone_any A ws c W (hr'.below hb) hn
  rw [hW0] at HC HK
  have HCC := hide HC
  have HKK := hide HK
  have HW := hide hw
  clear hr hr' HC he HK hw hb0 hW0 v2 v3 v4
  clear W0
  go_enter Tryd.func31, Tryd.ntmps31
  go_wp2_with (first | (go_at_call 14; refine HCC.out.mono ?_; rintro e w1 ⟨rfl, hb1⟩; obtain ⟨hc1, hf1⟩ := bcell hb1) | (go_at_call 39; refine (HKK.out _ hb1).mono ?_; rintro e w3 ⟨A3, c3, rfl, hm3, hb3'⟩; have hb3 := btrans hb1 hb3'; obtain ⟨hc3, hf3⟩ := bcell hb3))
  have hm0 : Mine (w.heap.size + 1 + 1) w3 A3 ws := hm3.mono (by simpa using hb1.size)
  have HM0 := hide hm0
  have HB3 := hide hb3
  clear hm3 hb1 hb3 hb3' hc1 hc3 hf1 hf3 hm0 HCC HKK
  go_loopw [18] (fun i wr => ∃ (k : Nat) (zs : List Nat), k ≤ ws.length ∧ i = .int .i64 k ∧ wordTo ws zs (notV S ws) k ∧ Mine (w.heap.size + 1 + 1) wr A3 zs ∧ Below (w.heap.size + 1 + 1) ((w.alloc (.cells #[.int .i64 (S : Int), .slice A ws.length c] 24)).alloc (.cells #[.int .i64 0, .slice none 0 0] 24)) wr) (fun i _ => ws.length - (intOf i).toNat)
  case atStart => exact ⟨0, ws, Nat.zero_le _, rfl, wordTo_start HW.out, HM0.out, by simpa using HB3.out⟩
  case round =>
    obtain ⟨k, zs, hk, rfl, hfl, hm, hb⟩ := hrel
    have HB := hide hb
    have HF := hide hfl
    by_cases hlt : k < ws.length
    · obtain ⟨g, rfl, hg, ho⟩ := hm (by rintro rfl; have := hfl.1; simp at this; omega)
      have e1 := ho.cell k _ (getD_of (by rw [hfl.1]; exact hlt))
      have e2 := ho.free k
      rw [wordTo_read hfl HW.out] at e1
      have hx := getD_lt HW.out k
      have hbx := xor_all (ws.getD k 0) hx
      have hbit := u64_and_nat (2 ^ 64 - 1 - ws.getD k 0) (spanN k 0 S) (by omega) (by have := spanN_lt k 0 S; omega)
      have hk63 : k ≤ 63 := by omega
      have c0 : wr.cell? ⟨w.heap.size, 0, none⟩ = some (.int .i64 S) := by rw [hb.cell (by show w.heap.size < _; omega)]; simp [go_sem]
      obtain ⟨z, hz⟩ : ∃ z, z = notW S ws k := ⟨_, rfl⟩
      rw [show (2 ^ 64 - 1 - ws.getD k 0) &&& spanN k 0 S = z by rw [hz]; rfl] at hbit
      obtain ⟨y, hy⟩ : ∃ y, y = 2 ^ 64 - 1 - ws.getD k 0 := ⟨_, rfl⟩
      rw [← hy] at hbx hbit
      obtain ⟨x, hxe⟩ : ∃ x, x = ws.getD k 0 := ⟨_, rfl⟩
      rw [← hxe] at e1 hbx
      have HO := hide ho
      have HZ := hide hz
      have HBX := hide hbx
      have HBIT := hide hbit
      clear hfl hb ho hz hxe hy hx hbx hbit
      have hsg : IntKind.u64.signed = false := rfl
      go_wp2_with fail
      go_region_with ((go_at_call 34; refine (span_0 k S _ (by omega) (by omega)).mono ?_; rintro e w' ⟨rfl, q, rfl⟩))
      all_goals
        go_wp2
        go_roundw
        case rel =>
          refine ⟨k + 1, zs.set k z, by omega, by go_num, wordTo_step HF.out hlt (by rw [HZ.out]; exact notW_lt _ _ _) (fun j hj => by rw [HZ.out]; exact testBit_notW HW.out k j hj), ?_, ?_⟩
          · (try rw [if_neg (by decide : ¬ IntKind.u64.signed = true)]); rw [HBX.out, HBIT.out]
            exact mine_set hg HO.out
          · exact (below_drewN HB.out _).setCell hg _
        case measure => simp [intOf]; omega
    · have hke : k = ws.length := by omega
      have hfe : bitsAre ws.length zs (notV S ws) := wordTo_end (by rw [← hke]; exact hfl)
      have HFE := hide hfe
      have HM := hide hm
      obtain ⟨hcr, hfr⟩ := bcell (W := (w.alloc (.cells #[.int .i64 (S : Int), .slice A ws.length c] 24)).alloc (.cells #[.int .i64 0, .slice none 0 0] 24)) (w1 := wr) (by simpa using hb)
      clear hfl hfe hm hb hke
      go_wp2
      refine bodyPost_ret (v := .tuple #[.agg #[.int .i64 S, .slice A3 ws.length c3], .int .i64 0]) (by simp [results, Tryd.results31, go_sem, hcr]) rfl ⟨A3, c3, zs, rfl, HFE.out, ?_, ?_⟩
      · exact (mine_far (mine_far HM.out (by show w.heap.size + 1 < _; omega) _) (by show w.heap.size + 1 < _; omega) _).mono (by omega)
      · exact bset (bset (btrans (bal (bal (brefl w) (.cells #[.int .i64 (S : Int), .slice A ws.length c] 24)) (.cells #[.int .i64 0, .slice none 0 0] 24)) (by simpa using HB.out)) (by show w.heap.size ≤ w.heap.size + 1; omega) _) (by show w.heap.size ≤ w.heap.size + 1; omega) _
end Go.Proofs.YtdpdlbonlpdkjaaDoor.Bs
