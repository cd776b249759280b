import Derived.Test.YtdpdlbonlpdkjaaDoorClone
import Derived.Test.YtdpdlbonlpdkjaaDoorMath2
import Derived.Deep.RegionWith
import Derived.RegionTactic
namespace Go.Proofs.YtdpdlbonlpdkjaaDoor.Bs
open Go Go.RowKit
set_option linter.unusedVariables false
def zeroBits : Value := .agg #[.int .i64 0, .slice none 0 0]
theorem fill_far (s f t e0 : Int) (A : Option Addr) (ws : List Nat) (c : Nat) (on : Bool) (w : World) (hr : Wd w A ws) (hw : ∀ x ∈ ws, x < 2 ^ 64) (hn : ws.length ≤ 9223372036854775807) (he : chk s ws = e0) (h : (e0 == 0) = false) :
    Calls Tryd.prog 21 #[.agg #[.int .i64 s, .slice A ws.length c], .int .i64 f, .int .i64 t, .bool on] w fun e w' => e = .returned (.tuple #[.agg #[.int .i64 0, .slice none 0 0], .int .i64 e0]) ∧ Below w.heap.size w w' := by
  have hr' : Wd ((w.alloc (.cells #[.int .i64 s, .slice A ws.length c] 24)).alloc (.cells #[.int .i64 0, .slice none 0 0] 24)) A ws := hr.below (bal (bal (brefl _) _) _)
  have HC := check_any s A ws c _ hr' hw hn
  rw [he] at HC
  have HCC := hide HC
  have h2 : (e0 != 0) = true := by rw [bne, h]; rfl
  clear hw hr hr' HC he
  go_enter Tryd.func21, Tryd.ntmps21
  go_wp2_with (go_at_call 14; refine HCC.out.mono ?_; rintro e w1 ⟨rfl, hb1⟩; obtain ⟨hc1, hf1⟩ := bcell hb1)
  have hbw := btrans (bal (bal (brefl w) (.cells #[.int .i64 s, .slice A ws.length c] 24)) (.cells #[.int .i64 0, .slice none 0 0] 24)) hb1
  refine bodyPost_ret (v := .tuple #[.agg #[.int .i64 0, .slice none 0 0], .int .i64 e0]) (by simp [results, Tryd.results21, go_sem, hc1]) rfl ⟨rfl, ?_⟩
  repeat (first | exact hbw | refine bset ?_ (by simp) _)
theorem fill_range (s f t : Int) (A : Option Addr) (ws : List Nat) (c : Nat) (on : Bool) (w : World) (hr : Wd w A ws) (hw : ∀ x ∈ ws, x < 2 ^ 64) (hn : ws.length ≤ 9223372036854775807) (he : chk s ws = 0) (h : ¬ (0 ≤ f ∧ f ≤ t ∧ t ≤ s)) :
    Calls Tryd.prog 21 #[.agg #[.int .i64 s, .slice A ws.length c], .int .i64 f, .int .i64 t, .bool on] w fun e w' => e = .returned (.tuple #[.agg #[.int .i64 0, .slice none 0 0], .int .i64 2]) ∧ Below w.heap.size w w' := by
  have hr' : Wd ((w.alloc (.cells #[.int .i64 s, .slice A ws.length c] 24)).alloc (.cells #[.int .i64 0, .slice none 0 0] 24)) A ws := hr.below (bal (bal (brefl _) _) _)
  have HC := check_any s A ws c _ hr' hw hn
  rw [he] at HC
  have HCC := hide HC
  have HR : ∀ W, Calls Tryd.prog 38 #[.agg #[.int .i64 s, .slice A ws.length c], .int .i64 f, .int .i64 t] W fun e w' => e = .returned (.bool false) ∧ Below W.heap.size W w' := fun W => by
    have := isRange s f t A ws.length c W
    rw [decide_eq_false h] at this
    exact this
  have HRR := hide HR
  clear hw hr hr' HC he HR h
  go_enter Tryd.func21, Tryd.ntmps21
  go_wp2_with (first | (go_at_call 14; refine HCC.out.mono ?_; rintro e w1 ⟨rfl, hb1⟩; obtain ⟨hc1, hf1⟩ := bcell hb1) | (go_at_call 38; refine (HRR.out _).mono ?_; rintro e w2 ⟨rfl, hb2'⟩; have hb2 := btrans hb1 hb2'; clear hb2'; obtain ⟨hc2, hf2⟩ := bcell hb2))
  have hbw := btrans (bal (bal (brefl w) (.cells #[.int .i64 s, .slice A ws.length c] 24)) (.cells #[.int .i64 0, .slice none 0 0] 24)) hb2
  refine bodyPost_ret (v := .tuple #[.agg #[.int .i64 0, .slice none 0 0], .int .i64 2]) (by simp [results, Tryd.results21, go_sem, hc2]) rfl ⟨rfl, ?_⟩
  repeat (first | exact hbw | refine bset ?_ (by simp) _)
theorem Mine.mono {B B' : Nat} {w : World} {A : Option Addr} {ws : List Nat} (h : Mine B w A ws) (hB : B' ≤ B) : Mine B' w A ws := fun hn => by
  obtain ⟨g, e, hg, ho⟩ := h hn
  exact ⟨g, e, Nat.le_trans hB hg, ho⟩
theorem mine_set {B : Nat} {w : World} {g k x q : Nat} {zs : List Nat} (hg : B ≤ g) (ho : Own w g zs) : Mine B ((w.drewN q).setCell ⟨g, k, none⟩ (.int .u64 (x : Int))) (some ⟨g, 0, none⟩) (zs.set k x) := fun _ =>
  ⟨g, rfl, hg, (ho.drewN q).set_ k x⟩
theorem mine_far {B : Nat} {w : World} {A : Option Addr} {zs : List Nat} (h : Mine B w A zs) {p : Addr} (hp : p.block < B) (u : Value) : Mine B (w.setCell p u) A zs := fun hn => by
  obtain ⟨g, e, hg, ho⟩ := h hn
  exact ⟨g, e, hg, ho.far (by omega) u⟩
theorem fill_on (S lo hi : Nat) (A : Option Addr) (ws : List Nat) (c : Nat) (w : World) (hr : Wd w A ws) (hw : ∀ x ∈ ws, x < 2 ^ 64) (hn : ws.length ≤ 64) (he : chk (S : Int) ws = 0) (h1 : lo ≤ hi) (h2 : hi ≤ S) (hS : S ≤ 64 * ws.length) (h40 : S ≤ 4096) :
    Calls Tryd.prog 21 #[.agg #[.int .i64 S, .slice A ws.length c], .int .i64 lo, .int .i64 hi, .bool true] w fun e w' => ∃ A' c' zs, e = .returned (.tuple #[.agg #[.int .i64 S, .slice A' ws.length c'], .int .i64 0]) ∧ filled ws zs lo hi true ∧ Mine w.heap.size w' A' zs ∧ Below w.heap.size w w' := by
  obtain ⟨W0, hW0⟩ : ∃ W0 : World, W0 = (w.alloc (.cells #[.int .i64 S, .slice A ws.length c] 24)).alloc (.cells #[.int .i64 0, .slice none 0 0] 24) := ⟨_, rfl⟩
  have hb0 : Below w.heap.size w W0 := by rw [hW0]; exact bal (bal (brefl _) _) _
  have hr' : Wd W0 A ws := hr.below hb0
  have HC := check_any S A ws c _ hr' hw (by omega)
  rw [he] at HC
  have HR : ∀ W, Calls Tryd.prog 38 #[.agg #[.int .i64 S, .slice A ws.length c], .int .i64 lo, .int .i64 hi] W fun e w' => e = .returned (.bool true) ∧ Below W.heap.size W w' := fun W => by
    have := isRange S lo hi A ws.length c W
    rw [decide_eq_true (by omega)] at this
    exact this
  have HK : ∀ W, Below W0.heap.size W0 W → Calls Tryd.prog 39 #[.slice A ws.length c] W fun e w' => ∃ A' c', e = .returned (.slice A' ws.length c') ∧ Mine W.heap.size w' A' ws ∧ Below W.heap.size W w' := fun W hb => clone_any A ws c W (hr'.below hb) hn
  rw [hW0] at HC HK
  have HCC := hide HC
  have HRR := hide HR
  have HKK := hide HK
  have HW := hide hw
  clear hr hr' HC he HR HK hw hb0 hW0
  clear W0
  go_enter Tryd.func21, Tryd.ntmps21
  go_wp2_with (first | (go_at_call 14; refine HCC.out.mono ?_; rintro e w1 ⟨rfl, hb1⟩; obtain ⟨hc1, hf1⟩ := bcell hb1) | (go_at_call 38; refine (HRR.out _).mono ?_; rintro e w2 ⟨rfl, hb2'⟩; have hb2 := btrans hb1 hb2'; clear hb2'; obtain ⟨hc2, hf2⟩ := bcell hb2) | (go_at_call 39; refine (HKK.out _ hb2).mono ?_; rintro e w3 ⟨A3, c3, rfl, hm3, hb3'⟩; have hb3 := btrans hb2 hb3'; obtain ⟨hc3, hf3⟩ := bcell hb3))
  have hm0 : Mine (w.heap.size + 1 + 1) w3 A3 ws := hm3.mono (by simpa using hb2.size)
  have HM0 := hide hm0
  have HB3 := hide hb3
  clear hm3 hb1 hb2 hb3 hb3' hc1 hc2 hc3 hf1 hf2 hf3 hm0 HCC HRR HKK
  go_loopw [30] (fun i wr => ∃ (k : Nat) (zs : List Nat), k ≤ ws.length ∧ i = .int .i64 k ∧ fillTo ws zs lo hi true k ∧ Mine (w.heap.size + 1 + 1) wr A3 zs ∧ Below (w.heap.size + 1 + 1) ((w.alloc (.cells #[.int .i64 (S : Int), .slice A ws.length c] 24)).alloc (.cells #[.int .i64 0, .slice none 0 0] 24)) wr) (fun i _ => ws.length - (intOf i).toNat)
  case atStart => exact ⟨0, ws, Nat.zero_le _, rfl, fillTo_start HW.out, HM0.out, by simpa using HB3.out⟩
  case round =>
    obtain ⟨k, zs, hk, rfl, hfl, hm, hb⟩ := hrel
    have HB := hide hb
    have HF := hide hfl
    by_cases hlt : k < ws.length
    · obtain ⟨g, rfl, hg, ho⟩ := hm (by rintro rfl; have := hfl.1; simp at this; omega)
      have e1 := ho.cell k _ (getD_of (by rw [hfl.1]; exact hlt))
      have e2 := ho.free k
      have hx := getD_lt hfl.2.1 k
      have hbit := u64_or_nat (zs.getD k 0) (spanN k lo hi) (by omega) (by have := spanN_lt k lo hi; omega)
      have hk63 : k ≤ 63 := by omega
      have HO := hide ho
      have HBIT := hide hbit
      clear hfl hb ho hbit
      obtain ⟨x, hxe⟩ : ∃ x, x = zs.getD k 0 := ⟨_, rfl⟩
      rw [← hxe] at e1
      have HX := hide hxe
      clear hxe
      go_wp2_with fail
      go_region_with ((go_at_call 34; refine (span_any k lo hi _ (by omega) (by omega) (by omega)).mono ?_; rintro e w' ⟨rfl, q, rfl⟩))
      all_goals
        go_wp2
        go_roundw
        case rel =>
          refine ⟨k + 1, _, by omega, by go_num, fillTo_on HF.out hlt, ?_, ?_⟩
          · rw [HX.out, HBIT.out]
            exact mine_set hg HO.out
          · exact (below_drewN HB.out _).setCell hg _
        case measure => simp [intOf]; omega
    · have hke : k = ws.length := by omega
      have hfe : filled ws zs lo hi true := fillTo_end (by rw [← hke]; exact hfl) (by omega)
      have HFE := hide hfe
      have HM := hide hm
      obtain ⟨hcr, hfr⟩ := bcell (W := (w.alloc (.cells #[.int .i64 (S : Int), .slice A ws.length c] 24)).alloc (.cells #[.int .i64 0, .slice none 0 0] 24)) (w1 := wr) (by simpa using hb)
      clear hfl hfe hm hb hke
      go_wp2
      refine bodyPost_ret (v := .tuple #[.agg #[.int .i64 S, .slice A3 ws.length c3], .int .i64 0]) (by simp [results, Tryd.results21, go_sem, hcr]) rfl ⟨A3, c3, zs, rfl, HFE.out, ?_, ?_⟩
      · exact (mine_far (mine_far HM.out (by show w.heap.size + 1 < _; omega) _) (by show w.heap.size + 1 < _; omega) _).mono (by omega)
      · exact bset (bset (btrans (bal (bal (brefl w) (.cells #[.int .i64 (S : Int), .slice A ws.length c] 24)) (.cells #[.int .i64 0, .slice none 0 0] 24)) (by simpa using HB.out)) (by show w.heap.size ≤ w.heap.size + 1; omega) _) (by show w.heap.size ≤ w.heap.size + 1; omega) _
theorem fill_off (S lo hi : Nat) (A : Option Addr) (ws : List Nat) (c : Nat) (w : World) (hr : Wd w A ws) (hw : ∀ x ∈ ws, x < 2 ^ 64) (hn : ws.length ≤ 64) (he : chk (S : Int) ws = 0) (h1 : lo ≤ hi) (h2 : hi ≤ S) (hS : S ≤ 64 * ws.length) (h40 : S ≤ 4096) :
    Calls Tryd.prog 21 #[.agg #[.int .i64 S, .slice A ws.length c], .int .i64 lo, .int .i64 hi, .bool false] w fun e w' => ∃ A' c' zs, e = .returned (.tuple #[.agg #[.int .i64 S, .slice A' ws.length c'], .int .i64 0]) ∧ filled ws zs lo hi false ∧ Mine w.heap.size w' A' zs ∧ Below w.heap.size w w' := by
  obtain ⟨W0, hW0⟩ : ∃ W0 : World, W0 = (w.alloc (.cells #[.int .i64 S, .slice A ws.length c] 24)).alloc (.cells #[.int .i64 0, .slice none 0 0] 24) := ⟨_, rfl⟩
  have hb0 : Below w.heap.size w W0 := by rw [hW0]; exact bal (bal (brefl _) _) _
  have hr' : Wd W0 A ws := hr.below hb0
  have HC := check_any S A ws c _ hr' hw (by omega)
  rw [he] at HC
  have HR : ∀ W, Calls Tryd.prog 38 #[.agg #[.int .i64 S, .slice A ws.length c], .int .i64 lo, .int .i64 hi] W fun e w' => e = .returned (.bool true) ∧ Below W.heap.size W w' := fun W => by
    have := isRange S lo hi A ws.length c W
    rw [decide_eq_true (by omega)] at this
    exact this
  have HK : ∀ W, Below W0.heap.size W0 W → Calls Tryd.prog 39 #[.slice A ws.length c] W fun e w' => ∃ A' c', e = .returned (.slice A' ws.length c') ∧ Mine W.heap.size w' A' ws ∧ Below W.heap.size W w' := fun W hb => clone_any A ws c W (hr'.below hb) hn
  rw [hW0] at HC HK
  have HCC := hide HC
  have HRR := hide HR
  have HKK := hide HK
  have HW := hide hw
  clear hr hr' HC he HR HK hw hb0 hW0
  clear W0
  go_enter Tryd.func21, Tryd.ntmps21
  go_wp2_with (first | (go_at_call 14; refine HCC.out.mono ?_; rintro e w1 ⟨rfl, hb1⟩; obtain ⟨hc1, hf1⟩ := bcell hb1) | (go_at_call 38; refine (HRR.out _).mono ?_; rintro e w2 ⟨rfl, hb2'⟩; have hb2 := btrans hb1 hb2'; clear hb2'; obtain ⟨hc2, hf2⟩ := bcell hb2) | (go_at_call 39; refine (HKK.out _ hb2).mono ?_; rintro e w3 ⟨A3, c3, rfl, hm3, hb3'⟩; have hb3 := btrans hb2 hb3'; obtain ⟨hc3, hf3⟩ := bcell hb3))
  have hm0 : Mine (w.heap.size + 1 + 1) w3 A3 ws := hm3.mono (by simpa using hb2.size)
  have HM0 := hide hm0
  have HB3 := hide hb3
  clear hm3 hb1 hb2 hb3 hb3' hc1 hc2 hc3 hf1 hf2 hf3 hm0 HCC HRR HKK
  go_loopw [30] (fun i wr => ∃ (k : Nat) (zs : List Nat), k ≤ ws.length ∧ i = .int .i64 k ∧ fillTo ws zs lo hi false k ∧ Mine (w.heap.size + 1 + 1) wr A3 zs ∧ Below (w.heap.size + 1 + 1) ((w.alloc (.cells #[.int .i64 (S : Int), .slice A ws.length c] 24)).alloc (.cells #[.int .i64 0, .slice none 0 0] 24)) wr) (fun i _ => ws.length - (intOf i).toNat)
  case atStart => exact ⟨0, ws, Nat.zero_le _, rfl, fillTo_start HW.out, HM0.out, by simpa using HB3.out⟩
  case round =>
    obtain ⟨k, zs, hk, rfl, hfl, hm, hb⟩ := hrel
    have HB := hide hb
    have HF := hide hfl
    by_cases hlt : k < ws.length
    · obtain ⟨g, rfl, hg, ho⟩ := hm (by rintro rfl; have := hfl.1; simp at this; omega)
      have e1 := ho.cell k _ (getD_of (by rw [hfl.1]; exact hlt))
      have e2 := ho.free k
      have hx := getD_lt hfl.2.1 k
      have hbit := u64_andNot_nat (zs.getD k 0) (spanN k lo hi) (by omega) (by have := spanN_lt k lo hi; omega)
      have hk63 : k ≤ 63 := by omega
      have HO := hide ho
      have HBIT := hide hbit
      clear hfl hb ho hbit
      obtain ⟨x, hxe⟩ : ∃ x, x = zs.getD k 0 := ⟨_, rfl⟩
      rw [← hxe] at e1
      have HX := hide hxe
      clear hxe
      go_wp2_with fail
      go_region_with ((go_at_call 34; refine (span_any k lo hi _ (by omega) (by omega) (by omega)).mono ?_; rintro e w' ⟨rfl, q, rfl⟩))
      all_goals
        go_wp2
        go_roundw
        case rel =>
          refine ⟨k + 1, _, by omega, by go_num, fillTo_off HF.out hlt, ?_, ?_⟩
          · rw [HX.out, HBIT.out]
            exact mine_set hg HO.out
          · exact (below_drewN HB.out _).setCell hg _
        case measure => simp [intOf]; omega
    · have hke : k = ws.length := by omega
      have hfe : filled ws zs lo hi false := fillTo_end (by rw [← hke]; exact hfl) (by omega)
      have HFE := hide hfe
      have HM := hide hm
      obtain ⟨hcr, hfr⟩ := bcell (W := (w.alloc (.cells #[.int .i64 (S : Int), .slice A ws.length c] 24)).alloc (.cells #[.int .i64 0, .slice none 0 0] 24)) (w1 := wr) (by simpa using hb)
      clear hfl hfe hm hb hke
      go_wp2
      refine bodyPost_ret (v := .tuple #[.agg #[.int .i64 S, .slice A3 ws.length c3], .int .i64 0]) (by simp [results, Tryd.results21, go_sem, hcr]) rfl ⟨A3, c3, zs, rfl, HFE.out, ?_, ?_⟩
      · exact (mine_far (mine_far HM.out (by show w.heap.size + 1 < _; omega) _) (by show w.heap.size + 1 < _; omega) _).mono (by omega)
      · exact bset (bset (btrans (bal (bal (brefl w) (.cells #[.int .i64 (S : Int), .slice A ws.length c] 24)) (.cells #[.int .i64 0, .slice none 0 0] 24)) (by simpa using HB.out)) (by show w.heap.size ≤ w.heap.size + 1; omega) _) (by show w.heap.size ≤ w.heap.size + 1; omega) _
/-- FILL, in range. -/
theorem fill_good (S lo hi : Nat) (A : Option Addr) (ws : List Nat) (c : Nat) (on : Bool) (w : World) (hr : Wd w A ws) (hw : ∀ x ∈ ws, x < 2 ^ 64) (he : chk (S : Int) ws = 0) (h1 : lo ≤ hi) (h2 : hi ≤ S) :
    Calls Tryd.prog 21 #[.agg #[.int .i64 S, .slice A ws.length c], .int .i64 lo, .int .i64 hi, .bool on] w fun e w' => ∃ A' c' zs, e = .returned (.tuple #[.agg #[.int .i64 S, .slice A' ws.length c'], .int .i64 0]) ∧ filled ws zs lo hi on ∧ Mine w.heap.size w' A' zs ∧ Below w.heap.size w w' := by
  obtain ⟨v1, v2, v3, v4⟩ := valid_len he
  cases on
  · exact fill_off S lo hi A ws c w hr hw v1 he h1 h2 (by omega) (by omega)
  · exact fill_on S lo hi A ws c w hr hw v1 he h1 h2 (by omega) (by omega)
end Go.Proofs.YtdpdlbonlpdkjaaDoor.Bs
