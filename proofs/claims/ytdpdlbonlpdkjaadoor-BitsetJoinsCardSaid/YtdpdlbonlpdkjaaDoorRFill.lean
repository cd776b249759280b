import Derived.Test.YtdpdlbonlpdkjaaDoorCopy
namespace Go.Proofs.YtdpdlbonlpdkjaaDoor.Bs
open Go Go.RowKit
set_option linter.unusedVariables false
theorem rfill_far (s f t e0 : Int) (A : Option Addr) (ws : List Nat) (c : Nat) (on : Bool) (w : World) (hr : Wd w A ws) (hw : ∀ x ∈ ws, x < 2 ^ 64) (he : chk s ws = e0) (h : (e0 == 0) = false) :
    Calls Tryd.prog 22 #[.agg #[.int .i64 s, .slice A ws.length c], .int .i64 f, .int .i64 t, .bool on] w fun e w' => e = .returned (.tuple #[.agg #[.int .i64 0, .slice none 0 0], .int .i64 e0]) ∧ Below w.heap.size w w' := by
  have hr' : Wd ((w.alloc (.cells #[.int .i64 s, .slice A ws.length c] 24)).alloc (.cells #[.int .i64 0, .slice none 0 0] 24)) A ws := hr.below (bal (bal (brefl _) _) _)
  have HC := rcheck_any s A ws c _ hr' hw
  rw [he] at HC
  have HCC := hide HC
  have h2 : (e0 != 0) = true := by rw [bne, h]; rfl
  clear hw hr hr' HC he
  go_enter Tryd.func22, Tryd.ntmps22
  go_wp2_with (go_at_call 15; refine HCC.out.mono ?_; rintro e w1 ⟨rfl, hb1⟩; obtain ⟨hc1, hf1⟩ := bcell hb1)
  have hbw := btrans (bal (bal (brefl w) (.cells #[.int .i64 s, .slice A ws.length c] 24)) (.cells #[.int .i64 0, .slice none 0 0] 24)) hb1
  refine bodyPost_ret (v := .tuple #[.agg #[.int .i64 0, .slice none 0 0], .int .i64 e0]) (by simp [results, Tryd.results22, go_sem, hc1]) rfl ⟨rfl, ?_⟩
  repeat (first | exact hbw | refine bset ?_ (by simp) _)
theorem rfill_range (s f t : Int) (A : Option Addr) (ws : List Nat) (c : Nat) (on : Bool) (w : World) (hr : Wd w A ws) (hw : ∀ x ∈ ws, x < 2 ^ 64) (he : chk s ws = 0) (h : ¬ (0 ≤ f ∧ f ≤ t ∧ t ≤ s)) :
    Calls Tryd.prog 22 #[.agg #[.int .i64 s, .slice A ws.length c], .int .i64 f, .int .i64 t, .bool on] w fun e w' => e = .returned (.tuple #[.agg #[.int .i64 0, .slice none 0 0], .int .i64 2]) ∧ Below w.heap.size w w' := by
  have hr' : Wd ((w.alloc (.cells #[.int .i64 s, .slice A ws.length c] 24)).alloc (.cells #[.int .i64 0, .slice none 0 0] 24)) A ws := hr.below (bal (bal (brefl _) _) _)
  have HC := rcheck_any s A ws c _ hr' hw
  rw [he] at HC
  have HCC := hide HC
  have h3 : f < 0 ∨ (0 ≤ f ∧ t < f) ∨ (0 ≤ f ∧ f ≤ t ∧ s < t) := by omega
  clear hw hr hr' HC he h
  rcases h3 with h | ⟨h, h'⟩ | ⟨h, h', h''⟩
  all_goals
    go_enter Tryd.func22, Tryd.ntmps22
    go_wp2_with (go_at_call 15; refine HCC.out.mono ?_; rintro e w1 ⟨rfl, hb1⟩; obtain ⟨hc1, hf1⟩ := bcell hb1)
    have hbw := btrans (bal (bal (brefl w) (.cells #[.int .i64 s, .slice A ws.length c] 24)) (.cells #[.int .i64 0, .slice none 0 0] 24)) hb1
    refine bodyPost_ret (v := .tuple #[.agg #[.int .i64 0, .slice none 0 0], .int .i64 2]) (by simp [results, Tryd.results22, go_sem, hc1]) rfl ⟨rfl, ?_⟩
    repeat (first | exact hbw | refine bset ?_ (by simp) _)
/-- What a slice of the call's own needs to be written: its block, or none where it is empty. -/
theorem mine_row {B : Nat} {w : World} {A : Option Addr} {ws : List Nat} (h : Mine B w A ws) (hB : B ≤ w.heap.size) : ∃ g, B ≤ g ∧ g ≠ w.heap.size ∧ (ws ≠ [] → A = some ⟨g, 0, none⟩ ∧ Own w g ws) := by
  by_cases hn : ws = []
  · exact ⟨w.heap.size + 1, by omega, by omega, fun h => absurd hn h⟩
  · obtain ⟨g, e, hg, ho⟩ := h hn
    exact ⟨g, hg, by have := ho.lt; omega, fun _ => ⟨e, ho⟩⟩
theorem rfill_good (S lo hi : Nat) (A : Option Addr) (ws : List Nat) (c : Nat) (on : Bool) (w : World) (hr : Wd w A ws) (hw : ∀ x ∈ ws, x < 2 ^ 64) (he : chk (S : Int) ws = 0) (h1 : lo ≤ hi) (h2 : hi ≤ S) :
    Calls Tryd.prog 22 #[.agg #[.int .i64 S, .slice A ws.length c], .int .i64 lo, .int .i64 hi, .bool on] w fun e w' => ∃ A' c' zs, e = .returned (.tuple #[.agg #[.int .i64 S, .slice A' ws.length c'], .int .i64 0]) ∧ filled ws zs lo hi on ∧ Mine w.heap.size w' A' zs ∧ Below w.heap.size w w' := by
  obtain ⟨v1, v2, v3, v4⟩ := valid_len he
  have hS1 : S ≤ 64 * ws.length := by omega
  have hS2 : S ≤ 4096 := by omega
  obtain ⟨W0, hW0⟩ : ∃ W0 : World, W0 = (w.alloc (.cells #[.int .i64 S, .slice A ws.length c] 24)).alloc (.cells #[.int .i64 0, .slice none 0 0] 24) := ⟨_, rfl⟩
  have hb0 : Below w.heap.size w W0 := by rw [hW0]; exact bal (bal (brefl _) _) _
  have hr' : Wd W0 A ws := hr.below hb0
  have HC := rcheck_any S A ws c _ hr' hw
  rw [he] at HC
  have HK : ∀ W, Below W0.heap.size W0 W → Calls Tryd.prog 36 #[.agg #[.int .i64 S, .slice A ws.length c]] W fun e w' => ∃ A' c', e = .returned (.agg #[.int .i64 S, .slice A' ws.length c']) ∧ Mine W.heap.size w' A' ws ∧ Below W.heap.size W w' := fun W hb => copy_any S A ws c W (hr'.below hb) v1
  rw [hW0] at HC HK
  have HCC := hide HC
  have HKK := hide HK
  have HW := hide hw
  clear hr hr' HC he HK hw hb0 hW0 v2 v3 v4
  clear W0
  go_enter Tryd.func22, Tryd.ntmps22
  go_wp2_with (first | (go_at_call 15; refine HCC.out.mono ?_; rintro e w1 ⟨rfl, hb1⟩; obtain ⟨hc1, hf1⟩ := bcell hb1) | (go_at_call 36; refine (HKK.out _ hb1).mono ?_; rintro e w3 ⟨A3, c3, rfl, hm3, hb3'⟩; have hb3 := btrans hb1 hb3'; obtain ⟨hc3, hf3⟩ := bcell hb3))
  obtain ⟨g, hgB, hgne, hgo⟩ := mine_row (hm3.mono (B' := w.heap.size + 1 + 1) (by simpa using hb1.size)) (by simpa using hb3.size)
  have HB3 : Below (w.heap.size + 1 + 1) ((w.alloc (.cells #[.int .i64 (S : Int), .slice A ws.length c] 24)).alloc (.cells #[.int .i64 0, .slice none 0 0] 24)) w3 := by simpa using hb3
  have hs3 : w.heap.size + 1 + 1 ≤ w3.heap.size := by simpa using hb3.size
  have HGO := hide hgo
  have HBB := hide HB3
  clear hm3 hb1 hb3 hb3' hc1 hc3 hf1 hf3 hgo HCC HKK HB3
  go_loopw [12] (fun i wr => ∃ (k : Nat) (zs : List Nat), lo ≤ k ∧ k ≤ hi ∧ i = .int .i64 k ∧ filled ws zs lo k on ∧ (ws ≠ [] → Own wr g zs) ∧ (w3.alloc (.cells #[.int .i64 (S : Int), .slice A3 ws.length c3] 24)).grownBy wr (some g)) (fun i _ => hi - (intOf i).toNat)
  case atStart => exact ⟨lo, ws, Nat.le_refl _, h1, rfl, filled_start HW.out, fun h => (HGO.out h).2.alloc _, grefl _ _⟩
  case round =>
    obtain ⟨k, zs, hk1, hk2, rfl, hfl, hown, hgr⟩ := hrel
    have hbx : BoxIs wr w3.heap.size S (.slice A3 ws.length c3) := (BoxIs.new w3 S (.slice A3 ws.length c3)).grown hgr (by intro e; injection e with e; exact hgne e.symm)
    have d0 := hbx.c0
    have d1 := hbx.c1
    have HF := hide hfl
    have HG := hide hgr
    have HO := hide hown
    clear hbx hfl hgr hown
    by_cases hlt : k < hi
    · have hne : ws ≠ [] := by rintro rfl; simp at hS1; omega
      obtain ⟨e3, _⟩ := HGO.out hne
      have HP := put_any (S : Int) ws.length k g c3 zs on wr (HO.out hne) HF.out.2.1 (by rw [HF.out.1]; omega) HF.out.1.symm v1
      have HPP := hide HP
      clear HP hne
      subst e3
      go_wp2_with (go_at_call 37; refine HPP.out.mono ?_; rintro e w4 ⟨rfl, ho4, hg4⟩)
      have HO4 := hide ho4
      have HG4 := hide hg4
      clear ho4 hg4
      go_roundw
      case rel => exact ⟨k + 1, _, by omega, by omega, by go_num, filled_put HF.out hk1 (by omega), fun _ => HO4.out, gtrans HG.out HG4.out⟩
      case measure => simp [intOf]; omega
    · obtain rfl : k = hi := by omega
      have hbw : Below (w.heap.size + 1 + 1) ((w.alloc (.cells #[.int .i64 (S : Int), .slice A ws.length c] 24)).alloc (.cells #[.int .i64 0, .slice none 0 0] 24)) wr := (HBB.out.alloc hs3 _).trans (gbelow HG.out hgB (by simp; omega))
      have HBW := hide hbw
      obtain ⟨hcr, hfr⟩ := bcell (W := (w.alloc (.cells #[.int .i64 (S : Int), .slice A ws.length c] 24)).alloc (.cells #[.int .i64 0, .slice none 0 0] 24)) (w1 := wr) (by simpa using hbw)
      clear hbw
      go_wp2
      refine bodyPost_ret (v := .tuple #[.agg #[.int .i64 S, .slice A3 ws.length c3], .int .i64 0]) (by simp [results, Tryd.results22, go_sem, hcr]) rfl ⟨A3, c3, zs, rfl, HF.out, ?_, ?_⟩
      · intro hn
        have hne : ws ≠ [] := by rintro rfl; have := HF.out.1; simp at this; exact hn this
        exact ⟨g, (HGO.out hne).1, by omega, ((HO.out hne).far (by show g ≠ w.heap.size + 1; omega) _).far (by show g ≠ w.heap.size + 1; omega) _⟩
      · exact bset (bset (btrans (bal (bal (brefl w) (.cells #[.int .i64 (S : Int), .slice A ws.length c] 24)) (.cells #[.int .i64 0, .slice none 0 0] 24)) (by simpa using HBW.out)) (by show w.heap.size ≤ w.heap.size + 1; omega) _) (by show w.heap.size ≤ w.heap.size + 1; omega) _
end Go.Proofs.YtdpdlbonlpdkjaaDoor.Bs
