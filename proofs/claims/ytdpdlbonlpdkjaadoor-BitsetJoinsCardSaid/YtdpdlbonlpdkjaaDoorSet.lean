import Derived.Test.YtdpdlbonlpdkjaaDoorRFill
namespace Go.Proofs.YtdpdlbonlpdkjaaDoor.Bs
open Go Go.RowKit
set_option linter.unusedVariables false
theorem set_far (s i e0 : Int) (A : Option Addr) (ws : List Nat) (c : Nat) (on : Bool) (w : World) (hr : Wd w A ws) (hw : ∀ x ∈ ws, x < 2 ^ 64) (hn : ws.length ≤ 9223372036854775807) (he : chk s ws = e0) (h : (e0 == 0) = false) :
    Calls Tryd.prog 17 #[.agg #[.int .i64 s, .slice A ws.length c], .int .i64 i, .bool on] w fun e w' => e = .returned (.tuple #[.agg #[.int .i64 0, .slice none 0 0], .int .i64 e0]) ∧ Below w.heap.size w w' := by
  have hr' : Wd ((w.alloc (.cells #[.int .i64 s, .slice A ws.length c] 24)).alloc (.cells #[.int .i64 0, .slice none 0 0] 24)) A ws := hr.below (bal (bal (brefl _) _) _)
  have HC := fun t => fill_far s i t e0 A ws c on _ hr' hw hn he h
  have HCC := hide HC
  clear hw hr hr' HC he
  go_enter Tryd.func17, Tryd.ntmps17
  go_wp2_with (go_at_call 21; refine (HCC.out _).mono ?_; rintro e w1 ⟨rfl, hb1⟩; obtain ⟨hc1, hf1⟩ := bcell hb1)
  have hbw := btrans (bal (bal (brefl w) (.cells #[.int .i64 s, .slice A ws.length c] 24)) (.cells #[.int .i64 0, .slice none 0 0] 24)) hb1
  refine bodyPost_ret (v := .tuple #[.agg #[.int .i64 0, .slice none 0 0], .int .i64 e0]) (by simp [results, Tryd.results17, go_sem, hc1]) rfl ⟨rfl, ?_⟩
  repeat (first | exact hbw | refine bset ?_ (by simp) _)
theorem set_range (s i : Int) (A : Option Addr) (ws : List Nat) (c : Nat) (on : Bool) (w : World) (hr : Wd w A ws) (hw : ∀ x ∈ ws, x < 2 ^ 64) (hn : ws.length ≤ 9223372036854775807) (he : chk s ws = 0) (hi : -9223372036854775808 ≤ i) (hi2 : i ≤ 9223372036854775807) (h : i < 0 ∨ s ≤ i) :
    Calls Tryd.prog 17 #[.agg #[.int .i64 s, .slice A ws.length c], .int .i64 i, .bool on] w fun e w' => e = .returned (.tuple #[.agg #[.int .i64 0, .slice none 0 0], .int .i64 2]) ∧ Below w.heap.size w w' := by
  have hr' : Wd ((w.alloc (.cells #[.int .i64 s, .slice A ws.length c] 24)).alloc (.cells #[.int .i64 0, .slice none 0 0] 24)) A ws := hr.below (bal (bal (brefl _) _) _)
  have HC := fun t ht => fill_range s i t A ws c on _ hr' hw hn he ht
  have HCC := hide HC
  clear hw hr hr' HC he
  by_cases hm : i ≤ 9223372036854775806
  · go_enter Tryd.func17, Tryd.ntmps17
    go_wp2_with (go_at_call 21; refine (HCC.out _ (by omega)).mono ?_; rintro e w1 ⟨rfl, hb1⟩; obtain ⟨hc1, hf1⟩ := bcell hb1)
    have hbw := btrans (bal (bal (brefl w) (.cells #[.int .i64 s, .slice A ws.length c] 24)) (.cells #[.int .i64 0, .slice none 0 0] 24)) hb1
    refine bodyPost_ret (v := .tuple #[.agg #[.int .i64 0, .slice none 0 0], .int .i64 2]) (by simp [results, Tryd.results17, go_sem, hc1]) rfl ⟨rfl, ?_⟩
    repeat (first | exact hbw | refine bset ?_ (by simp) _)
  · obtain rfl : i = 9223372036854775807 := by omega
    have hwr : wrap64 9223372036854775808 ≤ 0 := by unfold wrap64; omega
    go_enter Tryd.func17, Tryd.ntmps17
    go_wp2_with (go_at_call 21; refine (HCC.out _ (by omega)).mono ?_; rintro e w1 ⟨rfl, hb1⟩; obtain ⟨hc1, hf1⟩ := bcell hb1)
    have hbw := btrans (bal (bal (brefl w) (.cells #[.int .i64 s, .slice A ws.length c] 24)) (.cells #[.int .i64 0, .slice none 0 0] 24)) hb1
    refine bodyPost_ret (v := .tuple #[.agg #[.int .i64 0, .slice none 0 0], .int .i64 2]) (by simp [results, Tryd.results17, go_sem, hc1]) rfl ⟨rfl, ?_⟩
    repeat (first | exact hbw | refine bset ?_ (by simp) _)
theorem set_good (S i : Nat) (A : Option Addr) (ws : List Nat) (c : Nat) (on : Bool) (w : World) (hr : Wd w A ws) (hw : ∀ x ∈ ws, x < 2 ^ 64) (he : chk (S : Int) ws = 0) (h1 : i < S) :
    Calls Tryd.prog 17 #[.agg #[.int .i64 S, .slice A ws.length c], .int .i64 i, .bool on] w fun e w' => ∃ A' c' zs, e = .returned (.tuple #[.agg #[.int .i64 S, .slice A' ws.length c'], .int .i64 0]) ∧ filled ws zs i (i + 1) on ∧ Mine w.heap.size w' A' zs ∧ Below w.heap.size w w' := by
  obtain ⟨v1, v2, v3, v4⟩ := valid_len he
  have hS2 : S ≤ 4096 := by omega
  have hr' : Wd ((w.alloc (.cells #[.int .i64 S, .slice A ws.length c] 24)).alloc (.cells #[.int .i64 0, .slice none 0 0] 24)) A ws := hr.below (bal (bal (brefl _) _) _)
  have HC := fill_good S i (i + 1) A ws c on _ hr' hw he (by omega) (by omega)
  have ec : ((i + 1 : Nat) : Int) = (i : Int) + 1 := by omega
  rw [ec] at HC
  have HCC := hide HC
  clear hw hr hr' HC he ec
  go_enter Tryd.func17, Tryd.ntmps17
  go_wp2_with (go_at_call 21; refine HCC.out.mono ?_; rintro e w1 ⟨A1, c1, zs, rfl, hfl, hm1, hb1⟩; obtain ⟨hc1, hf1⟩ := bcell hb1)
  have hbw := btrans (bal (bal (brefl w) (.cells #[.int .i64 S, .slice A ws.length c] 24)) (.cells #[.int .i64 0, .slice none 0 0] 24)) hb1
  refine bodyPost_ret (v := .tuple #[.agg #[.int .i64 S, .slice A1 ws.length c1], .int .i64 0]) (by simp [results, Tryd.results17, go_sem, hc1]) rfl ⟨A1, c1, zs, rfl, hfl, ?_, ?_⟩
  · exact (mine_far (mine_far (hm1.mono (B' := w.heap.size + 1 + 1) (by simp)) (by show w.heap.size + 1 < _; omega) _) (by show w.heap.size + 1 < _; omega) _).mono (by omega)
  · repeat (first | exact hbw | refine bset ?_ (by simp) _)
theorem rset_far (s i e0 : Int) (A : Option Addr) (ws : List Nat) (c : Nat) (on : Bool) (w : World) (hr : Wd w A ws) (hw : ∀ x ∈ ws, x < 2 ^ 64) (he : chk s ws = e0) (h : (e0 == 0) = false) :
    Calls Tryd.prog 18 #[.agg #[.int .i64 s, .slice A ws.length c], .int .i64 i, .bool on] w fun e w' => e = .returned (.tuple #[.agg #[.int .i64 0, .slice none 0 0], .int .i64 e0]) ∧ Below w.heap.size w w' := by
  have hr' : Wd ((w.alloc (.cells #[.int .i64 s, .slice A ws.length c] 24)).alloc (.cells #[.int .i64 0, .slice none 0 0] 24)) A ws := hr.below (bal (bal (brefl _) _) _)
  have HC := rcheck_any s A ws c _ hr' hw
  rw [he] at HC
  have HCC := hide HC
  have h2 : (e0 != 0) = true := by rw [bne, h]; rfl
  clear hw hr hr' HC he
  go_enter Tryd.func18, Tryd.ntmps18
  go_wp2_with (go_at_call 15; refine HCC.out.mono ?_; rintro e w1 ⟨rfl, hb1⟩; obtain ⟨hc1, hf1⟩ := bcell hb1)
  have hbw := btrans (bal (bal (brefl w) (.cells #[.int .i64 s, .slice A ws.length c] 24)) (.cells #[.int .i64 0, .slice none 0 0] 24)) hb1
  refine bodyPost_ret (v := .tuple #[.agg #[.int .i64 0, .slice none 0 0], .int .i64 e0]) (by simp [results, Tryd.results18, go_sem, hc1]) rfl ⟨rfl, ?_⟩
  repeat (first | exact hbw | refine bset ?_ (by simp) _)
theorem rset_range (s i : Int) (A : Option Addr) (ws : List Nat) (c : Nat) (on : Bool) (w : World) (hr : Wd w A ws) (hw : ∀ x ∈ ws, x < 2 ^ 64) (he : chk s ws = 0) (h : i < 0 ∨ s ≤ i) :
    Calls Tryd.prog 18 #[.agg #[.int .i64 s, .slice A ws.length c], .int .i64 i, .bool on] w fun e w' => e = .returned (.tuple #[.agg #[.int .i64 0, .slice none 0 0], .int .i64 2]) ∧ Below w.heap.size w w' := by
  have hr' : Wd ((w.alloc (.cells #[.int .i64 s, .slice A ws.length c] 24)).alloc (.cells #[.int .i64 0, .slice none 0 0] 24)) A ws := hr.below (bal (bal (brefl _) _) _)
  have HC := rcheck_any s A ws c _ hr' hw
  rw [he] at HC
  have HCC := hide HC
  clear hw hr hr' HC he
  rcases h with h | h
  all_goals
    go_enter Tryd.func18, Tryd.ntmps18
    go_wp2_with (go_at_call 15; refine HCC.out.mono ?_; rintro e w1 ⟨rfl, hb1⟩; obtain ⟨hc1, hf1⟩ := bcell hb1)
    all_goals have hbw := btrans (bal (bal (brefl w) (.cells #[.int .i64 s, .slice A ws.length c] 24)) (.cells #[.int .i64 0, .slice none 0 0] 24)) hb1
    all_goals refine bodyPost_ret (v := .tuple #[.agg #[.int .i64 0, .slice none 0 0], .int .i64 2]) (by simp [results, Tryd.results18, go_sem, hc1]) rfl ⟨rfl, ?_⟩
    all_goals repeat (first | exact hbw | refine bset ?_ (by simp) _)
theorem rset_good (S i : Nat) (A : Option Addr) (ws : List Nat) (c : Nat) (on : Bool) (w : World) (hr : Wd w A ws) (hw : ∀ x ∈ ws, x < 2 ^ 64) (he : chk (S : Int) ws = 0) (h1 : i < S) :
    Calls Tryd.prog 18 #[.agg #[.int .i64 S, .slice A ws.length c], .int .i64 i, .bool on] w fun e w' => ∃ A' c' zs, e = .returned (.tuple #[.agg #[.int .i64 S, .slice A' ws.length c'], .int .i64 0]) ∧ filled ws zs i (i + 1) on ∧ Mine w.heap.size w' A' zs ∧ Below w.heap.size w w' := by
  obtain ⟨v1, v2, v3, v4⟩ := valid_len he
  have hS1 : S ≤ 64 * ws.length := by omega
  have hS2 : S ≤ 4096 := by omega
  have hne : ws ≠ [] := by rintro rfl; simp at hS1; omega
  obtain ⟨W0, hW0⟩ : ∃ W0 : World, W0 = (w.alloc (.cells #[.int .i64 S, .slice A ws.length c] 24)).alloc (.cells #[.int .i64 0, .slice none 0 0] 24) := ⟨_, rfl⟩
  have hb0 : Below w.heap.size w W0 := by rw [hW0]; exact bal (bal (brefl _) _) _
  have hr' : Wd W0 A ws := hr.below hb0
  have HC := rcheck_any S A ws c _ hr' hw
  rw [he] at HC
  have HK : ∀ W, Below W0.heap.size W0 W → Calls Tryd.prog 36 #[.agg #[.int .i64 S, .slice A ws.length c]] W fun e w' => ∃ A' c', e = .returned (.agg #[.int .i64 S, .slice A' ws.length c']) ∧ Mine W.heap.size w' A' ws ∧ Below W.heap.size W w' := fun W hb => copy_any S A ws c W (hr'.below hb) v1
  rw [hW0] at HC HK
  have HCC := hide HC
  have HKK := hide HK
  have HW := hide hw
  have HN := hide hne
  clear hr hr' HC he HK hw hb0 hW0 v2 v3 v4 hne
  clear W0
  go_enter Tryd.func18, Tryd.ntmps18
  go_wp2_with (first | (go_at_call 15; refine HCC.out.mono ?_; rintro e w1 ⟨rfl, hb1⟩; obtain ⟨hc1, hf1⟩ := bcell hb1) | (go_at_call 36; refine (HKK.out _ hb1).mono ?_; rintro e w3 ⟨A3, c3, rfl, hm3, hb3'⟩; have hb3 := btrans hb1 hb3'; obtain ⟨hc3, hf3⟩ := bcell hb3; obtain ⟨g, rfl, hg, ho⟩ := hm3 HN.out) | fail)
  have hgB : w.heap.size + 1 + 1 ≤ g := Nat.le_trans (by simpa using hb1.size) hg
  have hs3 : w.heap.size + 1 + 1 ≤ w3.heap.size := by simpa using hb3.size
  have hgl := ho.lt
  have HP := put_any (S : Int) ws.length i g c3 ws on _ (ho.alloc (.cells #[.int .i64 (S : Int), .slice (some ⟨g, 0, none⟩) ws.length c3] 24)) HW.out (by omega) rfl v1
  have HB3 : Below (w.heap.size + 1 + 1) ((w.alloc (.cells #[.int .i64 (S : Int), .slice A ws.length c] 24)).alloc (.cells #[.int .i64 0, .slice none 0 0] 24)) w3 := by simpa using hb3
  refine HP.mono ?_
  rintro e w4 ⟨rfl, ho4, hg4⟩
  have hbx : BoxIs w4 w3.heap.size S (.slice (some ⟨g, 0, none⟩) ws.length c3) := (BoxIs.new w3 S _).grown hg4 (by intro e; injection e with e; omega)
  have d0 := hbx.c0
  have d1 := hbx.c1
  have hbw : Below (w.heap.size + 1 + 1) ((w.alloc (.cells #[.int .i64 (S : Int), .slice A ws.length c] 24)).alloc (.cells #[.int .i64 0, .slice none 0 0] 24)) w4 := (HB3.alloc hs3 _).trans (gbelow hg4 hgB (by simp; omega))
  have HBW := hide hbw
  have HO4 := hide ho4
  obtain ⟨hcr, hfr⟩ := bcell (W := (w.alloc (.cells #[.int .i64 (S : Int), .slice A ws.length c] 24)).alloc (.cells #[.int .i64 0, .slice none 0 0] 24)) (w1 := w4) (by simpa using hbw)
  clear hbw hbx ho4 hg4 HP hc1 hf1 hc3 hf3 ho hg hm3 hb3 hb3' hb1 HB3
  go_wp2
  refine bodyPost_ret (v := .tuple #[.agg #[.int .i64 S, .slice (some ⟨g, 0, none⟩) ws.length c3], .int .i64 0]) (by simp [results, Tryd.results18, go_sem, hcr]) rfl ⟨_, c3, _, rfl, filled_put (filled_start HW.out) (Nat.le_refl _) (by omega), ?_, ?_⟩
  · intro hn
    exact ⟨g, rfl, by omega, (HO4.out.far (by show g ≠ w.heap.size + 1; omega) _).far (by show g ≠ w.heap.size + 1; omega) _⟩
  · exact bset (bset (btrans (bal (bal (brefl w) (.cells #[.int .i64 (S : Int), .slice A ws.length c] 24)) (.cells #[.int .i64 0, .slice none 0 0] 24)) (by simpa using HBW.out)) (by show w.heap.size ≤ w.heap.size + 1; omega) _) (by show w.heap.size ≤ w.heap.size + 1; omega) _
end Go.Proofs.YtdpdlbonlpdkjaaDoor.Bs
