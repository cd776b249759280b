import Derived.Test.YtdpdlbonlpdkjaaDoorNot
namespace Go.Proofs.YtdpdlbonlpdkjaaDoor.Bs
open Go Go.RowKit
set_option linter.unusedVariables false
theorem bits_of_put {ws zs : List Nat} {S : Nat} {v : Nat → Bool} (h : putAll ws zs v S) (hc : chk (S : Int) ws = 0) : bitsAre ws.length zs (fun i => v i && decide (i < S)) := by
  obtain ⟨_, _, _, d⟩ := chk_ok.1 hc
  refine ⟨h.1, h.2.1, fun i _ => ?_⟩
  rw [h.2.2 i]
  by_cases c : i < S
  · simp [c]
  · simp [c, d i (by simpa using (by omega : S ≤ i))]
theorem gob {a b : World} {g : Nat} (h : Below a.heap.size a b) : a.grownBy b (some g) := ⟨h.os, h.tape, h.output, h.size, fun k hk _ => h.block k hk⟩
theorem rnot_far (s e0 : Int) (A : Option Addr) (ws : List Nat) (c : Nat) (w : World) (hr : Wd w A ws) (hw : ∀ x ∈ ws, x < 2 ^ 64) (he : chk s ws = e0) (h : (e0 == 0) = false) :
    Calls Tryd.prog 32 #[.agg #[.int .i64 s, .slice A ws.length c]] w fun e w' => e = .returned (.tuple #[.agg #[.int .i64 0, .slice none 0 0], .int .i64 e0]) ∧ Below w.heap.size w w' := by
  have hr' : Wd ((w.alloc (.cells #[.int .i64 s, .slice A ws.length c] 24)).alloc (.cells #[.int .i64 0, .slice none 0 0] 24)) A ws := hr.below (bal (bal (brefl _) _) _)
  have HC := rcheck_any s A ws c _ hr' hw
  rw [he] at HC
  have HCC := hide HC
  have h2 : (e0 != 0) = true := by rw [bne, h]; rfl
  clear hw hr hr' HC he
  go_enter Tryd.func32, Tryd.ntmps32
  go_wp2_with (go_at_call 15; refine HCC.out.mono ?_; rintro e w1 ⟨rfl, hb1⟩; obtain ⟨hc1, hf1⟩ := bcell hb1)
  have hbw := btrans (bal (bal (brefl w) (.cells #[.int .i64 s, .slice A ws.length c] 24)) (.cells #[.int .i64 0, .slice none 0 0] 24)) hb1
  refine bodyPost_ret (v := .tuple #[.agg #[.int .i64 0, .slice none 0 0], .int .i64 e0]) (by simp [results, Tryd.results32, go_sem, hc1]) rfl ⟨rfl, ?_⟩
  repeat (first | exact hbw | refine bset ?_ (by simp) _)
set_option maxHeartbeats 2000000 in
theorem rnot_good (S : Nat) (A : Option Addr) (ws : List Nat) (c : Nat) (w : World) (hr : Wd w A ws) (hw : ∀ x ∈ ws, x < 2 ^ 64) (he : chk (S : Int) ws = 0) :
    Calls Tryd.prog 32 #[.agg #[.int .i64 S, .slice A ws.length c]] w fun e w' => ∃ A' c' zs, e = .returned (.tuple #[.agg #[.int .i64 S, .slice A' ws.length c'], .int .i64 0]) ∧ bitsAre ws.length zs (notV S ws) ∧ Mine w.heap.size w' A' zs ∧ Below w.heap.size w w' := by
  obtain ⟨v1, v2, v3, v4⟩ := valid_len he
  have hS1 : S ≤ 64 * ws.length := by omega
  have hS2 : S ≤ 4096 := by omega
  have HE := hide he
  obtain ⟨W0, hW0⟩ : ∃ W0 : World, W0 = (w.alloc (.cells #[.int .i64 S, .slice A ws.length c] 24)).alloc (.cells #[.int .i64 0, .slice none 0 0] 24) := ⟨_, rfl⟩
  have hb0 : Below w.heap.size w W0 := by rw [hW0]; exact bal (bal (brefl _) _) _
  have hr' : Wd W0 A ws := hr.below hb0
  have HC := rcheck_any S A ws c _ hr' hw
  rw [he] at HC
  have HK : ∀ W, Below W0.heap.size W0 W → Calls Tryd.prog 36 #[.agg #[.int .i64 S, .slice A ws.length c]] W fun e w' => ∃ A' c', e = .returned (.agg #[.int .i64 S, .slice A' ws.length c']) ∧ Mine W.heap.size w' A' ws ∧ Below W.heap.size W w' := fun W hb => copy_any S A ws c W (hr'.below hb) v1
  have HBT : ∀ (k : Nat), k < S → ∀ W, Below W0.heap.size W0 W → Calls Tryd.prog 35 #[.agg #[.int .i64 S, .slice A ws.length c], .int .i64 k] W fun e w' => e = .returned (.bool (bitAt ws k)) ∧ Below W.heap.size W w' := fun k hk W hb => bit_any S A ws c k W (hr'.below hb) hw v1 (by omega)
  rw [hW0] at HC HK HBT
  have HCC := hide HC
  have HKK := hide HK
  have HBB0 := hide HBT
  have HW := hide hw
  clear hr hr' HC he HK hw hb0 hW0 v2 v3 v4 HBT
  clear W0
  go_enter Tryd.func32, Tryd.ntmps32
  go_wp2_with (first | (go_at_call 15; refine HCC.out.mono ?_; rintro e w1 ⟨rfl, hb1⟩; obtain ⟨hc1, hf1⟩ := bcell hb1) | (go_at_call 36; refine (HKK.out _ hb1).mono ?_; rintro e w3 ⟨A3, c3, rfl, hm3, hb3'⟩; have hb3 := btrans hb1 hb3'; obtain ⟨hc3, hf3⟩ := bcell hb3))
  obtain ⟨g, hgB, hgne, hgo⟩ := mine_row (hm3.mono (B' := w.heap.size + 1 + 1) (by simpa using hb1.size)) (by simpa using hb3.size)
  have HB3 : Below (w.heap.size + 1 + 1) ((w.alloc (.cells #[.int .i64 (S : Int), .slice A ws.length c] 24)).alloc (.cells #[.int .i64 0, .slice none 0 0] 24)) w3 := by simpa using hb3
  have hs3 : w.heap.size + 1 + 1 ≤ w3.heap.size := by simpa using hb3.size
  have HGO := hide hgo
  have HBB := hide HB3
  clear hm3 hb1 hb3 hb3' hc1 hc3 hf1 hf3 hgo HCC HKK HB3
  go_loopw [6] (fun i wr => ∃ (k : Nat) (zs : List Nat), k ≤ S ∧ i = .int .i64 k ∧ putAll ws zs (fun i => !bitAt ws i) k ∧ (ws ≠ [] → Own wr g zs) ∧ (w3.alloc (.cells #[.int .i64 (S : Int), .slice A3 ws.length c3] 24)).grownBy wr (some g)) (fun i _ => S - (intOf i).toNat)
  case atStart => exact ⟨0, ws, by omega, rfl, putAll_start HW.out, fun h => (HGO.out h).2.alloc _, grefl _ _⟩
  case round =>
    obtain ⟨k, zs, hk2, rfl, hfl, hown, hgr⟩ := hrel
    have hbx : BoxIs wr w3.heap.size S (.slice A3 ws.length c3) := (BoxIs.new w3 S (.slice A3 ws.length c3)).grown hgr (by intro e; injection e with e; exact hgne e.symm)
    have hbw : Below (w.heap.size + 1 + 1) ((w.alloc (.cells #[.int .i64 (S : Int), .slice A ws.length c] 24)).alloc (.cells #[.int .i64 0, .slice none 0 0] 24)) wr := (HBB.out.alloc hs3 _).trans (gbelow hgr hgB (by simp; omega))
    have hbb : BoxIs wr w.heap.size S (.slice A ws.length c) := ((BoxIs.new w S (.slice A ws.length c)).alloc _).below (by simpa using hbw)
    have d0 := hbx.c0
    have d1 := hbx.c1
    have c0 := hbb.c0
    have c1 := hbb.c1
    have HF := hide hfl
    have HG := hide hgr
    have HO := hide hown
    have HX := hide hbx
    have HXB := hide hbb
    have HBW := hide hbw
    clear hfl hgr hown hbb hbx hbw
    by_cases hlt : k < S
    · have hne : ws ≠ [] := by rintro rfl; simp at hS1; omega
      obtain ⟨e3, _⟩ := HGO.out hne
      subst e3
      have hbt := HBB0.out k hlt
      have hpt : ∀ W, Below wr.heap.size wr W → Calls Tryd.prog 37 #[.agg #[.int .i64 S, .slice (some ⟨g, 0, none⟩) ws.length c3], .int .i64 k, .bool (!bitAt ws k)] W fun e w' => e = .returned (.tuple #[]) ∧ Own w' g (zs.set (k / 64) (putW (!bitAt ws k) (zs.getD (k / 64) 0) (k % 64))) ∧ W.grownBy w' (some g) := fun W hW =>
        put_any (S : Int) ws.length k g c3 zs (!bitAt ws k) W ((HO.out hne).below hW (HO.out hne).lt) HF.out.2.1 (by rw [HF.out.1]; omega) HF.out.1.symm v1
      have hst : putAll ws (zs.set (k / 64) (putW (!bitAt ws k) (zs.getD (k / 64) 0) (k % 64))) (fun i => !bitAt ws i) (k + 1) := putAll_step (v := fun i => !bitAt ws i) HF.out (k := k) (by omega)
      obtain ⟨v, hv⟩ : ∃ v, v = bitAt ws k := ⟨_, rfl⟩
      rw [← hv] at hbt hpt hst
      have HST := hide hst
      clear hst hv
      have HBT := hide hbt
      have HPT := hide hpt
      have K := hide (brefl wr)
      clear hbt hpt hne
      go_wp2_with fail
      go_region_with (first
        | (go_at_call 35; refine (HBT.out _ (by first | (simpa using HBW.out) | exact below_drewN (by simpa using HBW.out) _)).mono ?_; rintro e wk ⟨rfl, hbk⟩; replace K : Hid (Below wr.heap.size wr wk) := hide (by first | exact btrans K.out hbk | exact btrans (below_drewN K.out _) hbk); have p0 := (HX.out.below K.out).c0; have p1 := (HX.out.below K.out).c1; have p2 := (HXB.out.below K.out).c0; have p3 := (HXB.out.below K.out).c1; clear hbk)
        | (go_at_call 37; refine (HPT.out _ (by first | exact K.out | exact below_drewN K.out _)).mono ?_; rintro e w4 ⟨rfl, ho4, hg4⟩; have HO4 := hide ho4; have HG4 := hide hg4; clear ho4 hg4))
      all_goals
        go_wp2
        go_roundw
        case rel => exact ⟨k + 1, _, by omega, by go_num, HST.out, fun _ => HO4.out, gtrans HG.out (by first | exact gtrans (gob K.out) HG4.out | exact gtrans (gdrewN (gob K.out) _) HG4.out)⟩
        case measure => simp [intOf]; omega
    · obtain rfl : k = S := by omega
      obtain ⟨hcr, hfr⟩ := bcell (W := (w.alloc (.cells #[.int .i64 (k : Int), .slice A ws.length c] 24)).alloc (.cells #[.int .i64 0, .slice none 0 0] 24)) (w1 := wr) (by simpa using HBW.out)
      go_wp2
      refine bodyPost_ret (v := .tuple #[.agg #[.int .i64 k, .slice A3 ws.length c3], .int .i64 0]) (by simp [results, Tryd.results32, go_sem, hcr]) rfl ⟨A3, c3, zs, rfl, bits_of_put HF.out HE.out, ?_, ?_⟩
      · intro hn
        have hne : ws ≠ [] := by rintro rfl; have := HF.out.1; simp at this; exact hn this
        exact ⟨g, (HGO.out hne).1, by omega, ((HO.out hne).far (by show g ≠ w.heap.size + 1; omega) _).far (by show g ≠ w.heap.size + 1; omega) _⟩
      · exact bset (bset (btrans (bal (bal (brefl w) (.cells #[.int .i64 (k : Int), .slice A ws.length c] 24)) (.cells #[.int .i64 0, .slice none 0 0] 24)) (by simpa using HBW.out)) (by show w.heap.size ≤ w.heap.size + 1; omega) _) (by show w.heap.size ≤ w.heap.size + 1; omega) _
end Go.Proofs.YtdpdlbonlpdkjaaDoor.Bs
