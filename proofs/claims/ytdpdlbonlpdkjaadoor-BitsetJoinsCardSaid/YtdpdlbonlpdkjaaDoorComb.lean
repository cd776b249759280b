import Derived.Test.YtdpdlbonlpdkjaaDoorNot
namespace Go.Proofs.YtdpdlbonlpdkjaaDoor.Bs
open Go Go.RowKit
set_option linter.unusedVariables false
theorem and1 (x y : Nat) (w : World) (hx : x < 2 ^ 64) (hy : y < 2 ^ 64) : Calls Tryd.prog 46 #[.int .u64 x, .int .u64 y] w fun e w' => e = .returned (.int .u64 (x &&& y : Nat)) ∧ w = w' := by
  have h := u64_and_nat x y (by omega) (by omega)
  go_enter Tryd.func46, Tryd.ntmps46
  go_wp2
  go_ret
  first | exact ⟨rfl, rfl⟩ | exact ⟨ret_int h, rfl⟩
theorem or1 (x y : Nat) (w : World) (hx : x < 2 ^ 64) (hy : y < 2 ^ 64) : Calls Tryd.prog 48 #[.int .u64 x, .int .u64 y] w fun e w' => e = .returned (.int .u64 (x ||| y : Nat)) ∧ w = w' := by
  have h := u64_or_nat x y (by omega) (by omega)
  go_enter Tryd.func48, Tryd.ntmps48
  go_wp2
  go_ret
  first | exact ⟨rfl, rfl⟩ | exact ⟨ret_int h, rfl⟩

def candV (xs ys : List Nat) (i : Nat) : Bool := bitAt xs i && bitAt ys i
theorem cand_bad (s t e0 : Int) (A B : Option Addr) (xs ys : List Nat) (c d : Nat) (w : World) (ha : Wd w A xs) (hb : Wd w B ys) (hx : ∀ x ∈ xs, x < 2 ^ 64) (hy : ∀ x ∈ ys, x < 2 ^ 64) (hn : xs.length ≤ 9223372036854775807) (hm : ys.length ≤ 9223372036854775807)
    (h : (chk s xs = e0 ∧ (e0 == 0) = false) ∨ (chk s xs = 0 ∧ chk t ys = e0 ∧ (e0 == 0) = false) ∨ (chk s xs = 0 ∧ chk t ys = 0 ∧ e0 = 1 ∧ s ≠ t)) :
    Calls Tryd.prog 45 #[.agg #[.int .i64 s, .slice A xs.length c], .agg #[.int .i64 t, .slice B ys.length d], .func (Fn.func 46) #[] #[]] w fun e w' => e = .returned (.tuple #[.agg #[.int .i64 0, .slice none 0 0], .int .i64 e0]) ∧ Below w.heap.size w w' := by
  obtain ⟨W0, hW0⟩ : ∃ W0 : World, W0 = ((w.alloc (.cells #[.int .i64 s, .slice A xs.length c] 24)).alloc (.cells #[.int .i64 t, .slice B ys.length d] 24)).alloc (.cells #[.int .i64 0, .slice none 0 0] 24) := ⟨_, rfl⟩
  have hb0 : Below w.heap.size w W0 := by rw [hW0]; exact bal (bal (bal (brefl _) _) _) _
  have HC1 := check_any s A xs c W0 (ha.below hb0) hx hn
  have HC2 := fun W hW => check_any t B ys d W ((hb.below hb0).below hW) hy hm
  rcases h with ⟨h1, h2⟩ | ⟨h1, h2, h3⟩ | ⟨h1, h2, h3, h4⟩
  · rw [h1] at HC1
    have h4 : (e0 != 0) = true := by rw [bne, h2]; rfl
    rw [hW0] at HC1
    have HA := hide HC1
    clear HC1 HC2 ha hb hx hy hb0 hW0 h1
    clear W0
    go_enter Tryd.func45, Tryd.ntmps45
    go_wp2_with (go_at_call 14; refine HA.out.mono ?_; rintro e w1 ⟨rfl, hb1⟩; obtain ⟨hc1, hf1⟩ := bcell hb1)
    have hbw := btrans (bal (bal (bal (brefl w) (.cells #[.int .i64 s, .slice A xs.length c] 24)) (.cells #[.int .i64 t, .slice B ys.length d] 24)) (.cells #[.int .i64 0, .slice none 0 0] 24)) hb1
    refine bodyPost_ret (v := .tuple #[.agg #[.int .i64 0, .slice none 0 0], .int .i64 e0]) (by simp [results, Tryd.results45, go_sem, hc1]) rfl ⟨rfl, ?_⟩
    repeat (first | exact hbw | refine bset ?_ (by show w.heap.size ≤ w.heap.size + 1 + 1; omega) _)
  · rw [h1] at HC1
    rw [h2] at HC2
    have h4 : (e0 != 0) = true := by rw [bne, h3]; rfl
    rw [hW0] at HC1 HC2
    have HA := hide HC1
    have HB := hide HC2
    clear HC1 HC2 ha hb hx hy hb0 hW0 h1 h2
    clear W0
    go_enter Tryd.func45, Tryd.ntmps45
    go_wp2_with fail
    refine HA.out.mono ?_
    rintro e w1 ⟨rfl, hb1⟩
    obtain ⟨hc1, hf1⟩ := bcell hb1
    go_wp2_with fail
    refine (HB.out _ hb1).mono ?_
    rintro e w2 ⟨rfl, hb2'⟩
    have hb2 := btrans hb1 hb2'
    obtain ⟨hc2, hf2⟩ := bcell hb2
    go_wp2_with fail
    have hbw := btrans (bal (bal (bal (brefl w) (.cells #[.int .i64 s, .slice A xs.length c] 24)) (.cells #[.int .i64 t, .slice B ys.length d] 24)) (.cells #[.int .i64 0, .slice none 0 0] 24)) hb2
    refine bodyPost_ret (v := .tuple #[.agg #[.int .i64 0, .slice none 0 0], .int .i64 e0]) (by simp [results, Tryd.results45, go_sem, hc2]) rfl ⟨rfl, ?_⟩
    repeat (first | exact hbw | refine bset ?_ (by show w.heap.size ≤ w.heap.size + 1 + 1; omega) _)
  · rw [h1] at HC1
    rw [h2] at HC2
    subst h3
    have n1 : (s == t) = false := by simpa using h4
    have n2 : (s != t) = true := by rw [bne, n1]; rfl
    rw [hW0] at HC1 HC2
    have HA := hide HC1
    have HB := hide HC2
    clear HC1 HC2 ha hb hx hy hb0 hW0 h1 h2 h4
    clear W0
    go_enter Tryd.func45, Tryd.ntmps45
    go_wp2_with fail
    refine HA.out.mono ?_
    rintro e w1 ⟨rfl, hb1⟩
    obtain ⟨hc1, hf1⟩ := bcell hb1
    go_wp2_with fail
    refine (HB.out _ hb1).mono ?_
    rintro e w2 ⟨rfl, hb2'⟩
    have hb2 := btrans hb1 hb2'
    obtain ⟨hc2, hf2⟩ := bcell hb2
    go_wp2_with fail
    have hbw := btrans (bal (bal (bal (brefl w) (.cells #[.int .i64 s, .slice A xs.length c] 24)) (.cells #[.int .i64 t, .slice B ys.length d] 24)) (.cells #[.int .i64 0, .slice none 0 0] 24)) hb2
    refine bodyPost_ret (v := .tuple #[.agg #[.int .i64 0, .slice none 0 0], .int .i64 1]) (by simp [results, Tryd.results45, go_sem, hc2]) rfl ⟨rfl, ?_⟩
    repeat (first | exact hbw | refine bset ?_ (by show w.heap.size ≤ w.heap.size + 1 + 1; omega) _)
set_option maxHeartbeats 2000000 in
theorem cand_good (S : Nat) (A B : Option Addr) (xs ys : List Nat) (c d : Nat) (w : World) (ha : Wd w A xs) (hb : Wd w B ys) (hx : ∀ x ∈ xs, x < 2 ^ 64) (hy : ∀ x ∈ ys, x < 2 ^ 64) (h1 : chk (S : Int) xs = 0) (h2 : chk (S : Int) ys = 0) :
    Calls Tryd.prog 45 #[.agg #[.int .i64 S, .slice A xs.length c], .agg #[.int .i64 S, .slice B ys.length d], .func (Fn.func 46) #[] #[]] w fun e w' => ∃ A' c' zs, e = .returned (.tuple #[.agg #[.int .i64 S, .slice A' xs.length c'], .int .i64 0]) ∧ bitsAre xs.length zs (candV xs ys) ∧ Mine w.heap.size w' A' zs ∧ Below w.heap.size w w' := by
  obtain ⟨v1, _, _, _⟩ := valid_len h1
  obtain ⟨v2, _, _, _⟩ := valid_len h2
  have hl : xs.length = ys.length := (chk_ok.1 h1).2.2.1.trans (chk_ok.1 h2).2.2.1.symm
  obtain ⟨W0, hW0⟩ : ∃ W0 : World, W0 = ((w.alloc (.cells #[.int .i64 S, .slice A xs.length c] 24)).alloc (.cells #[.int .i64 S, .slice B ys.length d] 24)).alloc (.cells #[.int .i64 0, .slice none 0 0] 24) := ⟨_, rfl⟩
  have hb0 : Below w.heap.size w W0 := by rw [hW0]; exact bal (bal (bal (brefl _) _) _) _
  have bb0 : BoxIs W0 w.heap.size S (.slice A xs.length c) := by rw [hW0]; exact ((BoxIs.new w S _).alloc _).alloc _
  have bb1 : BoxIs W0 (w.heap.size + 1) S (.slice B ys.length d) := by
    rw [hW0]
    have := (BoxIs.new (w.alloc (.cells #[.int .i64 S, .slice A xs.length c] 24)) S (.slice B ys.length d)).alloc (.cells #[.int .i64 0, .slice none 0 0] 24)
    simpa using this
  have bb2 : BoxIs W0 (w.heap.size + 1 + 1) 0 (.slice none 0 0) := by
    rw [hW0]
    have := BoxIs.new ((w.alloc (.cells #[.int .i64 S, .slice A xs.length c] 24)).alloc (.cells #[.int .i64 S, .slice B ys.length d] 24)) 0 (.slice none 0 0)
    simpa using this
  have hz0 : W0.heap.size = w.heap.size + 1 + 1 + 1 := by rw [hW0]; simp
  have hr1 := ha.below hb0
  have hr2 := hb.below hb0
  have HC1 := check_any S A xs c W0 hr1 hx (by omega)
  have HC2 := fun W hW => check_any S B ys d W (hr2.below hW) hy (by omega)
  have HK : ∀ W, Below W0.heap.size W0 W → Calls Tryd.prog 39 #[.slice A xs.length c] W fun e w' => ∃ A' c', e = .returned (.slice A' xs.length c') ∧ Mine W.heap.size w' A' xs ∧ Below W.heap.size W w' := fun W hW => clone_any A xs c W (hr1.below hW) v1
  rw [h1] at HC1
  rw [h2] at HC2
  have HA := hide HC1
  have HB := hide HC2
  have HKK := hide HK
  have HX := hide hx
  have HY := hide hy
  have HL := hide hl
  have HZ0 := hide hz0
  have HR2 := hide hr2
  have HO0 := hide hb0
  have G0 := hide bb0
  have G1 := hide bb1
  have G2 := hide bb2
  have y0 := bb0.c0
  have y1 := bb0.c1
  clear HC1 HC2 HK ha hb hx hy hb0 h1 h2 hl hz0 hr1 hr2 bb0 bb1 bb2
  go_enter Tryd.func45, Tryd.ntmps45
  go_wp2_with fail
  rw [← hW0]
  clear hW0
  refine HA.out.mono ?_
  rintro e w1 ⟨rfl, hb1⟩
  have K1 := hide hb1
  have p0 := (G1.out.below hb1).c0
  have p1 := (G1.out.below hb1).c1
  clear hb1 y0 y1
  go_wp2_with fail
  refine (HB.out _ K1.out).mono ?_
  rintro e w2 ⟨rfl, hb2⟩
  have K2 := hide (btrans K1.out hb2)
  have q0 := (G0.out.below K2.out).c0
  have q1 := (G0.out.below K2.out).c1
  have q2 := (G1.out.below K2.out).c0
  have q3 := (G1.out.below K2.out).c1
  clear hb2 p0 p1
  go_wp2_with fail
  refine (HKK.out _ K2.out).mono ?_
  rintro e w3 ⟨A3, c3, rfl, hm3, hb3⟩
  have hm0 : Mine W0.heap.size w3 A3 xs := hm3.mono K2.out.size
  have HM0 := hide hm0
  have K3 := hide (btrans K2.out hb3)
  clear hb3 hm3 hm0 q0 q1 q2 q3 HA HB HKK
  go_wp2_with fail
  go_loopw [35] (fun i wr => ∃ (k : Nat) (zs : List Nat), k ≤ xs.length ∧ i = .int .i64 k ∧ wordTo xs zs (candV xs ys) k ∧ Mine W0.heap.size wr A3 zs ∧ Below W0.heap.size W0 wr) (fun i _ => xs.length - (intOf i).toNat)
  case atStart => exact ⟨0, xs, Nat.zero_le _, rfl, wordTo_start HX.out, HM0.out, K3.out⟩
  case round =>
    obtain ⟨k, zs, hk, rfl, hfl, hm, hb⟩ := hrel
    have HB := hide hb
    have HF := hide hfl
    by_cases hlt : k < xs.length
    · obtain ⟨g, rfl, hg, ho⟩ := hm (by rintro rfl; have := hfl.1; simp at this; omega)
      have hlt2 : k < ys.length := by rw [← HL.out]; exact hlt
      obtain ⟨b, off, rfl, hbl, hcb⟩ := (HR2.out.below hb) (by rintro rfl; simp at hlt2)
      have f1 := hcb k _ (getD_of hlt2)
      have e1 := ho.cell k _ (getD_of (by rw [hfl.1]; exact hlt))
      have e2 := ho.free k
      rw [wordTo_read hfl HX.out] at e1
      have hx := getD_lt HX.out k
      have hy := getD_lt HY.out k
      have c1 := (G1.out.below hb).c1
      have hcl := fun W => and1 (xs.getD k 0) (ys.getD k 0) W hx hy
      have hzl : (xs.getD k 0 &&& ys.getD k 0) < 2 ^ 64 := Nat.lt_of_le_of_lt Nat.and_le_left hx
      have htb : ∀ j, j < 64 → (xs.getD k 0 &&& ys.getD k 0).testBit j = candV xs ys (64 * k + j) := fun j hj => by
        unfold candV
        rw [bitAt_nat _ _ _ hj, bitAt_nat _ _ _ hj, Nat.testBit_and]
      obtain ⟨z, hz⟩ : ∃ z, z = (xs.getD k 0 &&& ys.getD k 0) := ⟨_, rfl⟩
      rw [← hz] at hcl hzl htb
      obtain ⟨x, hxe⟩ : ∃ x, x = xs.getD k 0 := ⟨_, rfl⟩
      obtain ⟨y, hye⟩ : ∃ y, y = ys.getD k 0 := ⟨_, rfl⟩
      rw [← hxe] at e1 hcl
      rw [← hye] at f1 hcl
      have HST := hide (wordTo_step hfl hlt hzl htb)
      have HO := hide ho
      have HCL := hide hcl
      clear hfl hb ho hz hxe hye hx hy hcl hzl htb hcb
      go_wp2_with fail
      go_region_with ((go_at_call 46; refine (HCL.out _).mono ?_; rintro e w' ⟨rfl, rfl⟩))
      all_goals
        go_wp2
        go_roundw
        case rel => exact ⟨k + 1, zs.set k z, by omega, by go_num, HST.out, by first | exact mine_set hg HO.out | exact mine_set (q := 1) hg HO.out, by first | exact (below_drewN HB.out _).setCell hg _ | exact (below_drewN HB.out 1).setCell hg _⟩
        case measure => simp [intOf]; omega
    · have hke : k = xs.length := by omega
      have HFE := hide (wordTo_end (show wordTo xs zs (candV xs ys) xs.length by rw [← hke]; exact hfl))
      have HM := hide hm
      have k0 := (G0.out.below hb).c0
      have k1 := (G0.out.below hb).c1
      have m0 := (G2.out.below hb).c0
      have m1 := (G2.out.below hb).c1
      have m2 := (G2.out.below hb).free 0
      have m3 := (G2.out.below hb).free 1
      have hz0 := HZ0.out
      clear hfl hm hb hke
      go_wp2
      refine bodyPost_ret (v := .tuple #[.agg #[.int .i64 S, .slice A3 xs.length c3], .int .i64 0]) (by simp [results, Tryd.results45, go_sem, m0, m1]) rfl ⟨A3, c3, zs, rfl, HFE.out, ?_, ?_⟩
      · exact (mine_far (mine_far HM.out (by show w.heap.size + 1 + 1 < _; omega) _) (by show w.heap.size + 1 + 1 < _; omega) _).mono (by omega)
      · exact bset (bset (btrans HO0.out HB.out) (by show w.heap.size ≤ w.heap.size + 1 + 1; omega) _) (by show w.heap.size ≤ w.heap.size + 1 + 1; omega) _

def corV (xs ys : List Nat) (i : Nat) : Bool := bitAt xs i || bitAt ys i
theorem cor_bad (s t e0 : Int) (A B : Option Addr) (xs ys : List Nat) (c d : Nat) (w : World) (ha : Wd w A xs) (hb : Wd w B ys) (hx : ∀ x ∈ xs, x < 2 ^ 64) (hy : ∀ x ∈ ys, x < 2 ^ 64) (hn : xs.length ≤ 9223372036854775807) (hm : ys.length ≤ 9223372036854775807)
    (h : (chk s xs = e0 ∧ (e0 == 0) = false) ∨ (chk s xs = 0 ∧ chk t ys = e0 ∧ (e0 == 0) = false) ∨ (chk s xs = 0 ∧ chk t ys = 0 ∧ e0 = 1 ∧ s ≠ t)) :
    Calls Tryd.prog 45 #[.agg #[.int .i64 s, .slice A xs.length c], .agg #[.int .i64 t, .slice B ys.length d], .func (Fn.func 48) #[] #[]] w fun e w' => e = .returned (.tuple #[.agg #[.int .i64 0, .slice none 0 0], .int .i64 e0]) ∧ Below w.heap.size w w' := by
  obtain ⟨W0, hW0⟩ : ∃ W0 : World, W0 = ((w.alloc (.cells #[.int .i64 s, .slice A xs.length c] 24)).alloc (.cells #[.int .i64 t, .slice B ys.length d] 24)).alloc (.cells #[.int .i64 0, .slice none 0 0] 24) := ⟨_, rfl⟩
  have hb0 : Below w.heap.size w W0 := by rw [hW0]; exact bal (bal (bal (brefl _) _) _) _
  have HC1 := check_any s A xs c W0 (ha.below hb0) hx hn
  have HC2 := fun W hW => check_any t B ys d W ((hb.below hb0).below hW) hy hm
  rcases h with ⟨h1, h2⟩ | ⟨h1, h2, h3⟩ | ⟨h1, h2, h3, h4⟩
  · rw [h1] at HC1
    have h4 : (e0 != 0) = true := by rw [bne, h2]; rfl
    rw [hW0] at HC1
    have HA := hide HC1
    clear HC1 HC2 ha hb hx hy hb0 hW0 h1
    clear W0
    go_enter Tryd.func45, Tryd.ntmps45
    go_wp2_with (go_at_call 14; refine HA.out.mono ?_; rintro e w1 ⟨rfl, hb1⟩; obtain ⟨hc1, hf1⟩ := bcell hb1)
    have hbw := btrans (bal (bal (bal (brefl w) (.cells #[.int .i64 s, .slice A xs.length c] 24)) (.cells #[.int .i64 t, .slice B ys.length d] 24)) (.cells #[.int .i64 0, .slice none 0 0] 24)) hb1
    refine bodyPost_ret (v := .tuple #[.agg #[.int .i64 0, .slice none 0 0], .int .i64 e0]) (by simp [results, Tryd.results45, go_sem, hc1]) rfl ⟨rfl, ?_⟩
    repeat (first | exact hbw | refine bset ?_ (by show w.heap.size ≤ w.heap.size + 1 + 1; omega) _)
  · rw [h1] at HC1
    rw [h2] at HC2
    have h4 : (e0 != 0) = true := by rw [bne, h3]; rfl
    rw [hW0] at HC1 HC2
    have HA := hide HC1
    have HB := hide HC2
    clear HC1 HC2 ha hb hx hy hb0 hW0 h1 h2
    clear W0
    go_enter Tryd.func45, Tryd.ntmps45
    go_wp2_with fail
    refine HA.out.mono ?_
    rintro e w1 ⟨rfl, hb1⟩
    obtain ⟨hc1, hf1⟩ := bcell hb1
    go_wp2_with fail
    refine (HB.out _ hb1).mono ?_
    rintro e w2 ⟨rfl, hb2'⟩
    have hb2 := btrans hb1 hb2'
    obtain ⟨hc2, hf2⟩ := bcell hb2
    go_wp2_with fail
    have hbw := btrans (bal (bal (bal (brefl w) (.cells #[.int .i64 s, .slice A xs.length c] 24)) (.cells #[.int .i64 t, .slice B ys.length d] 24)) (.cells #[.int .i64 0, .slice none 0 0] 24)) hb2
    refine bodyPost_ret (v := .tuple #[.agg #[.int .i64 0, .slice none 0 0], .int .i64 e0]) (by simp [results, Tryd.results45, go_sem, hc2]) rfl ⟨rfl, ?_⟩
    repeat (first | exact hbw | refine bset ?_ (by show w.heap.size ≤ w.heap.size + 1 + 1; omega) _)
  · rw [h1] at HC1
    rw [h2] at HC2
    subst h3
    have n1 : (s == t) = false := by simpa using h4
    have n2 : (s != t) = true := by rw [bne, n1]; rfl
    rw [hW0] at HC1 HC2
    have HA := hide HC1
    have HB := hide HC2
    clear HC1 HC2 ha hb hx hy hb0 hW0 h1 h2 h4
    clear W0
    go_enter Tryd.func45, Tryd.ntmps45
    go_wp2_with fail
    refine HA.out.mono ?_
    rintro e w1 ⟨rfl, hb1⟩
    obtain ⟨hc1, hf1⟩ := bcell hb1
    go_wp2_with fail
    refine (HB.out _ hb1).mono ?_
    rintro e w2 ⟨rfl, hb2'⟩
    have hb2 := btrans hb1 hb2'
    obtain ⟨hc2, hf2⟩ := bcell hb2
    go_wp2_with fail
    have hbw := btrans (bal (bal (bal (brefl w) (.cells #[.int .i64 s, .slice A xs.length c] 24)) (.cells #[.int .i64 t, .slice B ys.length d] 24)) (.cells #[.int .i64 0, .slice none 0 0] 24)) hb2
    refine bodyPost_ret (v := .tuple #[.agg #[.int .i64 0, .slice none 0 0], .int .i64 1]) (by simp [results, Tryd.results45, go_sem, hc2]) rfl ⟨rfl, ?_⟩
    repeat (first | exact hbw | refine bset ?_ (by show w.heap.size ≤ w.heap.size + 1 + 1; omega) _)
set_option maxHeartbeats 2000000 in
theorem cor_good (S : Nat) (A B : Option Addr) (xs ys : List Nat) (c d : Nat) (w : World) (ha : Wd w A xs) (hb : Wd w B ys) (hx : ∀ x ∈ xs, x < 2 ^ 64) (hy : ∀ x ∈ ys, x < 2 ^ 64) (h1 : chk (S : Int) xs = 0) (h2 : chk (S : Int) ys = 0) :
    Calls Tryd.prog 45 #[.agg #[.int .i64 S, .slice A xs.length c], .agg #[.int .i64 S, .slice B ys.length d], .func (Fn.func 48) #[] #[]] w fun e w' => ∃ A' c' zs, e = .returned (.tuple #[.agg #[.int .i64 S, .slice A' xs.length c'], .int .i64 0]) ∧ bitsAre xs.length zs (corV xs ys) ∧ Mine w.heap.size w' A' zs ∧ Below w.heap.size w w' := by
  obtain ⟨v1, _, _, _⟩ := valid_len h1
  obtain ⟨v2, _, _, _⟩ := valid_len h2
  have hl : xs.length = ys.length := (chk_ok.1 h1).2.2.1.trans (chk_ok.1 h2).2.2.1.symm
  obtain ⟨W0, hW0⟩ : ∃ W0 : World, W0 = ((w.alloc (.cells #[.int .i64 S, .slice A xs.length c] 24)).alloc (.cells #[.int .i64 S, .slice B ys.length d] 24)).alloc (.cells #[.int .i64 0, .slice none 0 0] 24) := ⟨_, rfl⟩
  have hb0 : Below w.heap.size w W0 := by rw [hW0]; exact bal (bal (bal (brefl _) _) _) _
  have bb0 : BoxIs W0 w.heap.size S (.slice A xs.length c) := by rw [hW0]; exact ((BoxIs.new w S _).alloc _).alloc _
  have bb1 : BoxIs W0 (w.heap.size + 1) S (.slice B ys.length d) := by
    rw [hW0]
    have := (BoxIs.new (w.alloc (.cells #[.int .i64 S, .slice A xs.length c] 24)) S (.slice B ys.length d)).alloc (.cells #[.int .i64 0, .slice none 0 0] 24)
    simpa using this
  have bb2 : BoxIs W0 (w.heap.size + 1 + 1) 0 (.slice none 0 0) := by
    rw [hW0]
    have := BoxIs.new ((w.alloc (.cells #[.int .i64 S, .slice A xs.length c] 24)).alloc (.cells #[.int .i64 S, .slice B ys.length d] 24)) 0 (.slice none 0 0)
    simpa using this
  have hz0 : W0.heap.size = w.heap.size + 1 + 1 + 1 := by rw [hW0]; simp
  have hr1 := ha.below hb0
  have hr2 := hb.below hb0
  have HC1 := check_any S A xs c W0 hr1 hx (by omega)
  have HC2 := fun W hW => check_any S B ys d W (hr2.below hW) hy (by omega)
  have HK : ∀ W, Below W0.heap.size W0 W → Calls Tryd.prog 39 #[.slice A xs.length c] W fun e w' => ∃ A' c', e = .returned (.slice A' xs.length c') ∧ Mine W.heap.size w' A' xs ∧ Below W.heap.size W w' := fun W hW => clone_any A xs c W (hr1.below hW) v1
  rw [h1] at HC1
  rw [h2] at HC2
  have HA := hide HC1
  have HB := hide HC2
  have HKK := hide HK
  have HX := hide hx
  have HY := hide hy
  have HL := hide hl
  have HZ0 := hide hz0
  have HR2 := hide hr2
  have HO0 := hide hb0
  have G0 := hide bb0
  have G1 := hide bb1
  have G2 := hide bb2
  have y0 := bb0.c0
  have y1 := bb0.c1
  clear HC1 HC2 HK ha hb hx hy hb0 h1 h2 hl hz0 hr1 hr2 bb0 bb1 bb2
  go_enter Tryd.func45, Tryd.ntmps45
  go_wp2_with fail
  rw [← hW0]
  clear hW0
  refine HA.out.mono ?_
  rintro e w1 ⟨rfl, hb1⟩
  have K1 := hide hb1
  have p0 := (G1.out.below hb1).c0
  have p1 := (G1.out.below hb1).c1
  clear hb1 y0 y1
  go_wp2_with fail
  refine (HB.out _ K1.out).mono ?_
  rintro e w2 ⟨rfl, hb2⟩
  have K2 := hide (btrans K1.out hb2)
  have q0 := (G0.out.below K2.out).c0
  have q1 := (G0.out.below K2.out).c1
  have q2 := (G1.out.below K2.out).c0
  have q3 := (G1.out.below K2.out).c1
  clear hb2 p0 p1
  go_wp2_with fail
  refine (HKK.out _ K2.out).mono ?_
  rintro e w3 ⟨A3, c3, rfl, hm3, hb3⟩
  have hm0 : Mine W0.heap.size w3 A3 xs := hm3.mono K2.out.size
  have HM0 := hide hm0
  have K3 := hide (btrans K2.out hb3)
  clear hb3 hm3 hm0 q0 q1 q2 q3 HA HB HKK
  go_wp2_with fail
  go_loopw [35] (fun i wr => ∃ (k : Nat) (zs : List Nat), k ≤ xs.length ∧ i = .int .i64 k ∧ wordTo xs zs (corV xs ys) k ∧ Mine W0.heap.size wr A3 zs ∧ Below W0.heap.size W0 wr) (fun i _ => xs.length - (intOf i).toNat)
  case atStart => exact ⟨0, xs, Nat.zero_le _, rfl, wordTo_start HX.out, HM0.out, K3.out⟩
  case round =>
    obtain ⟨k, zs, hk, rfl, hfl, hm, hb⟩ := hrel
    have HB := hide hb
    have HF := hide hfl
    by_cases hlt : k < xs.length
    · obtain ⟨g, rfl, hg, ho⟩ := hm (by rintro rfl; have := hfl.1; simp at this; omega)
      have hlt2 : k < ys.length := by rw [← HL.out]; exact hlt
      obtain ⟨b, off, rfl, hbl, hcb⟩ := (HR2.out.below hb) (by rintro rfl; simp at hlt2)
      have f1 := hcb k _ (getD_of hlt2)
      have e1 := ho.cell k _ (getD_of (by rw [hfl.1]; exact hlt))
      have e2 := ho.free k
      rw [wordTo_read hfl HX.out] at e1
      have hx := getD_lt HX.out k
      have hy := getD_lt HY.out k
      have c1 := (G1.out.below hb).c1
      have hcl := fun W => or1 (xs.getD k 0) (ys.getD k 0) W hx hy
      have hzl : (xs.getD k 0 ||| ys.getD k 0) < 2 ^ 64 := Nat.or_lt_two_pow hx hy
      have htb : ∀ j, j < 64 → (xs.getD k 0 ||| ys.getD k 0).testBit j = corV xs ys (64 * k + j) := fun j hj => by
        unfold corV
        rw [bitAt_nat _ _ _ hj, bitAt_nat _ _ _ hj, Nat.testBit_or]
      obtain ⟨z, hz⟩ : ∃ z, z = (xs.getD k 0 ||| ys.getD k 0) := ⟨_, rfl⟩
      rw [← hz] at hcl hzl htb
      obtain ⟨x, hxe⟩ : ∃ x, x = xs.getD k 0 := ⟨_, rfl⟩
      obtain ⟨y, hye⟩ : ∃ y, y = ys.getD k 0 := ⟨_, rfl⟩
      rw [← hxe] at e1 hcl
      rw [← hye] at f1 hcl
      have HST := hide (wordTo_step hfl hlt hzl htb)
      have HO := hide ho
      have HCL := hide hcl
      clear hfl hb ho hz hxe hye hx hy hcl hzl htb hcb
      go_wp2_with fail
      go_region_with ((go_at_call 48; refine (HCL.out _).mono ?_; rintro e w' ⟨rfl, rfl⟩))
      all_goals
        go_wp2
        go_roundw
        case rel => exact ⟨k + 1, zs.set k z, by omega, by go_num, HST.out, by first | exact mine_set hg HO.out | exact mine_set (q := 1) hg HO.out, by first | exact (below_drewN HB.out _).setCell hg _ | exact (below_drewN HB.out 1).setCell hg _⟩
        case measure => simp [intOf]; omega
    · have hke : k = xs.length := by omega
      have HFE := hide (wordTo_end (show wordTo xs zs (corV xs ys) xs.length by rw [← hke]; exact hfl))
      have HM := hide hm
      have k0 := (G0.out.below hb).c0
      have k1 := (G0.out.below hb).c1
      have m0 := (G2.out.below hb).c0
      have m1 := (G2.out.below hb).c1
      have m2 := (G2.out.below hb).free 0
      have m3 := (G2.out.below hb).free 1
      have hz0 := HZ0.out
      clear hfl hm hb hke
      go_wp2
      refine bodyPost_ret (v := .tuple #[.agg #[.int .i64 S, .slice A3 xs.length c3], .int .i64 0]) (by simp [results, Tryd.results45, go_sem, m0, m1]) rfl ⟨A3, c3, zs, rfl, HFE.out, ?_, ?_⟩
      · exact (mine_far (mine_far HM.out (by show w.heap.size + 1 + 1 < _; omega) _) (by show w.heap.size + 1 + 1 < _; omega) _).mono (by omega)
      · exact bset (bset (btrans HO0.out HB.out) (by show w.heap.size ≤ w.heap.size + 1 + 1; omega) _) (by show w.heap.size ≤ w.heap.size + 1 + 1; omega) _
end Go.Proofs.YtdpdlbonlpdkjaaDoor.Bs
