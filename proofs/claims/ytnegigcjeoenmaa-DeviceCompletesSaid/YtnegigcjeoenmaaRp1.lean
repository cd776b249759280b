import Derived.Test.YtnegigcjeoenmaaCm2
namespace Go.Proofs.Ytnegigcjeoenmaa.Dv
open Go Go.RowKit
set_option linter.unusedVariables false
theorem caP_lt : ∀ (L : List Ca) (b : Int) (t : Nat), t < caP L b → (cAt L t).1 < b
  | [], b, t, h => by simp [caP] at h
  | c :: L, b, t, h => by
    unfold caP at h
    by_cases hc : c.1 < b
    · rw [if_pos hc] at h
      cases t with
      | zero => exact hc
      | succ t => exact caP_lt L b t (by omega)
    · rw [if_neg hc] at h; omega
theorem caP_at : ∀ (L : List Ca) (b : Int), caP L b < L.length → b ≤ (cAt L (caP L b)).1
  | [], b, h => by simp at h
  | c :: L, b, h => by
    unfold caP at h ⊢
    by_cases hc : c.1 < b
    · rw [if_pos hc] at h ⊢
      exact caP_at L b (by simpa using h)
    · rw [if_neg hc]; show b ≤ c.1; omega
/-- the list behind k rounds of the reference's put -/
def pqK (L : List Ca) (b : Int) (x : By) (k : Nat) : List Ca := if k ≤ caP L b then L.take k else L.take (caP L b) ++ (b, x) :: (L.take k).drop (if hitP L b then caP L b + 1 else caP L b)
theorem take_drop_snoc {L : List Ca} {d k : Nat} (hd : d ≤ k) (hk : k < L.length) : (L.take (k + 1)).drop d = (L.take k).drop d ++ [cAt L k] := by
  rw [cAt_snoc hk, List.drop_append_of_le_length (by rw [List.length_take]; omega)]
theorem pq_lo {L : List Ca} {b : Int} {x : By} {k : Nat} (h : k < caP L b) (hk : k < L.length) : pqK L b x (k + 1) = pqK L b x k ++ [cAt L k] := by
  unfold pqK; rw [if_pos (by omega), if_pos (by omega)]; exact cAt_snoc hk
theorem pq_hi {L : List Ca} {b : Int} {x : By} {k : Nat} (h : caP L b < k) (hk : k < L.length) : pqK L b x (k + 1) = pqK L b x k ++ [cAt L k] := by
  have h1 : ¬ k + 1 ≤ caP L b := by omega
  have h2 : ¬ k ≤ caP L b := by omega
  unfold pqK
  rw [if_neg h1, if_neg h2, take_drop_snoc (by by_cases hh : hitP L b = true <;> simp [hh] <;> omega) hk]
  simp
theorem pq_hit {L : List Ca} {b : Int} {x : By} (hk : caP L b < L.length) (hh : hitP L b = true) : pqK L b x (caP L b + 1) = pqK L b x (caP L b) ++ [(b, x)] := by
  unfold pqK; rw [if_neg (by omega), if_pos (Nat.le_refl _), hh, if_pos rfl, List.drop_eq_nil_of_le (by rw [List.length_take]; omega)]
theorem pq_miss {L : List Ca} {b : Int} {x : By} (hk : caP L b < L.length) (hh : hitP L b = false) : pqK L b x (caP L b + 1) = (pqK L b x (caP L b) ++ [(b, x)]) ++ [cAt L (caP L b)] := by
  unfold pqK; rw [if_neg (by omega), if_pos (Nat.le_refl _), hh]
  simp only [Bool.false_eq_true, if_false]
  rw [take_drop_snoc (Nat.le_refl _) hk, List.drop_eq_nil_of_le (by rw [List.length_take]; omega)]; simp
theorem pq_end {L : List Ca} {b : Int} {x : By} (hk : caP L b < L.length) : pqK L b x L.length = putD L b x := by
  unfold pqK putD
  rw [if_neg (by omega), List.take_length]
  by_cases hh : hitP L b = true
  · rw [if_pos hh, if_pos hh, List.set_eq_take_append_cons_drop, if_pos hk]
  · rw [if_neg hh, if_neg hh]
theorem pq_end0 {L : List Ca} {b : Int} {x : By} (hk : caP L b = L.length) : pqK L b x L.length ++ [(b, x)] = putD L b x := by
  unfold pqK putD
  have hh : hitP L b = false := by unfold hitP; rw [decide_eq_false]; omega
  rw [if_pos (by omega), hh, hk, List.take_length, List.drop_length]; rfl
theorem pq_len {L : List Ca} {b : Int} {x : By} (k : Nat) : (pqK L b x k).length ≤ L.length + 1 := by
  unfold pqK
  have := caP_le L b
  split
  · rw [List.length_take]; omega
  · rw [List.length_append, List.length_cons, List.length_drop, List.length_take, List.length_take]; split <;> omega
set_option maxHeartbeats 4000000 in
set_option maxRecDepth 100000 in
theorem rput_any (B : Nat) (vl : Value) (L : List Ca) (b : Int) (vd : Value) (x : By) (W0 : World) (hL : OwnC B W0 vl L) (hx : IsBs W0 vd x) (hxl : x.length ≤ 1000) (ha : Asc L) (hl : L.length ≤ 1000) :
    Calls Try.prog 53 #[vl, .int .i64 b, vd] W0 fun e w' => ∃ v', e = .returned v' ∧ OwnC W0.heap.size w' v' (putD L b x) ∧ Below W0.heap.size W0 w' := by
  obtain ⟨Al, cl, rfl, _⟩ := hL.form
  obtain ⟨i0, hi0, hz0, hz1, hz2⟩ := info_parts info64
  have OL := hide hL
  have CB := hide (fun W (hb : Below W0.heap.size W0 W) => rbytes_any _ x W (hx.below hb) hxl)
  unfold ByR at CB
  have HA := hide ha
  have LT := hide (caP_lt L b)
  have AT := hide (caP_at L b)
  have hple := caP_le L b
  clear hL hx ha
  go_enter Try.func53, Try.ntmps53
  go_upto_region 4 with fail
  go_loopw [7, 8, 9] (fun o dn i wr => ∃ (k : Nat) (R : List PC), k ≤ L.length ∧ i = .int .i64 k ∧ dn = .bool (decide (caP L b < k)) ∧ Hid (R.map pcC = pqK L b x k) ∧ Hid (wr.ownsRow W0.heap.size 64 2 o (pqK L b x k).length (cC R)) ∧ Hid (∀ r ∈ R, OwnBy wr r.2.2 r.2.1) ∧ Hid (Below W0.heap.size W0 wr)) (fun _ _ i _ => L.length - (intOf i).toNat)
  case atStart => exact ⟨0, [], Nat.zero_le _, rfl, by simp, hide (by simp [pqK]), hide (by simp only [pqK, Nat.zero_le, if_true, List.take_zero, List.length_nil, cC]; exact World.ownsRow_nil _ _ _ _), hide (fun r hr => by cases hr), hide (brefl _)⟩
  case round =>
    obtain ⟨k, R, hk, rfl, rfl, HR, HO, HP, KQ⟩ := hrel
    by_cases hlt : k < L.length
    · have hlt1 : (k : Int) < (L.length : Int) := by omega
      have hlt2 : ¬ (L.length : Int) ≤ (k : Int) := by omega
      have hk0 : (0 : Int) ≤ (k : Int) := by omega
      obtain ⟨Rl, hRl, hrow, hro⟩ := OL.out
      have hRll : Rl.length = L.length := by rw [← hRl, List.length_map]
      have hkR : k < Rl.length := by omega
      obtain ⟨gc, hgc, hgW, _, hcell, _⟩ := row_cell hrow (by omega)
      subst hgc
      obtain ⟨t0, t1⟩ := cC_at hkR
      have c0 := hcell _ _ t0
      have c1 := hcell _ _ t1
      obtain ⟨⟨z, l, u1⟩, hr⟩ : ∃ r, r = Rl[k] := ⟨_, rfl⟩
      have hm : (z, l, u1) ∈ Rl := by rw [hr]; exact List.getElem_mem hkR
      have hck : cAt L k = (z, l) := by rw [cAt_get hlt]; simp only [← hRl]; rw [List.getElem_map, ← hr]; rfl
      rw [← hr] at c0 c1
      simp only at c0 c1
      have hu := hro _ hm
      simp only at hu
      obtain ⟨A1, d1, rfl⟩ := hu.form
      have CE := hide (fun W (hb : Below W0.heap.size W0 W) => (⟨(hb.cell (p := ⟨gc, _, none⟩) hgW).trans c0, (hb.cell (p := ⟨gc, _, none⟩) hgW).trans c1⟩ : W.cell? ⟨gc, k * 2, none⟩ = some (.int .i64 z) ∧ W.cell? ⟨gc, k * 2 + 1, none⟩ = some (.slice A1 l.length d1)))
      have HU0 := hide hu
      clear c0 c1
      obtain ⟨c0, c1⟩ := CE.out wr KQ.out
      have HU := hide (HU0.out.below KQ.out)
      have hMl := pq_len (L := L) (b := b) (x := x) k
      obtain ⟨Ao, co, rfl, _⟩ := row_form HO.out
      clear hr hm hu t0 t1 hcell hRl hrow hro hRll hkR hgW
      rcases Nat.lt_trichotomy k (caP L b) with hlo | heq | hhi
      · have E := hide (pq_lo (x := x) hlo hlt)
        rw [hck] at E
        have hzb : z < b := by have := LT.out k hlo; rw [hck] at this; exact this
        have hd0 : decide (caP L b < k) = false := decide_eq_false (by omega)
        have hd1 : decide (caP L b < k + 1) = false := decide_eq_false (by omega)
        have zb1 : ¬ b ≤ z := by omega
        have zb2 : (z == b) = false := by simp; omega
        have HD := hide hd1
        generalize pqK L b x k = M at *
        rw [hd0]
        clear hck hd1
        have OA := hide (row_below HO.out (bal (brefl wr) (.cells #[.int .i64 z, .slice A1 l.length d1] 64)))
        have KA := hide (bal KQ.out (.cells #[.int .i64 z, .slice A1 l.length d1] 64))
        have HPA := hide (show ∀ r ∈ R, OwnBy (wr.alloc (.cells #[.int .i64 z, .slice A1 l.length d1] 64)) r.2.2 r.2.1 from fun r hr => (HP.out r hr).below (bal (brefl wr) _))
        have HUA := hide (HU.out.below (bal (brefl wr) (.cells #[.int .i64 z, .slice A1 l.length d1] 64)))
        have NW := hide (cell_row wr #[.int .i64 z, .slice A1 l.length d1] 64)
        go_wp2_with (at_builtin; refine wpList_append_own _ rfl (.tmp 41) (.tmp 46) 25 rfl W0.heap.size 64 i0 _ 2 32 Try.underlying25 hi0 hz0 hz1 hz2 rfl (by omega) (.slice Ao M.length co) M.length (cC R) rfl OA.out ⟨wr.heap.size, 0, none⟩ 1 1 [.int .i64 z, .slice A1 l.length d1] rfl rfl NW.out (by intro u hu; simp at hu; rcases hu with rfl | rfl <;> rfl) (by simp only [maxLen]; omega) (by omega) KA.out.size ?_; intro v4 w4 hown4 hg4 _; have O4 := hide hown4; have G4 := hide hg4; clear hown4 hg4)
        have KP4 := hide (kp_grown OA.out G4.out KA.out.size)
        go_wp2
        go_roundw
        case rel => exact ⟨k + 1, R ++ [(z, l, .slice A1 l.length d1)], by omega, by go_num, by rw [HD.out], hide (by rw [E.out, List.map_append, HR.out]; rfl), hide (by rw [E.out, cC_append, List.length_append]; exact O4.out), hide (fun r hr => (List.mem_append.1 hr).elim (fun h => (HPA.out r h).kp KP4.out (by decide)) fun h => by rw [List.mem_singleton.1 h]; exact HUA.out.kp KP4.out (by decide)), hide (KA.out.trans KP4.out.below)⟩
        case measure => simp [intOf]; omega
      · have hplt : caP L b < L.length := by omega
        have hzb : b ≤ z := by have := AT.out hplt; rw [← heq, hck] at this; exact this
        have hd0 : decide (caP L b < k) = false := decide_eq_false (by omega)
        have HD := hide (show decide (caP L b < k + 1) = true from decide_eq_true (by omega))
        have CX := hide (CB.out wr KQ.out)
        cases hh : hitP L b with
        | true =>
          have E := hide (pq_hit (x := x) hplt hh)
          rw [← heq] at E
          have hzz : z = b := by
            unfold hitP at hh
            have := (of_decide_eq_true hh).2
            rw [← heq, hck] at this; exact this
          subst hzz
          generalize pqK L z x k = M at *
          rw [hd0]
          clear hck hd0 heq hh
          go_wp2_with fail
          refine CX.out.mono ?_
          rintro e w5 ⟨v5, rfl, hob5, hb5⟩
          obtain ⟨A5, d5, rfl⟩ := hob5.form
          have OB5 := hide hob5
          have HO5 := hide (row_below HO.out hb5)
          have KQ5 := hide (btrans KQ.out hb5)
          have HP5 := hide (show ∀ r ∈ R, OwnBy w5 r.2.2 r.2.1 from fun r hr => (HP.out r hr).below hb5)
          clear hob5 hb5
          have OA := hide (row_below HO5.out (bal (brefl w5) (.cells #[.int .i64 z, .slice A5 x.length d5] 64)))
          have KA := hide (bal KQ5.out (.cells #[.int .i64 z, .slice A5 x.length d5] 64))
          have HPA := hide (show ∀ r ∈ R ++ [(z, x, .slice A5 x.length d5)], OwnBy (w5.alloc (.cells #[.int .i64 z, .slice A5 x.length d5] 64)) r.2.2 r.2.1 from fun r hr => (List.mem_append.1 hr).elim (fun h => (HP5.out r h).below (bal (brefl w5) _)) fun h => by rw [List.mem_singleton.1 h]; exact OB5.out.below (bal (brefl w5) _))
          have NW := hide (cell_row w5 #[.int .i64 z, .slice A5 x.length d5] 64)
          clear c0 c1
          go_upto_region 9 with (at_builtin; refine wpList_append_own _ rfl (.tmp 27) (.tmp 32) 25 rfl W0.heap.size 64 i0 _ 2 32 Try.underlying25 hi0 hz0 hz1 hz2 rfl (by omega) (.slice Ao M.length co) M.length (cC R) rfl OA.out ⟨w5.heap.size, 0, none⟩ 1 1 [.int .i64 z, .slice A5 x.length d5] rfl rfl NW.out (by intro u hu; simp at hu; rcases hu with rfl | rfl <;> rfl) (by simp only [maxLen]; omega) (by omega) KA.out.size ?_; intro v4 w4 hown4 hg4 _; have O4 := hide hown4; have G4 := hide hg4; clear hown4 hg4)
          have KP4 := hide (kp_grown OA.out G4.out KA.out.size)
          have K4 := hide (KA.out.trans KP4.out.below)
          have HP4 := hide (show ∀ r ∈ R ++ [(z, x, .slice A5 x.length d5)], OwnBy w4 r.2.2 r.2.1 from fun r hr => (HPA.out r hr).kp KP4.out (by decide))
          obtain ⟨c0, c1⟩ := CE.out w4 K4.out
          clear G4 OA KA HPA NW HO5 KQ5 HP5 KP4
          go_wp2
          go_roundw
          case rel => exact ⟨k + 1, R ++ [(z, x, .slice A5 x.length d5)], by omega, by go_num, by rw [HD.out], hide (by rw [E.out, List.map_append, HR.out]; rfl), hide (by rw [E.out, cC_append, List.length_append]; exact O4.out), HP4, K4⟩
          case measure => simp [intOf]; omega
        | false =>
          have E := hide (pq_miss (x := x) hplt hh)
          rw [← heq, hck] at E
          have zb2 : (z == b) = false := by
            have : z ≠ b := fun e => by
              have : hitP L b = true := by unfold hitP; exact decide_eq_true ⟨hplt, by rw [← heq, hck]; exact e⟩
              rw [hh] at this; exact absurd this (by decide)
            simpa using this
          generalize pqK L b x k = M at *
          rw [hd0]
          clear hck hd0 heq hh
          go_wp2_with fail
          refine CX.out.mono ?_
          rintro e w5 ⟨v5, rfl, hob5, hb5⟩
          obtain ⟨A5, d5, rfl⟩ := hob5.form
          have OB5 := hide hob5
          have HO5 := hide (row_below HO.out hb5)
          have KQ5 := hide (btrans KQ.out hb5)
          have HP5 := hide (show ∀ r ∈ R, OwnBy w5 r.2.2 r.2.1 from fun r hr => (HP.out r hr).below hb5)
          clear hob5 hb5
          have OA := hide (row_below HO5.out (bal (brefl w5) (.cells #[.int .i64 b, .slice A5 x.length d5] 64)))
          have KA := hide (bal KQ5.out (.cells #[.int .i64 b, .slice A5 x.length d5] 64))
          have HPA := hide (show ∀ r ∈ R ++ [(b, x, .slice A5 x.length d5)], OwnBy (w5.alloc (.cells #[.int .i64 b, .slice A5 x.length d5] 64)) r.2.2 r.2.1 from fun r hr => (List.mem_append.1 hr).elim (fun h => (HP5.out r h).below (bal (brefl w5) _)) fun h => by rw [List.mem_singleton.1 h]; exact OB5.out.below (bal (brefl w5) _))
          have NW := hide (cell_row w5 #[.int .i64 b, .slice A5 x.length d5] 64)
          clear c0 c1
          go_upto_region 9 with (at_builtin; refine wpList_append_own _ rfl (.tmp 27) (.tmp 32) 25 rfl W0.heap.size 64 i0 _ 2 32 Try.underlying25 hi0 hz0 hz1 hz2 rfl (by omega) (.slice Ao M.length co) M.length (cC R) rfl OA.out ⟨w5.heap.size, 0, none⟩ 1 1 [.int .i64 b, .slice A5 x.length d5] rfl rfl NW.out (by intro u hu; simp at hu; rcases hu with rfl | rfl <;> rfl) (by simp only [maxLen]; omega) (by omega) KA.out.size ?_; intro v4 w4 hown4 hg4 _; have O4 := hide hown4; have G4 := hide hg4; clear hown4 hg4)
          have KP4 := hide (kp_grown OA.out G4.out KA.out.size)
          have K4 := hide (KA.out.trans KP4.out.below)
          have HP4 := hide (show ∀ r ∈ R ++ [(b, x, .slice A5 x.length d5)], OwnBy w4 r.2.2 r.2.1 from fun r hr => (HPA.out r hr).kp KP4.out (by decide))
          obtain ⟨c0, c1⟩ := CE.out w4 K4.out
          obtain ⟨A6, c6, rfl, _⟩ := row_form O4.out
          have HU4 := hide (HU0.out.below K4.out)
          clear G4 OA KA HPA NW HO5 KQ5 HP5 KP4
          have OA := hide (row_below O4.out (bal (brefl w4) (.cells #[.int .i64 z, .slice A1 l.length d1] 64)))
          have KA := hide (bal K4.out (.cells #[.int .i64 z, .slice A1 l.length d1] 64))
          have HPA := hide (show ∀ r ∈ (R ++ [(b, x, .slice A5 x.length d5)]) ++ [(z, l, .slice A1 l.length d1)], OwnBy (w4.alloc (.cells #[.int .i64 z, .slice A1 l.length d1] 64)) r.2.2 r.2.1 from fun r hr => (List.mem_append.1 hr).elim (fun h => (HP4.out r h).below (bal (brefl w4) _)) fun h => by rw [List.mem_singleton.1 h]; exact HU4.out.below (bal (brefl w4) _))
          have NW := hide (cell_row w4 #[.int .i64 z, .slice A1 l.length d1] 64)
          obtain ⟨w6, hw6⟩ : ∃ w6, w6 = w4 := ⟨_, rfl⟩
          subst hw6
          have O6 := O4
          clear O4 HP4
          go_wp2_with (at_builtin; refine wpList_append_own _ rfl (.tmp 41) (.tmp 46) 25 rfl W0.heap.size 64 i0 _ 2 32 Try.underlying25 hi0 hz0 hz1 hz2 rfl (by omega) (.slice A6 (M.length + 1) c6) (M.length + 1) (cC R ++ [.int .i64 b, .slice A5 x.length d5]) rfl OA.out ⟨w6.heap.size, 0, none⟩ 1 1 [.int .i64 z, .slice A1 l.length d1] rfl rfl NW.out (by intro u hu; simp at hu; rcases hu with rfl | rfl <;> rfl) (by simp only [maxLen]; omega) (by omega) KA.out.size ?_; intro v4 w4 hown4 hg4 _; have O4 := hide hown4; have G4 := hide hg4; clear hown4 hg4)
          have KP4 := hide (kp_grown OA.out G4.out KA.out.size)
          go_wp2
          go_roundw
          case rel => exact ⟨k + 1, (R ++ [(b, x, .slice A5 x.length d5)]) ++ [(z, l, .slice A1 l.length d1)], by omega, by go_num, by rw [HD.out], hide (by rw [E.out, List.map_append, List.map_append, HR.out]; rfl), hide (by rw [E.out, cC_append, cC_append, List.length_append, List.length_append]; exact O4.out), hide (fun r hr => (HPA.out r hr).kp KP4.out (by decide)), hide (KA.out.trans KP4.out.below)⟩
          case measure => simp [intOf]; omega
      · have E := hide (pq_hi (x := x) hhi hlt)
        rw [hck] at E
        have hplt : caP L b < L.length := by omega
        have hzb : b < z := by
          have h1 := AT.out hplt
          have h2 := HA.out (caP L b) k hhi hlt
          rw [hck] at h2; simp only at h2; omega
        have hd0 : decide (caP L b < k) = true := decide_eq_true hhi
        have HD := hide (show decide (caP L b < k + 1) = true from decide_eq_true (by omega))
        have zb2 : (z == b) = false := by simp; omega
        generalize pqK L b x k = M at *
        rw [hd0]
        clear hck
        have OA := hide (row_below HO.out (bal (brefl wr) (.cells #[.int .i64 z, .slice A1 l.length d1] 64)))
        have KA := hide (bal KQ.out (.cells #[.int .i64 z, .slice A1 l.length d1] 64))
        have HPA := hide (show ∀ r ∈ R, OwnBy (wr.alloc (.cells #[.int .i64 z, .slice A1 l.length d1] 64)) r.2.2 r.2.1 from fun r hr => (HP.out r hr).below (bal (brefl wr) _))
        have HUA := hide (HU.out.below (bal (brefl wr) (.cells #[.int .i64 z, .slice A1 l.length d1] 64)))
        have NW := hide (cell_row wr #[.int .i64 z, .slice A1 l.length d1] 64)
        go_wp2_with (at_builtin; refine wpList_append_own _ rfl (.tmp 41) (.tmp 46) 25 rfl W0.heap.size 64 i0 _ 2 32 Try.underlying25 hi0 hz0 hz1 hz2 rfl (by omega) (.slice Ao M.length co) M.length (cC R) rfl OA.out ⟨wr.heap.size, 0, none⟩ 1 1 [.int .i64 z, .slice A1 l.length d1] rfl rfl NW.out (by intro u hu; simp at hu; rcases hu with rfl | rfl <;> rfl) (by simp only [maxLen]; omega) (by omega) KA.out.size ?_; intro v4 w4 hown4 hg4 _; have O4 := hide hown4; have G4 := hide hg4; clear hown4 hg4)
        have KP4 := hide (kp_grown OA.out G4.out KA.out.size)
        go_wp2
        go_roundw
        case rel => exact ⟨k + 1, R ++ [(z, l, .slice A1 l.length d1)], by omega, by go_num, by rw [HD.out], hide (by rw [E.out, List.map_append, HR.out]; rfl), hide (by rw [E.out, cC_append, List.length_append]; exact O4.out), hide (fun r hr => (List.mem_append.1 hr).elim (fun h => (HPA.out r h).kp KP4.out (by decide)) fun h => by rw [List.mem_singleton.1 h]; exact HUA.out.kp KP4.out (by decide)), hide (KA.out.trans KP4.out.below)⟩
        case measure => simp [intOf]; omega
    · obtain rfl : k = L.length := by omega
      by_cases hp : caP L b < L.length
      · have E := hide (pq_end (x := x) hp)
        have hd0 : decide (caP L b < L.length) = true := decide_eq_true hp
        rw [hd0]
        obtain ⟨Ao, co, rfl, _⟩ := row_form HO.out
        clear hd0
        generalize pqK L b x L.length = M at *
        go_wp2
        go_ret
        exact ⟨_, rfl, ⟨R, HR.out.trans E.out, by rw [← E.out]; exact HO.out, HP.out⟩, KQ.out⟩
      · have E := hide (pq_end0 (x := x) (show caP L b = L.length by omega))
        have hd0 : decide (caP L b < L.length) = false := decide_eq_false hp
        have CX := hide (CB.out wr KQ.out)
        have hMl := pq_len (L := L) (b := b) (x := x) L.length
        obtain ⟨Ao, co, rfl, _⟩ := row_form HO.out
        rw [hd0]
        clear hd0
        generalize pqK L b x L.length = M at *
        go_wp2_with fail
        refine CX.out.mono ?_
        rintro e w5 ⟨v5, rfl, hob5, hb5⟩
        obtain ⟨A5, d5, rfl⟩ := hob5.form
        have OB5 := hide hob5
        have HO5 := hide (row_below HO.out hb5)
        have KQ5 := hide (btrans KQ.out hb5)
        have HP5 := hide (show ∀ r ∈ R, OwnBy w5 r.2.2 r.2.1 from fun r hr => (HP.out r hr).below hb5)
        clear hob5 hb5
        have OA := hide (row_below HO5.out (bal (brefl w5) (.cells #[.int .i64 b, .slice A5 x.length d5] 64)))
        have KA := hide (bal KQ5.out (.cells #[.int .i64 b, .slice A5 x.length d5] 64))
        have HPA := hide (show ∀ r ∈ R ++ [(b, x, .slice A5 x.length d5)], OwnBy (w5.alloc (.cells #[.int .i64 b, .slice A5 x.length d5] 64)) r.2.2 r.2.1 from fun r hr => (List.mem_append.1 hr).elim (fun h => (HP5.out r h).below (bal (brefl w5) _)) fun h => by rw [List.mem_singleton.1 h]; exact OB5.out.below (bal (brefl w5) _))
        have NW := hide (cell_row w5 #[.int .i64 b, .slice A5 x.length d5] 64)
        go_wp2_with (at_builtin; refine wpList_append_own _ rfl (.tmp 50) (.tmp 55) 25 rfl W0.heap.size 64 i0 _ 2 32 Try.underlying25 hi0 hz0 hz1 hz2 rfl (by omega) (.slice Ao M.length co) M.length (cC R) rfl OA.out ⟨w5.heap.size, 0, none⟩ 1 1 [.int .i64 b, .slice A5 x.length d5] rfl rfl NW.out (by intro u hu; simp at hu; rcases hu with rfl | rfl <;> rfl) (by simp only [maxLen]; omega) (by omega) KA.out.size ?_; intro v4 w4 hown4 hg4 _; have O4 := hide hown4; have G4 := hide hg4; clear hown4 hg4)
        have KP4 := hide (kp_grown OA.out G4.out KA.out.size)
        have K4 := hide (KA.out.trans KP4.out.below)
        have HP4 := hide (show ∀ r ∈ R ++ [(b, x, .slice A5 x.length d5)], OwnBy w4 r.2.2 r.2.1 from fun r hr => (HPA.out r hr).kp KP4.out (by decide))
        go_wp2
        go_ret
        refine ⟨_, rfl, ⟨R ++ [(b, x, .slice A5 x.length d5)], by rw [← E.out, List.map_append, HR.out]; rfl, ?_, HP4.out⟩, K4.out⟩
        rw [← E.out, cC_append, List.length_append]; exact O4.out
end Go.Proofs.Ytnegigcjeoenmaa.Dv
