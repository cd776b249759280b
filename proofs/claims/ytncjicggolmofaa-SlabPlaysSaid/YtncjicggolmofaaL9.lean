import Derived.Test.YtncjicggolmofaaXM
import Derived.Test.YtncjicggolmofaaW3
import Derived.Test.YtncjicggolmofaaFrame4
namespace Go.Proofs.Ytncjicggolmofaa.Sb
open Go Go.RowKit
set_option linter.unusedVariables false
set_option linter.unusedSimpArgs false
theorem fC_mem {S : Sc} {o : Int} {n : Nat} (h : ∀ c ∈ S.sl, c.2.length ≤ n) : ∀ c ∈ fC S o, c.2.length ≤ n := fun c hc => by
  unfold fC at hc
  rcases List.mem_or_eq_of_mem_set hc with hc | rfl
  · exact h c hc
  · show ((us S (fI S o)).set _ _).length ≤ n
    rw [List.length_set]
    by_cases hk : fI S o < S.sl.length
    · exact h _ (cAt_mem hk)
    · unfold us cAt
      rw [List.getD_eq_getElem?_getD, List.getElem?_eq_none (by omega)]
      exact Nat.zero_le _
theorem fL_bd {S : Sc} {o : Int} {n m : Nat} (h : ∀ c ∈ S.sl, c.2.length ≤ n) (hm : S.sl.length ≤ m) : (fL S o).length ≤ m ∧ ∀ c ∈ fL S o, c.2.length ≤ n := by
  unfold fL
  split
  · split
    · refine ⟨by rw [List.length_append, List.length_take, List.length_drop]; omega, fun c hc => ?_⟩
      rcases List.mem_append.1 hc with hc | hc
      · exact h c (List.mem_of_mem_take hc)
      · exact h c (List.mem_of_mem_drop hc)
    · refine ⟨?_, fC_mem h⟩
      unfold fC
      rw [List.length_set]; exact hm
  · exact ⟨Nat.zero_le _, fun c hc => by cases hc⟩
theorem u8_of {n : Int} (h : (Lit.int .u8 n).wf = true) : 0 ≤ n ∧ n < 256 := by
  unfold Lit.wf at h
  simp only [Bool.and_eq_true, decide_eq_true_eq] at h
  have h1 : IntKind.u8.min = 0 := by decide
  have h2 : IntKind.u8.max = 255 := by decide
  omega
theorem PR.below {w w' : World} {A : Option Addr} {L : List (Int × Int)} (h : PR w A L) (hb : Below w.heap.size w w') : PR w' A L := fun hn => by
  obtain ⟨b, off, e, hlt, hc⟩ := h hn
  exact ⟨b, off, e, Nat.lt_of_lt_of_le hlt hb.size, fun k hk => ⟨(hb.cell (p := ⟨b, _, none⟩) hlt).trans (hc k hk).1, (hb.cell (p := ⟨b, _, none⟩) hlt).trans (hc k hk).2⟩⟩
def Lb (S : Sc) : Prop := S.sl.length ≤ 256 ∧ ∀ k, k < S.sl.length → (us S k).length ≤ 256
theorem lb_al {S : Sc} {n : Int} {fs : Is} (h0 : alE S n fs = 0) : Lb ⟨S.ob, alL S n fs⟩ := by
  have V := vd_of (al_facts h0).1
  exact ⟨V.wf.len, fun k hk => by have h := V.wf.l32 hk; exact Nat.le_trans h (by omega)⟩
theorem lb_fr {S : Sc} {o : Int} (h : Lb S) : Lb ⟨fO S o, fL S o⟩ := by
  have BD := fL_bd (S := S) (o := o) (n := 256) (m := 256) (fun c hc => by
    obtain ⟨j, hj, rfl⟩ := List.mem_iff_getElem.1 hc
    have := h.2 j hj
    unfold us at this
    rw [cAt_get hj] at this
    exact this) h.1
  exact ⟨BD.1, fun k hk => BD.2 _ (cAt_mem hk)⟩
set_option maxRecDepth 100000 in
set_option maxHeartbeats 16000000 in
theorem law_plays (x : Int) (hx : 0 ≤ x ∧ x < 256) (Ao : Option Addr) (co : Nat) (L : List (Int × Int)) (w : World) (hL : PR w Ao L) (hlen : L.length ≤ 9223372036854775807) (hb : ∀ k, k < L.length → (-9223372036854775808 ≤ (L.getD k (0, 0)).1 ∧ (L.getD k (0, 0)).1 ≤ 9223372036854775807) ∧ (-9223372036854775808 ≤ (L.getD k (0, 0)).2 ∧ (L.getD k (0, 0)).2 ≤ 9223372036854775807)) : Calls Try.prog 7 #[.int .u8 x, .slice Ao L.length co] w fun e w' => e = .returned (.bool true) ∧ Below w.heap.size w w' := by
  have AWK := hide (fun w => awake_any w)
  have K := hide (brefl w)
  have HL := hide (fun w' (h : Below w.heap.size w w') => hL.below h)
  have HB := hide hb
  clear hL hb
  by_cases h30 : (30 : Int) < L.length
  · clear HL HB
    go_enter Try.func7, Try.ntmps7
    go_wp2_with fail
    refine (AWK.out _).mono ?_
    rintro e w1 ⟨rfl, hb⟩
    replace K := hide (btrans K.out hb)
    clear hb
    go_wp2
    go_ret
    exact ⟨rfl, K.out⟩
  have NW := hide (fun n w => new_any n w)
  have RN := hide (fun n w => rnew_any n w)
  have hl30 : L.length ≤ 30 := by omega
  have HL30 := hide hl30
  clear hl30
  go_enter Try.func7, Try.ntmps7
  go_upto_region 4 with fail
  have e0 : nwO (1 + x % 32) = 1 + x % 32 := if_pos (by omega)
  have e1 : nwE (1 + x % 32) = 0 := if_pos (by omega)
  have N1 := hide (NW.out (1 + x % 32) w)
  have N2 := hide (fun w => RN.out (1 + x % 32) w)
  rw [e0, e1] at N1
  simp only [e0, e1] at N2
  clear e0 e1 NW RN
  generalize 1 + x % 32 = n at *
  generalize x % 32 = x32 at *
  go_wp2_with fail
  refine N1.out.mono ?_
  rintro e w1 ⟨rfl, hb⟩
  replace K := hide (btrans K.out hb)
  clear hb N1
  have M := bal (brefl w1) (.cells #[.int .i64 n, .slice none 0 0] 24)
  have X6 := hide (Box.new w1 24 #[.int .i64 n, .slice none 0 0])
  have G6 := hide (show w.heap.size ≤ w1.heap.size from K.out.size)
  replace K := hide (btrans K.out M)
  clear M
  go_upto_region 5 with fail
  obtain ⟨g6, hg6⟩ : ∃ g, g = w1.heap.size := ⟨_, rfl⟩
  rw [← hg6] at X6 G6 ⊢
  clear hg6
  generalize w1.alloc (.cells #[.int .i64 n, .slice none 0 0] 24) = w2 at *
  go_wp2_with fail
  refine (N2.out _).mono ?_
  rintro e w3 ⟨rfl, hb⟩
  replace K := hide (btrans K.out hb)
  replace X6 := hide (X6.out.below hb)
  clear hb N2
  have M := bal (brefl w3) (.cells #[.int .i64 n, .slice none 0 0] 24)
  have X8 := hide (Box.new w3 24 #[.int .i64 n, .slice none 0 0])
  have G68 := hide (show g6 < w3.heap.size from X6.out.lt)
  have G8 := hide (show w.heap.size ≤ w3.heap.size from K.out.size)
  replace K := hide (btrans K.out M)
  replace X6 := hide (X6.out.below M)
  clear M
  go_upto_region 6 with fail
  obtain ⟨g8, hg8⟩ : ∃ g, g = w3.heap.size := ⟨_, rfl⟩
  rw [← hg8] at X8 G68 G8 ⊢
  clear hg8
  generalize w3.alloc (.cells #[.int .i64 n, .slice none 0 0] 24) = w4 at *
  go_upto_region 10 with fail
  go_loopw [10, 11, 12, 13, 14, 15, 16, 17, 18, 19, 20, 21, 22, 23, 24, 25, 26] (fun vf vi _ _ _ _ _ _ _ _ _ _ _ _ _ _ _ wx => ∃ (k : Nat) (f : Int) (S : Sc) (A6 : Option Addr) (c6 : Nat) (A8 : Option Addr) (c8 : Nat), vf = .int .i64 f ∧ vi = .int .i64 k ∧ k ≤ L.length ∧ Hid (0 ≤ f ∧ f ≤ 60 * k) ∧ Hid (Lb S) ∧ Hid (Below w.heap.size w wx) ∧ Hid (Box wx g6 24 #[.int .i64 S.ob, .slice A6 S.sl.length c6]) ∧ Hid (Box wx g8 24 #[.int .i64 S.ob, .slice A8 S.sl.length c8]) ∧ Hid (OwnC w.heap.size wx (.slice A6 S.sl.length c6) S.sl) ∧ Hid (OwnC w.heap.size wx (.slice A8 S.sl.length c8) S.sl)) (fun _ vi _ _ _ _ _ _ _ _ _ _ _ _ _ _ _ _ => L.length - (intOf vi).toNat)
  case atStart => exact ⟨0, 0, ⟨n, []⟩, none, 0, none, 0, rfl, rfl, Nat.zero_le _, hide ⟨by omega, by omega⟩, hide ⟨Nat.zero_le _, fun k hk => absurd hk (Nat.not_lt_zero k)⟩, K, X6, X8, hide (OwnC.nil _ _), hide (OwnC.nil _ _)⟩
  case round =>
    clear K X6 X8
    obtain ⟨k, f, S, A6, c6, A8, c8, rfl, rfl, hk, HF, LBS, K, X6, X8, O6, O8⟩ := hrel
    by_cases hlk : k < L.length
    · have hl2 : (k : Int) < (L.length : Int) := by omega
      have hk0 : (0 : Int) ≤ (k : Int) := by omega
      have hk30 : k < 30 := by have := HL30.out; omega
      have HK30 := hide hk30
      obtain ⟨bo, oo, eA, hlb, hcc⟩ := HL.out _ K.out (by rintro rfl; exact absurd hlk (Nat.not_lt_zero k))
      subst eA
      obtain ⟨y0, y1⟩ := hcc k hlk
      have HBK := hide (HB.out k hlk)
      clear hcc hk30
      generalize L.getD k (0, 0) = o at *
      obtain ⟨N, ob⟩ := o
      dsimp only at y0 y1
      have M := bal (brefl wr) (.cells #[.int .i64 N, .int .i64 ob] 44)
      have X12 := hide (Box.new wr 44 #[.int .i64 N, .int .i64 ob])
      replace K := hide (btrans K.out M)
      replace X6 := hide (X6.out.below M)
      replace X8 := hide (X8.out.below M)
      replace O6 := hide (OwnC.below O6.out M)
      replace O8 := hide (OwnC.below O8.out M)
      clear M
      go_upto_region 13 with fail
      obtain ⟨g12, hg12⟩ : ∃ g, g = wr.heap.size := ⟨_, rfl⟩
      rw [← hg12] at X12 ⊢
      clear hg12 y0 y1 hlb
      generalize wr.alloc (.cells #[.int .i64 N, .int .i64 ob] 44) = wa at *
      by_cases hN : 0 < N
      · have hNd : decide (0 < N) = true := decide_eq_true hN
        obtain ⟨x0, x1⟩ : wa.cell? ⟨g12, 0, none⟩ = some (.int .i64 N) ∧ wa.cell? ⟨g12, 1, none⟩ = some (.int .i64 ob) := ⟨X12.out.cell 0, X12.out.cell 1⟩
        go_upto_region 15 with fail
        obtain ⟨m, hm⟩ : ∃ m, m = min N 40 := ⟨_, rfl⟩
        have hmr : 1 ≤ m ∧ m ≤ 40 := by omega
        rw [← hm]
        clear hm
        have RNC := hide (fun W (h : RdC W A8 S.sl) => rneed_any A8 c8 S m W h (by omega) (by have := LBS.out.1; omega) (fun k hk => by have := LBS.out.2 k hk; omega))
        obtain ⟨y0, y1⟩ : wa.cell? ⟨g8, 0, none⟩ = some (.int .i64 S.ob) ∧ wa.cell? ⟨g8, 1, none⟩ = some (.slice A8 S.sl.length c8) := ⟨X8.out.cell 0, X8.out.cell 1⟩
        go_wp2_with fail
        refine (RNC.out _ O8.out.rd).mono ?_
        rintro e w5 ⟨rfl, hb⟩
        replace K := hide (btrans K.out hb)
        replace X6 := hide (X6.out.below hb)
        replace X8 := hide (X8.out.below hb)
        replace O6 := hide (OwnC.below O6.out hb)
        replace O8 := hide (OwnC.below O8.out hb)
        clear hb x0 x1 y0 y1 RNC X12
        have NXC := hide (fun n W => next_any f n W (by have := HF.out; have := HK30.out; omega))
        generalize ndN S m = nd at *
        go_wp2_with fail
        refine (NXC.out nd _).mono ?_
        rintro e w6 ⟨⟨Af, cf, rfl, hO⟩, hb⟩
        replace K := hide (btrans K.out hb)
        replace X6 := hide (X6.out.below hb)
        replace X8 := hide (X8.out.below hb)
        replace O6 := hide (OwnC.below O6.out hb)
        replace O8 := hide (OwnC.below O8.out hb)
        have HFL := hide (show (nx f (nxN nd)).length ≤ 60 by rw [nx_len]; unfold nxN; omega)
        have BF := hide (OwI.bi hO)
        clear hb hO NXC
        generalize nx f (nxN nd) = fs at *
        have AL := hide (fun W (h : RdC W A6 S.sl) (h2 : Bi W Af fs) => alloc_any A6 c6 S m Af cf fs W h (by have := LBS.out.1; omega) (fun k hk => by have := LBS.out.2 k hk; omega) (by omega) h2 (by have := HFL.out; omega))
        have RA := hide (fun W (h : RdC W A8 S.sl) (h2 : Bi W Af fs) => ralloc_any A8 c8 S m Af cf fs W h (by have := LBS.out.1; omega) (fun k hk => by have := LBS.out.2 k hk; omega) (by omega) h2 (by have := HFL.out; omega))
        unfold AlR at AL RA
        have BD := hide (al_bd S m fs (by omega))
        obtain ⟨S2, hS2⟩ : ∃ s, s = Sc.mk (alB S m fs) (alL S m fs) := ⟨_, rfl⟩
        have a1 : alB S m fs = S2.ob := by rw [hS2]
        have a2 : alL S m fs = S2.sl := by rw [hS2]
        have LB2 := hide (show alE S m fs = 0 → Lb S2 from fun h => by rw [hS2, show alB S m fs = S.ob from if_pos h]; exact lb_al h)
        rw [a1, a2] at AL RA
        rw [a2] at BD
        clear hS2 a1 a2 hmr
        generalize alE S m fs = fe at *
        obtain ⟨fi, hfi⟩ : ∃ l, l = alI S m fs := ⟨_, rfl⟩
        rw [← hfi] at AL RA BD
        clear hfi
        have SM := hide (fun A1 c1 A2 c2 W (h1 : RdC W A1 S2.sl) (h2 : RdC W A2 S2.sl) => (show Calls Try.prog 18 #[.agg #[.int .i64 S2.ob, .slice A1 S2.sl.length c1], .agg #[.int .i64 S2.ob, .slice A2 S2.sl.length c2]] W fun e w' => e = .returned (.bool true) ∧ Below W.heap.size W w' from
          (same_any A1 A2 c1 c2 S2 S2 W h1 h2 (by have := BD.out.1; omega) (by have := BD.out.1; omega) BD.out.2.1 BD.out.2.1).mono (fun e w' h => ⟨by rw [h.1, decide_eq_true ⟨rfl, rfl⟩], h.2⟩)))
        have EQ := hide (fun A1 c1 A2 c2 W (h1 : Bi W A1 fi) (h2 : Bi W A2 fi) => (show Calls Try.prog 23 #[.slice A1 fi.length c1, .slice A2 fi.length c2] W fun e w' => e = .returned (.bool true) ∧ Below W.heap.size W w' from
          (equal_any A1 A2 c1 c2 fi fi W h1 h2 BD.out.2.2).mono (fun e w' h => ⟨by rw [h.1, decide_eq_true rfl], h.2⟩)))
        obtain ⟨y0, y1⟩ : w6.cell? ⟨g6, 0, none⟩ = some (.int .i64 S.ob) ∧ w6.cell? ⟨g6, 1, none⟩ = some (.slice A6 S.sl.length c6) := ⟨X6.out.cell 0, X6.out.cell 1⟩
        go_wp2_with fail
        refine (AL.out _ O6.out.rd BF.out).mono ?_
        rintro e w7 ⟨v, Ai3, ci3, rfl, hD, hO, hb⟩
        obtain ⟨A15, c15, ev, _⟩ := hD.c.form
        subst ev
        have B3 := hide (OwI.bi hO)
        have O15 := hide (OwnC.mono hD.c K.out.size)
        replace K := hide (btrans K.out hb)
        replace X6 := hide (X6.out.below hb)
        replace X8 := hide (X8.out.below hb)
        replace O6 := hide (OwnC.below O6.out hb)
        replace O8 := hide (OwnC.below O8.out hb)
        replace BF := hide (BF.out.below hb)
        clear hb hD hO y0 y1 AL
        have M := bal (brefl w7) (.cells #[.int .i64 S2.ob, .slice A15 S2.sl.length c15] 24)
        have X15 := hide (Box.new w7 24 #[.int .i64 S2.ob, .slice A15 S2.sl.length c15])
        have E15 := hide (show g8 < w7.heap.size from X8.out.lt)
        replace K := hide (btrans K.out M)
        replace X6 := hide (X6.out.below M)
        replace X8 := hide (X8.out.below M)
        replace O6 := hide (OwnC.below O6.out M)
        replace O8 := hide (OwnC.below O8.out M)
        replace BF := hide (BF.out.below M)
        replace B3 := hide (B3.out.below M)
        replace O15 := hide (OwnC.below O15.out M)
        clear M
        go_upto_region 17 with fail
        obtain ⟨g15, hg15⟩ : ∃ g, g = w7.heap.size := ⟨_, rfl⟩
        rw [← hg15] at X15 E15 ⊢
        clear hg15
        generalize w7.alloc (.cells #[.int .i64 S2.ob, .slice A15 S2.sl.length c15] 24) = w8 at *
        obtain ⟨y0, y1⟩ : w8.cell? ⟨g8, 0, none⟩ = some (.int .i64 S.ob) ∧ w8.cell? ⟨g8, 1, none⟩ = some (.slice A8 S.sl.length c8) := ⟨X8.out.cell 0, X8.out.cell 1⟩
        go_wp2_with fail
        refine (RA.out _ O8.out.rd BF.out).mono ?_
        rintro e w9 ⟨v, Ai6, ci6, rfl, hD, hO, hb⟩
        obtain ⟨A18, c18, ev, _⟩ := hD.c.form
        subst ev
        have B6 := hide (OwI.bi hO)
        have O18 := hide (OwnC.mono hD.c K.out.size)
        replace K := hide (btrans K.out hb)
        replace X6 := hide (X6.out.below hb)
        replace X8 := hide (X8.out.below hb)
        replace O6 := hide (OwnC.below O6.out hb)
        replace O8 := hide (OwnC.below O8.out hb)
        replace B3 := hide (B3.out.below hb)
        replace O15 := hide (OwnC.below O15.out hb)
        replace X15 := hide (X15.out.below hb)
        clear hb hD hO y0 y1 RA BF
        have M := bal (brefl w9) (.cells #[.int .i64 S2.ob, .slice A18 S2.sl.length c18] 24)
        have X18 := hide (Box.new w9 24 #[.int .i64 S2.ob, .slice A18 S2.sl.length c18])
        have E18 := hide (show g8 < w9.heap.size from X8.out.lt)
        replace K := hide (btrans K.out M)
        replace X6 := hide (X6.out.below M)
        replace X8 := hide (X8.out.below M)
        replace O6 := hide (OwnC.below O6.out M)
        replace O8 := hide (OwnC.below O8.out M)
        replace B3 := hide (B3.out.below M)
        replace B6 := hide (B6.out.below M)
        replace O15 := hide (OwnC.below O15.out M)
        replace O18 := hide (OwnC.below O18.out M)
        replace X15 := hide (X15.out.below M)
        clear M
        go_upto_region 18 with fail
        obtain ⟨g18, hg18⟩ : ∃ g, g = w9.heap.size := ⟨_, rfl⟩
        rw [← hg18] at X18 E18 ⊢
        clear hg18
        generalize w9.alloc (.cells #[.int .i64 S2.ob, .slice A18 S2.sl.length c18] 24) = w10 at *
        have hce : (fe != fe) = false := by simp
        obtain ⟨y0, y1⟩ : w10.cell? ⟨g15, 0, none⟩ = some (.int .i64 S2.ob) ∧ w10.cell? ⟨g15, 1, none⟩ = some (.slice A15 S2.sl.length c15) := ⟨X15.out.cell 0, X15.out.cell 1⟩
        obtain ⟨z0, z1⟩ : w10.cell? ⟨g18, 0, none⟩ = some (.int .i64 S2.ob) ∧ w10.cell? ⟨g18, 1, none⟩ = some (.slice A18 S2.sl.length c18) := ⟨X18.out.cell 0, X18.out.cell 1⟩
        go_wp2_with fail
        refine (EQ.out Ai3 ci3 Ai6 ci6 _ B3.out B6.out).mono ?_
        rintro e w11 ⟨rfl, hb⟩
        replace K := hide (btrans K.out hb)
        replace X6 := hide (X6.out.below hb)
        replace X8 := hide (X8.out.below hb)
        replace O6 := hide (OwnC.below O6.out hb)
        replace O8 := hide (OwnC.below O8.out hb)
        replace O15 := hide (OwnC.below O15.out hb)
        replace O18 := hide (OwnC.below O18.out hb)
        replace X15 := hide (X15.out.below hb)
        replace X18 := hide (X18.out.below hb)
        clear hb y0 y1 z0 z1 EQ B3 B6
        obtain ⟨y0, y1⟩ : w11.cell? ⟨g15, 0, none⟩ = some (.int .i64 S2.ob) ∧ w11.cell? ⟨g15, 1, none⟩ = some (.slice A15 S2.sl.length c15) := ⟨X15.out.cell 0, X15.out.cell 1⟩
        obtain ⟨z0, z1⟩ : w11.cell? ⟨g18, 0, none⟩ = some (.int .i64 S2.ob) ∧ w11.cell? ⟨g18, 1, none⟩ = some (.slice A18 S2.sl.length c18) := ⟨X18.out.cell 0, X18.out.cell 1⟩
        go_wp2_with fail
        refine (SM.out A15 c15 A18 c18 _ O15.out.rd O18.out.rd).mono ?_
        rintro e w12 ⟨rfl, hb⟩
        replace K := hide (btrans K.out hb)
        replace X6 := hide (X6.out.below hb)
        replace X8 := hide (X8.out.below hb)
        replace O6 := hide (OwnC.below O6.out hb)
        replace O8 := hide (OwnC.below O8.out hb)
        replace O15 := hide (OwnC.below O15.out hb)
        replace O18 := hide (OwnC.below O18.out hb)
        replace X15 := hide (X15.out.below hb)
        replace X18 := hide (X18.out.below hb)
        clear hb y0 y1 z0 z1 SM BD hce
        have GG := hide (show g6 < g8 ∧ g8 < g15 ∧ g8 < g18 from ⟨G68.out, E15.out, E18.out⟩)
        by_cases hz : fe = 0
        · have LB3 := hide (LB2.out hz)
          subst hz
          have hfk : 0 ≤ f + (fs.length : Int) ∧ f + (fs.length : Int) ≤ 100000 := by have := HF.out; have := HFL.out; have := HK30.out; omega
          go_upto_region 21 with fail
          have KD : Below w12.heap.size w12 w12.drew := below_drewN (brefl _) 1
          replace K := hide (btrans K.out KD)
          replace X6 := hide (X6.out.below KD)
          replace X8 := hide (X8.out.below KD)
          replace X15 := hide (X15.out.below KD)
          replace X18 := hide (X18.out.below KD)
          replace O15 := hide (OwnC.below O15.out KD)
          replace O18 := hide (OwnC.below O18.out KD)
          clear KD
          refine wp_region_noPanic ?_
          refine wp_region_held_drew (S := (fun W => (W.cell? ⟨g15, 0, none⟩ = some (.int .i64 S2.ob) ∧ W.cell? ⟨g15, 1, none⟩ = some (.slice A15 S2.sl.length c15)) ∧ W.cell? ⟨g18, 0, none⟩ = some (.int .i64 S2.ob) ∧ W.cell? ⟨g18, 1, none⟩ = some (.slice A18 S2.sl.length c18))) (by kernel_rfl) ?_ (fun hHeld => ?_)
          · exact ⟨⟨X15.out.cell 0, X15.out.cell 1⟩, X18.out.cell 0, X18.out.cell 1⟩
          generalize w12.drew = wd at *
          refine wpAnyH_take (i := 0) (oi := ⟨some 101, _, _, _, _, _⟩) (v := ?_) rfl (by kernel_rfl) (by kernel_rfl) (by kernel_rfl) (fun _ _ _ h => h) (Or.inl ⟨by kernel_rfl, ?_⟩) (by assumption) ?_
          rotate_left 1
          · (intro w hSw; (try dsimp only at hSw); go_simp) <;> (with_reducible rfl)
          (try simp only [Act.put, List.setIfInBounds_toArray, List.set_cons_succ, List.set_cons_zero])
          refine wpAnyH_take (i := 1) (oi := ⟨some 102, _, _, _, _, _⟩) (v := ?_) rfl (by kernel_rfl) (by kernel_rfl) (by kernel_rfl) (fun _ _ _ h => h) (Or.inl ⟨by kernel_rfl, ?_⟩) (by assumption) ?_
          rotate_left 1
          · (intro w hSw; (try dsimp only at hSw); go_simp) <;> (with_reducible rfl)
          (try simp only [Act.put, List.setIfInBounds_toArray, List.set_cons_succ, List.set_cons_zero])
          refine wpAnyH_ready (rs := [2]) (by kernel_rfl) (by simp) ?_
          refine AllReadyH.cons (o := ⟨none, _, _, _, _, _⟩) rfl (fun K' hK => ?_) AllReadyH.nil
          refine wp_store_row 24 _ _ rfl g6 #[.int .i64 S2.ob, .slice A15 S2.sl.length c15] rfl rfl 24 _ X6.out (by kernel_rfl) rfl (by kernel_rfl) ?_
          have KP := kp_row24 (cs := #[.int .i64 S2.ob, .slice A15 S2.sl.length c15]) X6.out G6.out
          replace K := hide (K.out.trans KP.below)
          replace X8 := hide (box_row_far24 X8.out (by have := GG.out; omega) (g := g6) (cs := #[.int .i64 S2.ob, .slice A15 S2.sl.length c15]))
          replace X15 := hide (box_row_far24 X15.out (by have := GG.out; omega) (g := g6) (cs := #[.int .i64 S2.ob, .slice A15 S2.sl.length c15]))
          replace X18 := hide (box_row_far24 X18.out (by have := GG.out; omega) (g := g6) (cs := #[.int .i64 S2.ob, .slice A15 S2.sl.length c15]))
          replace O15 := hide (OwnC.kp O15.out KP (by decide) (by decide))
          replace O18 := hide (OwnC.kp O18.out KP (by decide) (by decide))
          replace X6 := hide (box_row24 (cs := #[.int .i64 S2.ob, .slice A15 S2.sl.length c15]) X6.out)
          obtain ⟨we, hwe⟩ : ∃ q, q = wd.setRow g6 #[.int .i64 S2.ob, .slice A15 S2.sl.length c15] := ⟨_, rfl⟩
          rw [← hwe] at K X6 X8 X15 X18 O15 O18
          rw [← hwe]
          clear hwe KP
          refine hK.out _ _ ?_ (fun hHeld => ?_)
          · exact ⟨⟨X15.out.cell 0, X15.out.cell 1⟩, X18.out.cell 0, X18.out.cell 1⟩
          clear hK K'
          (try simp only [Act.put, List.setIfInBounds_toArray, List.set_cons_succ, List.set_cons_zero])
          refine wpAnyH_ready (rs := [3]) (by kernel_rfl) (by simp) ?_
          refine AllReadyH.cons (o := ⟨none, _, _, _, _, _⟩) rfl (fun K' hK => ?_) AllReadyH.nil
          refine wp_store_row 24 _ _ rfl g8 #[.int .i64 S2.ob, .slice A18 S2.sl.length c18] rfl rfl 24 _ X8.out (by kernel_rfl) rfl (by kernel_rfl) ?_
          have KP := kp_row24 (cs := #[.int .i64 S2.ob, .slice A18 S2.sl.length c18]) X8.out G8.out
          replace K := hide (K.out.trans KP.below)
          replace X6 := hide (box_row_far24 X6.out (by have := GG.out; omega) (g := g8) (cs := #[.int .i64 S2.ob, .slice A18 S2.sl.length c18]))
          replace X15 := hide (box_row_far24 X15.out (by have := GG.out; omega) (g := g8) (cs := #[.int .i64 S2.ob, .slice A18 S2.sl.length c18]))
          replace X18 := hide (box_row_far24 X18.out (by have := GG.out; omega) (g := g8) (cs := #[.int .i64 S2.ob, .slice A18 S2.sl.length c18]))
          replace O15 := hide (OwnC.kp O15.out KP (by decide) (by decide))
          replace O18 := hide (OwnC.kp O18.out KP (by decide) (by decide))
          replace X8 := hide (box_row24 (cs := #[.int .i64 S2.ob, .slice A18 S2.sl.length c18]) X8.out)
          obtain ⟨wf, hwf⟩ : ∃ q, q = we.setRow g8 #[.int .i64 S2.ob, .slice A18 S2.sl.length c18] := ⟨_, rfl⟩
          rw [← hwf] at K X6 X8 X15 X18 O15 O18
          rw [← hwf]
          clear hwf KP
          refine hK.out _ _ ?_ (fun hHeld => ?_)
          · exact ⟨⟨X15.out.cell 0, X15.out.cell 1⟩, X18.out.cell 0, X18.out.cell 1⟩
          clear hK K'
          (try simp only [Act.put, List.setIfInBounds_toArray, List.set_cons_succ, List.set_cons_zero])
          refine wpAnyH_done (by kernel_rfl) ?_ _
          refine NoPanic.normal ?_
          clear hHeld
          go_wp2_with fail
          go_roundw
          case rel => exact ⟨k + 1, f + (fs.length : Int), S2, A15, c15, A18, c18, by go_num, by go_num, by omega, hide (by have := HF.out; have := HFL.out; omega), LB3, K, X6, X8, O15, O18⟩
          case measure => simp [intOf]; omega
        · have hq : (fe == 0) = false := beq_eq_false_iff_ne.2 hz
          go_wp2_with fail
          go_roundw
          case rel => exact ⟨k + 1, f, S, A6, c6, A8, c8, rfl, by go_num, by omega, hide (by have := HF.out; omega), LBS, K, X6, X8, O6, O8⟩
          case measure => simp [intOf]; omega
      · have hNd : decide (0 < N) = false := decide_eq_false hN
        have FR := hide (fun W (h : RdC W A6 S.sl) => free_any A6 c6 S ob W h (by have := LBS.out.1; omega) (fun k hk => by have := LBS.out.2 k hk; omega) HBK.out.2.1 HBK.out.2.2)
        have RF := hide (fun W (h : RdC W A8 S.sl) => rfree_any A8 c8 S ob W h (by have := LBS.out.1; omega) (fun k hk => by have := LBS.out.2 k hk; omega) HBK.out.2.1 HBK.out.2.2)
        have LB2' := lb_fr (o := ob) LBS.out
        obtain ⟨S2, hS2⟩ : ∃ s, s = Sc.mk (fO S ob) (fL S ob) := ⟨_, rfl⟩
        rw [← hS2] at LB2'
        have LB2 := hide LB2'
        have a1 : fO S ob = S2.ob := by rw [hS2]
        have a2 : fL S ob = S2.sl := by rw [hS2]
        rw [a1, a2] at FR RF
        clear hS2 a1 a2 LB2'
        generalize fE S ob = fe at *
        generalize fF S ob = ff at *
        have SM := hide (fun A1 c1 A2 c2 W (h1 : RdC W A1 S2.sl) (h2 : RdC W A2 S2.sl) => (show Calls Try.prog 18 #[.agg #[.int .i64 S2.ob, .slice A1 S2.sl.length c1], .agg #[.int .i64 S2.ob, .slice A2 S2.sl.length c2]] W fun e w' => e = .returned (.bool true) ∧ Below W.heap.size W w' from
          (same_any A1 A2 c1 c2 S2 S2 W h1 h2 (by have := LB2.out.1; omega) (by have := LB2.out.1; omega) (fun k hk => by have := LB2.out.2 k hk; omega) (fun k hk => by have := LB2.out.2 k hk; omega)).mono (fun e w' h => ⟨by rw [h.1, decide_eq_true ⟨rfl, rfl⟩], h.2⟩)))
        obtain ⟨x0, x1⟩ : wa.cell? ⟨g12, 0, none⟩ = some (.int .i64 N) ∧ wa.cell? ⟨g12, 1, none⟩ = some (.int .i64 ob) := ⟨X12.out.cell 0, X12.out.cell 1⟩
        obtain ⟨y0, y1⟩ : wa.cell? ⟨g6, 0, none⟩ = some (.int .i64 S.ob) ∧ wa.cell? ⟨g6, 1, none⟩ = some (.slice A6 S.sl.length c6) := ⟨X6.out.cell 0, X6.out.cell 1⟩
        go_wp2_with fail
        refine (FR.out _ O6.out.rd).mono ?_
        rintro e w7 ⟨v, rfl, hD, hb⟩
        obtain ⟨A21, c21, ev, _⟩ := hD.c.form
        subst ev
        have O21 := hide (OwnC.mono hD.c K.out.size)
        replace K := hide (btrans K.out hb)
        replace X6 := hide (X6.out.below hb)
        replace X8 := hide (X8.out.below hb)
        replace O6 := hide (OwnC.below O6.out hb)
        replace O8 := hide (OwnC.below O8.out hb)
        replace X12 := hide (X12.out.below hb)
        clear hb hD x0 x1 y0 y1 FR
        have M := bal (brefl w7) (.cells #[.int .i64 S2.ob, .slice A21 S2.sl.length c21] 24)
        have X21 := hide (Box.new w7 24 #[.int .i64 S2.ob, .slice A21 S2.sl.length c21])
        have E21 := hide (show g8 < w7.heap.size from X8.out.lt)
        replace K := hide (btrans K.out M)
        replace X6 := hide (X6.out.below M)
        replace X8 := hide (X8.out.below M)
        replace O6 := hide (OwnC.below O6.out M)
        replace O8 := hide (OwnC.below O8.out M)
        replace O21 := hide (OwnC.below O21.out M)
        replace X12 := hide (X12.out.below M)
        clear M
        go_upto_region 24 with fail
        obtain ⟨g21, hg21⟩ : ∃ g, g = w7.heap.size := ⟨_, rfl⟩
        rw [← hg21] at X21 E21 ⊢
        clear hg21
        generalize w7.alloc (.cells #[.int .i64 S2.ob, .slice A21 S2.sl.length c21] 24) = w8 at *
        obtain ⟨x0, x1⟩ : w8.cell? ⟨g12, 0, none⟩ = some (.int .i64 N) ∧ w8.cell? ⟨g12, 1, none⟩ = some (.int .i64 ob) := ⟨X12.out.cell 0, X12.out.cell 1⟩
        obtain ⟨y0, y1⟩ : w8.cell? ⟨g8, 0, none⟩ = some (.int .i64 S.ob) ∧ w8.cell? ⟨g8, 1, none⟩ = some (.slice A8 S.sl.length c8) := ⟨X8.out.cell 0, X8.out.cell 1⟩
        go_wp2_with fail
        refine (RF.out _ O8.out.rd).mono ?_
        rintro e w9 ⟨v, rfl, hD, hb⟩
        obtain ⟨A24, c24, ev, _⟩ := hD.form
        subst ev
        have O24 := hide (OwnC.mono hD K.out.size)
        replace K := hide (btrans K.out hb)
        replace X6 := hide (X6.out.below hb)
        replace X8 := hide (X8.out.below hb)
        replace O6 := hide (OwnC.below O6.out hb)
        replace O8 := hide (OwnC.below O8.out hb)
        replace O21 := hide (OwnC.below O21.out hb)
        replace X21 := hide (X21.out.below hb)
        clear hb hD x0 x1 y0 y1 RF X12
        have M := bal (brefl w9) (.cells #[.int .i64 S2.ob, .slice A24 S2.sl.length c24] 24)
        have X24 := hide (Box.new w9 24 #[.int .i64 S2.ob, .slice A24 S2.sl.length c24])
        have E24 := hide (show g8 < w9.heap.size from X8.out.lt)
        replace K := hide (btrans K.out M)
        replace X6 := hide (X6.out.below M)
        replace X8 := hide (X8.out.below M)
        replace O6 := hide (OwnC.below O6.out M)
        replace O8 := hide (OwnC.below O8.out M)
        replace O21 := hide (OwnC.below O21.out M)
        replace O24 := hide (OwnC.below O24.out M)
        replace X21 := hide (X21.out.below M)
        clear M
        go_upto_region 25 with fail
        obtain ⟨g24, hg24⟩ : ∃ g, g = w9.heap.size := ⟨_, rfl⟩
        rw [← hg24] at X24 E24 ⊢
        clear hg24
        generalize w9.alloc (.cells #[.int .i64 S2.ob, .slice A24 S2.sl.length c24] 24) = w10 at *
        have hce : (fe != fe) = false := by simp
        have hcf : (ff != ff) = false := by simp
        obtain ⟨y0, y1⟩ : w10.cell? ⟨g21, 0, none⟩ = some (.int .i64 S2.ob) ∧ w10.cell? ⟨g21, 1, none⟩ = some (.slice A21 S2.sl.length c21) := ⟨X21.out.cell 0, X21.out.cell 1⟩
        obtain ⟨z0, z1⟩ : w10.cell? ⟨g24, 0, none⟩ = some (.int .i64 S2.ob) ∧ w10.cell? ⟨g24, 1, none⟩ = some (.slice A24 S2.sl.length c24) := ⟨X24.out.cell 0, X24.out.cell 1⟩
        go_wp2_with fail
        refine (SM.out A21 c21 A24 c24 _ O21.out.rd O24.out.rd).mono ?_
        rintro e w12 ⟨rfl, hb⟩
        replace K := hide (btrans K.out hb)
        replace X6 := hide (X6.out.below hb)
        replace X8 := hide (X8.out.below hb)
        replace O6 := hide (OwnC.below O6.out hb)
        replace O8 := hide (OwnC.below O8.out hb)
        replace O21 := hide (OwnC.below O21.out hb)
        replace O24 := hide (OwnC.below O24.out hb)
        replace X21 := hide (X21.out.below hb)
        replace X24 := hide (X24.out.below hb)
        clear hb y0 y1 z0 z1 SM hce hcf
        have GG := hide (show g6 < g8 ∧ g8 < g21 ∧ g8 < g24 from ⟨G68.out, E21.out, E24.out⟩)
        by_cases hz : fe = 0
        · subst hz
          go_upto_region 28 with fail
          have KD : Below w12.heap.size w12 w12.drew := below_drewN (brefl _) 1
          replace K := hide (btrans K.out KD)
          replace X6 := hide (X6.out.below KD)
          replace X8 := hide (X8.out.below KD)
          replace X21 := hide (X21.out.below KD)
          replace X24 := hide (X24.out.below KD)
          replace O21 := hide (OwnC.below O21.out KD)
          replace O24 := hide (OwnC.below O24.out KD)
          clear KD
          refine wp_region_noPanic ?_
          refine wp_region_held_drew (S := (fun W => (W.cell? ⟨g21, 0, none⟩ = some (.int .i64 S2.ob) ∧ W.cell? ⟨g21, 1, none⟩ = some (.slice A21 S2.sl.length c21)) ∧ W.cell? ⟨g24, 0, none⟩ = some (.int .i64 S2.ob) ∧ W.cell? ⟨g24, 1, none⟩ = some (.slice A24 S2.sl.length c24))) (by kernel_rfl) ?_ (fun hHeld => ?_)
          · exact ⟨⟨X21.out.cell 0, X21.out.cell 1⟩, X24.out.cell 0, X24.out.cell 1⟩
          generalize w12.drew = wd at *
          refine wpAnyH_take (i := 0) (oi := ⟨some 139, _, _, _, _, _⟩) (v := ?_) rfl (by kernel_rfl) (by kernel_rfl) (by kernel_rfl) (fun _ _ _ h => h) (Or.inl ⟨by kernel_rfl, ?_⟩) (by assumption) ?_
          rotate_left 1
          · (intro w hSw; (try dsimp only at hSw); go_simp) <;> (with_reducible rfl)
          (try simp only [Act.put, List.setIfInBounds_toArray, List.set_cons_succ, List.set_cons_zero])
          refine wpAnyH_take (i := 1) (oi := ⟨some 140, _, _, _, _, _⟩) (v := ?_) rfl (by kernel_rfl) (by kernel_rfl) (by kernel_rfl) (fun _ _ _ h => h) (Or.inl ⟨by kernel_rfl, ?_⟩) (by assumption) ?_
          rotate_left 1
          · (intro w hSw; (try dsimp only at hSw); go_simp) <;> (with_reducible rfl)
          (try simp only [Act.put, List.setIfInBounds_toArray, List.set_cons_succ, List.set_cons_zero])
          refine wpAnyH_ready (rs := [2]) (by kernel_rfl) (by simp) ?_
          refine AllReadyH.cons (o := ⟨none, _, _, _, _, _⟩) rfl (fun K' hK => ?_) AllReadyH.nil
          refine wp_store_row 24 _ _ rfl g6 #[.int .i64 S2.ob, .slice A21 S2.sl.length c21] rfl rfl 24 _ X6.out (by kernel_rfl) rfl (by kernel_rfl) ?_
          have KP := kp_row24 (cs := #[.int .i64 S2.ob, .slice A21 S2.sl.length c21]) X6.out G6.out
          replace K := hide (K.out.trans KP.below)
          replace X8 := hide (box_row_far24 X8.out (by have := GG.out; omega) (g := g6) (cs := #[.int .i64 S2.ob, .slice A21 S2.sl.length c21]))
          replace X21 := hide (box_row_far24 X21.out (by have := GG.out; omega) (g := g6) (cs := #[.int .i64 S2.ob, .slice A21 S2.sl.length c21]))
          replace X24 := hide (box_row_far24 X24.out (by have := GG.out; omega) (g := g6) (cs := #[.int .i64 S2.ob, .slice A21 S2.sl.length c21]))
          replace O21 := hide (OwnC.kp O21.out KP (by decide) (by decide))
          replace O24 := hide (OwnC.kp O24.out KP (by decide) (by decide))
          replace X6 := hide (box_row24 (cs := #[.int .i64 S2.ob, .slice A21 S2.sl.length c21]) X6.out)
          obtain ⟨we, hwe⟩ : ∃ q, q = wd.setRow g6 #[.int .i64 S2.ob, .slice A21 S2.sl.length c21] := ⟨_, rfl⟩
          rw [← hwe] at K X6 X8 X21 X24 O21 O24
          rw [← hwe]
          clear hwe KP
          refine hK.out _ _ ?_ (fun hHeld => ?_)
          · exact ⟨⟨X21.out.cell 0, X21.out.cell 1⟩, X24.out.cell 0, X24.out.cell 1⟩
          clear hK K'
          (try simp only [Act.put, List.setIfInBounds_toArray, List.set_cons_succ, List.set_cons_zero])
          refine wpAnyH_ready (rs := [3]) (by kernel_rfl) (by simp) ?_
          refine AllReadyH.cons (o := ⟨none, _, _, _, _, _⟩) rfl (fun K' hK => ?_) AllReadyH.nil
          refine wp_store_row 24 _ _ rfl g8 #[.int .i64 S2.ob, .slice A24 S2.sl.length c24] rfl rfl 24 _ X8.out (by kernel_rfl) rfl (by kernel_rfl) ?_
          have KP := kp_row24 (cs := #[.int .i64 S2.ob, .slice A24 S2.sl.length c24]) X8.out G8.out
          replace K := hide (K.out.trans KP.below)
          replace X6 := hide (box_row_far24 X6.out (by have := GG.out; omega) (g := g8) (cs := #[.int .i64 S2.ob, .slice A24 S2.sl.length c24]))
          replace X21 := hide (box_row_far24 X21.out (by have := GG.out; omega) (g := g8) (cs := #[.int .i64 S2.ob, .slice A24 S2.sl.length c24]))
          replace X24 := hide (box_row_far24 X24.out (by have := GG.out; omega) (g := g8) (cs := #[.int .i64 S2.ob, .slice A24 S2.sl.length c24]))
          replace O21 := hide (OwnC.kp O21.out KP (by decide) (by decide))
          replace O24 := hide (OwnC.kp O24.out KP (by decide) (by decide))
          replace X8 := hide (box_row24 (cs := #[.int .i64 S2.ob, .slice A24 S2.sl.length c24]) X8.out)
          obtain ⟨wf, hwf⟩ : ∃ q, q = we.setRow g8 #[.int .i64 S2.ob, .slice A24 S2.sl.length c24] := ⟨_, rfl⟩
          rw [← hwf] at K X6 X8 X21 X24 O21 O24
          rw [← hwf]
          clear hwf KP
          refine hK.out _ _ ?_ (fun hHeld => ?_)
          · exact ⟨⟨X21.out.cell 0, X21.out.cell 1⟩, X24.out.cell 0, X24.out.cell 1⟩
          clear hK K'
          (try simp only [Act.put, List.setIfInBounds_toArray, List.set_cons_succ, List.set_cons_zero])
          refine wpAnyH_done (by kernel_rfl) ?_ _
          refine NoPanic.normal ?_
          clear hHeld
          go_wp2_with fail
          go_roundw
          case rel => exact ⟨k + 1, f, S2, A21, c21, A24, c24, rfl, by go_num, by omega, hide (by have := HF.out; omega), LB2, K, X6, X8, O21, O24⟩
          case measure => simp [intOf]; omega
        · have hq : (fe == 0) = false := beq_eq_false_iff_ne.2 hz
          go_wp2_with fail
          go_roundw
          case rel => exact ⟨k + 1, f, S, A6, c6, A8, c8, rfl, by go_num, by omega, hide (by have := HF.out; omega), LBS, K, X6, X8, O6, O8⟩
          case measure => simp [intOf]; omega
    · obtain rfl : k = L.length := by omega
      go_wp2_with fail
      refine (AWK.out _).mono ?_
      rintro e w1 ⟨rfl, hb⟩
      replace K := hide (btrans K.out hb)
      clear hb
      go_wp2
      go_ret
      exact ⟨rfl, K.out⟩
end Go.Proofs.Ytncjicggolmofaa.Sb
