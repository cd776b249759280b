import Derived.Test.YtcndbehgklkiiaaTM2
import Derived.Test.YtcndbehgklkiiaaFR
namespace Go.Proofs.Ytcndbehgklkiiaa.Ac
open Go Go.RowKit
set_option linter.unusedVariables false
set_option linter.unusedSimpArgs false
theorem own_n20 {B N : Nat} {w : World} {A : Option Addr} {c M : Nat} {G : List F4} (e : G.length = N) (h : w.ownsRow B 50 16 (.slice A M c) G.length (frs G)) : w.ownsRow B 50 16 (.slice A M c) N (frs G) := by
  rw [e] at h; exact h
theorem own_fs20 {B N : Nat} {w : World} {A : Option Addr} {c : Nat} {G : List F4} (e : G.length = N) (h : w.ownsRow B 50 16 (.slice A N c) N (frs G)) : Fs w A G := by
  subst e; exact OwF.fs h
theorem makeF (w : World) : (Instr.makeSlice 44 (.int .i64 20) (.int .i64 20)).run Try.prog w = .ok (.slice (some ⟨w.heap.size, 0, none⟩) 20 20) (w.alloc (.cells (madeCells #[.int .i64 0, .int .i64 0, .int .i64 0, .int .i64 0, .int .i64 0, .int .i64 0, .int .i64 0, .int .i64 0, .int .i64 0, .int .i64 0, .bool false, .bool false, .bool false, .int .i64 0, .slice none 0 0, .slice none 0 0] 320) 50)) := by
  obtain ⟨i0, hi0, hz0, hz1, hz2⟩ := info_parts info50
  have hr := run_make (P := Try.prog) w 44 50 i0 _ Try.underlying44 hi0 hz0 .i64 .i64 20 20 (by omega) (by omega) (by rw [hz2]; omega) (by omega)
  rw [hz1] at hr
  exact hr
theorem made20 : (madeCells #[.int .i64 0, .int .i64 0, .int .i64 0, .int .i64 0, .int .i64 0, .int .i64 0, .int .i64 0, .int .i64 0, .int .i64 0, .int .i64 0, .bool false, .bool false, .bool false, .int .i64 0, .slice none 0 0, .slice none 0 0] 320).toList = frs (List.replicate 20 f0) := by kernel_rfl
theorem own20 {w : World} {g B : Nat} (h : Box w g 50 (madeCells #[.int .i64 0, .int .i64 0, .int .i64 0, .int .i64 0, .int .i64 0, .int .i64 0, .int .i64 0, .int .i64 0, .int .i64 0, .int .i64 0, .bool false, .bool false, .bool false, .int .i64 0, .slice none 0 0, .slice none 0 0] 320)) (hB : B ≤ g) : w.ownsRow B 50 16 (.slice (some ⟨g, 0, none⟩) 20 20) 20 (frs (List.replicate 20 f0)) := by
  refine ⟨by rw [frs_length]; simp, .inr ⟨g, 20, _, rfl, hB, h, by omega, by simp only [maxLen]; omega, by rw [← Array.length_toList, made20, frs_length]; simp, ?_⟩⟩
  rw [made20, List.take_of_length_le (by rw [frs_length]; simp)]
theorem countP_set2 {p : F4 → Bool} : ∀ (L : List F4) (k : Nat) (f : F4), k < L.length → (L.set k f).countP p + (if p (fA L k) = true then 1 else 0) = L.countP p + (if p f = true then 1 else 0)
  | a :: l, 0, f, _ => by
    have e : fA (a :: l) 0 = a := rfl
    rw [e, List.set_cons_zero, List.countP_cons, List.countP_cons]
    omega
  | a :: l, k + 1, f, hk => by
    have e : fA (a :: l) (k + 1) = fA l k := rfl
    rw [e, List.set_cons_succ, List.countP_cons, List.countP_cons]
    have ih := countP_set2 (p := p) l k f (by simpa using hk)
    omega
theorem cN_P {G : List F4} {k : Nat} (h : k < G.length) (hd : (fA G k).d = true) (x : Int) : cN (stP G k x) = cN G := by
  have := countP_set2 (p := cnt) G k ⟨(fA G k).k, x, (fA G k).d, (fA G k).s⟩ h
  unfold cN stP
  unfold cnt at this ⊢
  rw [hd] at this ⊢
  simp only [Bool.true_or] at this ⊢
  omega
theorem cN_D {G : List F4} {k : Nat} (h : k < G.length) (x : Bool) : cN (stD G k x) ≤ cN G + 1 := by
  have := countP_set2 (p := cnt) G k ⟨(fA G k).k, (fA G k).p, x, (fA G k).s⟩ h
  unfold cN stD
  split at this <;> split at this <;> omega
theorem stP_len (L : List F4) (k : Nat) (x : Int) : (stP L k x).length = L.length := by unfold stP; simp
theorem stK_len (L : List F4) (k : Nat) (x : Int) : (stK L k x).length = L.length := by unfold stK; simp
theorem cN_clean {G : List F4} {k : Nat} (h : k < G.length) : cN (stP (stD G k false) k 0) ≤ cN G := by
  have e : stP (stD G k false) k 0 = G.set k ⟨(fA G k).k, 0, false, (fA G k).s⟩ := by
    unfold stP stD
    rw [List.set_set, fA_set h, if_pos rfl]
  rw [e]
  have := countP_set2 (p := cnt) G k ⟨(fA G k).k, 0, false, (fA G k).s⟩ h
  have hz : cnt ⟨(fA G k).k, 0, false, (fA G k).s⟩ = false := by unfold cnt; simp
  rw [hz] at this
  unfold cN
  simp at this
  omega
theorem cN_none {G : List F4} (h : ∀ i, i < G.length → (fA G i).d = false ∧ (fA G i).p = 0) : cN G = 0 := by
  unfold cN
  rw [List.countP_eq_zero]
  intro f hf
  obtain ⟨i, hi, e⟩ := List.mem_iff_getElem.1 hf
  have := h i hi
  rw [fA_get hi, e] at this
  unfold cnt
  rw [this.1, this.2]
  simp
set_option maxRecDepth 100000 in
set_option maxHeartbeats 8000000 in
theorem law_limits (A : Option Addr) (c : Nat) (l : List Int) (m : Int) (w : World) (h : Bu w A l) (hn : l.length ≤ 9223372036854775807) (hok : ∀ x ∈ l, 0 ≤ x ∧ x < 256) (m0 : 0 ≤ m) (m1 : m < 256) : Calls Try.prog 12 #[.slice A l.length c, .int .u8 m] w fun e w' => e = .returned (.bool true) ∧ Below w.heap.size w w' := by
  have CA := hide (fun w => awake_any w)
  have K := hide (brefl w)
  by_cases h3 : (100 : Int) < (l.length : Int)
  · clear h hok
    go_enter Try.func12, Try.ntmps12
    go_wp2_with fail
    refine (CA.out _).mono ?_
    rintro e w1 ⟨rfl, hb⟩
    replace K := hide (btrans K.out hb)
    clear hb
    go_wp2_with fail
    refine (CA.out _).mono ?_
    rintro e w2 ⟨rfl, hb⟩
    replace K := hide (btrans K.out hb)
    clear hb
    go_wp2
    go_ret
    exact ⟨rfl, K.out⟩
  · have HB := hide (fun w' (hb : Below w.heap.size w w') => h.below hb)
    have HO := hide (fun (k : Nat) (hk : k < l.length) => show 0 ≤ l.getD k 0 ∧ l.getD k 0 < 256 by
      rw [List.getD_eq_getElem?_getD, List.getElem?_eq_getElem hk]
      exact hok _ (List.getElem_mem hk))
    have hl : l.length ≤ 100 := by omega
    clear h hok hn
    have hwm : IntKind.i64.wrap m = m := by rw [IntKind.wrap_i64]; omega
    obtain ⟨B, hB⟩ : ∃ B, B = w.heap.size := ⟨_, rfl⟩
    have HZB := hide hB
    go_enter Try.func12, Try.ntmps12
    go_wp2_with fail
    refine (CA.out _).mono ?_
    rintro e w1 ⟨rfl, hb⟩
    replace K := hide (btrans K.out hb)
    clear hb
    obtain ⟨zz, hzz⟩ : ∃ zz : Array Value, zz = madeCells #[.int .i64 0, .int .i64 0, .int .i64 0, .int .i64 0, .int .i64 0, .int .i64 0, .int .i64 0, .int .i64 0, .int .i64 0, .int .i64 0, .bool false, .bool false, .bool false, .int .i64 0, .slice none 0 0, .slice none 0 0] 320 := ⟨_, rfl⟩
    have hmk : ∀ w, (Instr.makeSlice 44 (.int .i64 20) (.int .i64 20)).run Try.prog w = .ok (.slice (some ⟨w.heap.size, 0, none⟩) 20 20) (w.alloc (.cells zz 50)) := fun w => by rw [hzz]; exact makeF w
    have hle : B ≤ w1.heap.size := by rw [hB]; exact K.out.size
    have OW := hide (show (w1.alloc (.cells zz 50)).ownsRow B 50 16 (.slice (some ⟨w1.heap.size, 0, none⟩) 20 20) 20 (frs (List.replicate 20 f0)) by rw [hzz]; exact own20 (Box.new w1 50 _) hle)
    have HLE := hide hle
    replace K := hide (bal K.out (.cells zz 50))
    clear hzz hle hB
    go_upto_region 4 with fail
    obtain ⟨g, hg⟩ : ∃ g, g = w1.heap.size := ⟨_, rfl⟩
    rw [← hg] at OW HLE ⊢
    generalize w1.alloc (.cells zz 50) = w3 at *
    clear hg hmk CA h3
    have HGB := hide (show w.heap.size ≤ g by rw [← HZB.out]; exact HLE.out)
    go_wp2
    go_loopw [22] (fun i wr => ∃ (k : Nat) (G : List F4), k ≤ 20 ∧ i = .int .i64 k ∧ Hid (G.length = 20) ∧ Hid (∀ i, i < 20 → (fA G i).d = false ∧ (fA G i).p = 0) ∧ Hid (Below w.heap.size w wr) ∧ Hid (wr.ownsRow B 50 16 (.slice (some ⟨g, 0, none⟩) 20 20) 20 (frs G))) (fun i _ => 20 - (intOf i).toNat)
    case atStart => exact ⟨0, List.replicate 20 f0, Nat.zero_le _, rfl, hide (by simp), hide (fun i hi => by
      have e : fA (List.replicate 20 f0) i = f0 := by unfold fA; rw [List.getD_eq_getElem?_getD, List.getElem?_replicate, if_pos hi]; rfl
      rw [e]; exact ⟨rfl, rfl⟩), K, OW⟩
    case round =>
      clear K OW
      obtain ⟨k, G, hk, rfl, GL, GZ, K, OW⟩ := hrel
      by_cases hlt : k < 20
      · have hl2 : (k : Int) < 20 := by omega
        have hk0 : (0 : Int) ≤ (k : Int) := by omega
        have f0' := OW.out.frozenAt (k * 16)
        have c0' : wr.cell? ⟨g, k * 16, none⟩ = some (.int .i64 (fA G k).k) := by
          have := frs_at (L := G) (k := k) (by rw [GL.out]; exact hlt) 0 (by omega)
          rw [Nat.add_zero] at this
          rw [OW.out.cellAt (k * 16) (by omega), this]; rfl
        have ST := hide (OW.out.stored (k * 16) (.int .i64 4)).1
        rw [frs_K (by rw [GL.out]; exact hlt)] at ST
        have KS := hide (K.out.setCell (p := ⟨g, k * 16, none⟩) HGB.out (.int .i64 4))
        have GL2 := hide ((stK_len G k 4).trans GL.out)
        have GZ2 := hide (fun i (hi : i < 20) => show (fA (stK G k 4) i).d = false ∧ (fA (stK G k 4) i).p = 0 by
          unfold stK
          rw [fA_set (by rw [GL.out]; exact hlt)]
          split
          · exact ⟨(GZ.out k hlt).1, (GZ.out k hlt).2⟩
          · exact GZ.out i hi)
        generalize (fA G k).k = kk at *
        clear GL GZ K OW
        go_wp2
        go_roundw
        case rel => first | exact ⟨k + 1, _, by omega, by go_num, GL2, GZ2, KS, ST⟩ | ((repeat apply Exists.intro); exact ⟨⟨k + 1, _, by omega, by go_num, GL2, GZ2, KS, ST⟩, rfl⟩)
        case measure => simp [intOf]; omega
      · obtain rfl : k = 20 := by omega
        have CZ := hide (show cN G ≤ m.toNat by rw [cN_none (by rw [GL.out]; exact GZ.out)]; omega)
        clear GZ hk hlt
        go_wp2
        go_loopw [32] (fun i wr => ∃ (k : Nat) (G : List F4), k ≤ l.length ∧ i = .int .i64 k ∧ Hid (G.length = 20) ∧ Hid (cN G ≤ m.toNat) ∧ Hid (Below w.heap.size w wr) ∧ Hid (wr.ownsRow B 50 16 (.slice (some ⟨g, 0, none⟩) 20 20) 20 (frs G))) (fun i _ => l.length - (intOf i).toNat)
        case atStart => exact ⟨0, G, Nat.zero_le _, rfl, GL, CZ, K, OW⟩
        case round =>
          clear K OW GL CZ
          obtain ⟨k, G, hk, rfl, GL, CZ, K, OW⟩ := hrel
          by_cases hlt : k < l.length
          · have hl2 : (k : Int) < (l.length : Int) := by omega
            have hk0 : (0 : Int) ≤ (k : Int) := by omega
            obtain ⟨b, off, rfl, hbl, hc⟩ := HB.out _ K.out (by rintro rfl; simp at hlt)
            have y := hc k hlt
            obtain ⟨x0, x1⟩ := HO.out k hlt
            generalize l.getD k 0 = x at *
            obtain ⟨xn, rfl⟩ : ∃ xn : Nat, x = xn := ⟨x.toNat, by omega⟩
            clear hc
            obtain ⟨j, hj⟩ : ∃ j, j = xn % 20 := ⟨_, rfl⟩
            have hj20 : j < 20 := by omega
            have hjI : (j : Int) < 20 := by omega
            have hr1 : (xn : Int).tmod 20 = (j : Int) := by rw [Int.tmod_eq_emod_of_nonneg (by omega)]; omega
            have hr2 : IntKind.u8.wrap (j : Int) = j := by rw [IntKind.wrap_u8]; omega
            have hr3 : IntKind.i64.wrap (j : Int) = j := by rw [IntKind.wrap_i64]; omega
            have hjg : j < G.length := by rw [GL.out]; exact hj20
            have c10 : wr.cell? ⟨g, j * 16 + 10, none⟩ = some (.bool (fA G j).d) := by
              rw [OW.out.cellAt (j * 16 + 10) (by omega), frs_at hjg 10 (by omega)]; rfl
            have f10 := OW.out.frozenAt (j * 16 + 10)
            have f1 := OW.out.frozenAt (j * 16 + 1)
            have c1 : wr.cell? ⟨g, j * 16 + 1, none⟩ = some (.int .i64 (fA G j).p) := by
              rw [OW.out.cellAt (j * 16 + 1) (by omega), frs_at hjg 1 (by omega)]; rfl
            have SP := hide (OW.out.stored (j * 16 + 1) (.int .i64 4)).1
            rw [frs_P hjg] at SP
            have SD := hide (OW.out.stored (j * 16 + 10) (.bool true)).1
            rw [frs_D hjg] at SD
            have SC := hide (OW.out.stored (j * 16 + 10) (.bool false)).1
            rw [frs_D hjg] at SC
            have SC2 := hide (SC.out.stored (j * 16 + 1) (.int .i64 0)).1
            rw [frs_P (by rw [stD_len]; exact hjg)] at SC2
            have KP := hide (K.out.setCell (p := ⟨g, j * 16 + 1, none⟩) HGB.out (.int .i64 4))
            have KD := hide (K.out.setCell (p := ⟨g, j * 16 + 10, none⟩) HGB.out (.bool true))
            have KC := hide ((K.out.setCell (p := ⟨g, j * 16 + 10, none⟩) HGB.out (.bool false)).setCell (p := ⟨g, j * 16 + 1, none⟩) HGB.out (.int .i64 0))
            have NP := hide (fun hd : (fA G j).d = true => show cN (stP G j 4) ≤ m.toNat by rw [cN_P hjg hd]; exact CZ.out)
            have ND := hide (fun hd : (cN G : Int) < m => show cN (stD G j true) ≤ m.toNat by have := cN_D hjg true; omega)
            have NC := hide (show cN (stP (stD G j false) j 0) ≤ m.toNat from Nat.le_trans (cN_clean hjg) CZ.out)
            have LP := hide (show (stP G j 4).length = 20 by rw [stP_len]; exact GL.out)
            have LD := hide (show (stD G j true).length = 20 by rw [stD_len]; exact GL.out)
            have LC := hide (show (stP (stD G j false) j 0).length = 20 by rw [stP_len, stD_len]; exact GL.out)
            have CW := hide (fun w' (hb : Below wr.heap.size wr w') => allowed_any (some ⟨g, 0, none⟩) 20 G m w' ((own_fs20 GL.out OW.out).below hb) (by have := GL.out; omega))
            rw [GL.out] at CW
            have OWB := hide (fun w' (hb : Below wr.heap.size wr w') => row_below OW.out hb)
            generalize (fA G j).d = fd at *
            generalize (fA G j).p = fp at *
            clear hj
            by_cases x2 : 160 ≤ (xn : Int)
            · have d2 : decide (160 ≤ (xn : Int)) = true := by simpa using x2
              have x3 : 80 ≤ (xn : Int) := by omega
              have d3 : decide (80 ≤ (xn : Int)) = true := by simpa using x3
              cases fd
              · clear SP SD KP KD ND NP LP LD CW OWB
                go_upto_region 19 with fail
                clear c10 f10 f1 c1 K OW GL CZ y SC
                generalize (wr.setCell ⟨g, j * 16 + 10, none⟩ (.bool false)).setCell ⟨g, j * 16 + 1, none⟩ (.int .i64 0) = w5 at *
                generalize stP (stD G j false) j 0 = G2 at *
                obtain ⟨NN, LX, KX, SX⟩ : Hid (cN G2 ≤ m.toNat) ∧ Hid (G2.length = 20) ∧ Hid (Below w.heap.size w w5) ∧ Hid (w5.ownsRow B 50 16 (.slice (some ⟨g, 0, none⟩) 20 20) 20 (frs G2)) := ⟨NC, LC, KC, SC2⟩
                have R := hide (own_fs20 LX.out SX.out)
                have C1 := hide (count_any (some ⟨g, 0, none⟩) 20 G2 w5 R.out (by have := LX.out; omega))
                rw [LX.out] at C1
                go_wp2_with fail
                refine C1.out.mono ?_
                rintro e w6 ⟨rfl, hb⟩
                replace R := hide (R.out.below hb)
                replace SX := hide (row_below SX.out hb)
                replace KX := hide (btrans KX.out hb)
                have C2 := hide (fun w' (hb : Below w6.heap.size w6 w') => allowed_any (some ⟨g, 0, none⟩) 20 G2 m w' (R.out.below hb) (by have := LX.out; omega))
                rw [LX.out] at C2
                have hcm := NN.out
                have BG := hide (fun w => bg_any (cN G2 : Int) m (by unfold i64r; omega) (by unfold i64r; omega) w)
                have BE := hide (show bgE (cN G2 : Int) m = decide (0 ≤ m ∧ m < 2 * (cN G2 : Int)) from rfl)
                generalize hcn : cN G2 = cn at *
                have HCN := hide hcn
                clear hb C1 hcn
                have e1 : decide ((cn : Int) < 0) = false := by simp
                have e2 : decide (m < (cn : Int)) = false := by simp; omega
                generalize bgE (cn : Int) m = bb at *
                replace NN := hide (show cN G2 ≤ m.toNat by rw [HCN.out]; exact hcm)
                go_wp2_with fail
                refine (BG.out _).mono ?_
                rintro e w7 ⟨rfl, rfl⟩
                cases bb
                · by_cases hm : 0 < m
                  · have dm : decide (0 < m) = true := by simpa using hm
                    have ha : (cn : Int) < m := by
                      have := of_decide_eq_false BE.out.symm
                      omega
                    rw [decide_eq_true ha] at C2
                    clear ha BE BG hcm
                    go_wp2_with fail
                    refine (C2.out _ (brefl _)).mono ?_
                    rintro e w7 ⟨rfl, hb⟩
                    replace SX := hide (row_below SX.out hb)
                    replace KX := hide (btrans KX.out hb)
                    clear hb C2 R
                    go_wp2
                    go_roundw
                    case rel => first | exact ⟨k + 1, G2, by omega, by go_num, LX, NN, KX, SX⟩ | ((repeat apply Exists.intro); exact ⟨⟨k + 1, G2, by omega, by go_num, LX, NN, KX, SX⟩, rfl⟩)
                    case measure => simp [intOf]; omega
                  · have dm : decide (0 < m) = false := by simpa using hm
                    clear BE BG hcm C2 R
                    go_wp2
                    go_roundw
                    case rel => first | exact ⟨k + 1, G2, by omega, by go_num, LX, NN, KX, SX⟩ | ((repeat apply Exists.intro); exact ⟨⟨k + 1, G2, by omega, by go_num, LX, NN, KX, SX⟩, rfl⟩)
                    case measure => simp [intOf]; omega
                · clear BE BG hcm C2 R
                  go_wp2
                  go_roundw
                  case rel => first | exact ⟨k + 1, G2, by omega, by go_num, LX, NN, KX, SX⟩ | ((repeat apply Exists.intro); exact ⟨⟨k + 1, G2, by omega, by go_num, LX, NN, KX, SX⟩, rfl⟩)
                  case measure => simp [intOf]; omega
              · have NN := hide (NP.out rfl)
                clear SD SC SC2 KD KC NC ND NP LD LC CW OWB
                go_upto_region 19 with fail
                clear c10 f10 f1 c1 K OW GL CZ y
                generalize wr.setCell ⟨g, j * 16 + 1, none⟩ (.int .i64 4) = w5 at *
                generalize stP G j 4 = G2 at *
                obtain ⟨LX, KX, SX⟩ : Hid (G2.length = 20) ∧ Hid (Below w.heap.size w w5) ∧ Hid (w5.ownsRow B 50 16 (.slice (some ⟨g, 0, none⟩) 20 20) 20 (frs G2)) := ⟨LP, KP, SP⟩
                have R := hide (own_fs20 LX.out SX.out)
                have C1 := hide (count_any (some ⟨g, 0, none⟩) 20 G2 w5 R.out (by have := LX.out; omega))
                rw [LX.out] at C1
                go_wp2_with fail
                refine C1.out.mono ?_
                rintro e w6 ⟨rfl, hb⟩
                replace R := hide (R.out.below hb)
                replace SX := hide (row_below SX.out hb)
                replace KX := hide (btrans KX.out hb)
                have C2 := hide (fun w' (hb : Below w6.heap.size w6 w') => allowed_any (some ⟨g, 0, none⟩) 20 G2 m w' (R.out.below hb) (by have := LX.out; omega))
                rw [LX.out] at C2
                have hcm := NN.out
                have BG := hide (fun w => bg_any (cN G2 : Int) m (by unfold i64r; omega) (by unfold i64r; omega) w)
                have BE := hide (show bgE (cN G2 : Int) m = decide (0 ≤ m ∧ m < 2 * (cN G2 : Int)) from rfl)
                generalize hcn : cN G2 = cn at *
                have HCN := hide hcn
                clear hb C1 hcn
                have e1 : decide ((cn : Int) < 0) = false := by simp
                have e2 : decide (m < (cn : Int)) = false := by simp; omega
                generalize bgE (cn : Int) m = bb at *
                replace NN := hide (show cN G2 ≤ m.toNat by rw [HCN.out]; exact hcm)
                go_wp2_with fail
                refine (BG.out _).mono ?_
                rintro e w7 ⟨rfl, rfl⟩
                cases bb
                · by_cases hm : 0 < m
                  · have dm : decide (0 < m) = true := by simpa using hm
                    have ha : (cn : Int) < m := by
                      have := of_decide_eq_false BE.out.symm
                      omega
                    rw [decide_eq_true ha] at C2
                    clear ha BE BG hcm
                    go_wp2_with fail
                    refine (C2.out _ (brefl _)).mono ?_
                    rintro e w7 ⟨rfl, hb⟩
                    replace SX := hide (row_below SX.out hb)
                    replace KX := hide (btrans KX.out hb)
                    clear hb C2 R
                    go_wp2
                    go_roundw
                    case rel => first | exact ⟨k + 1, G2, by omega, by go_num, LX, NN, KX, SX⟩ | ((repeat apply Exists.intro); exact ⟨⟨k + 1, G2, by omega, by go_num, LX, NN, KX, SX⟩, rfl⟩)
                    case measure => simp [intOf]; omega
                  · have dm : decide (0 < m) = false := by simpa using hm
                    clear BE BG hcm C2 R
                    go_wp2
                    go_roundw
                    case rel => first | exact ⟨k + 1, G2, by omega, by go_num, LX, NN, KX, SX⟩ | ((repeat apply Exists.intro); exact ⟨⟨k + 1, G2, by omega, by go_num, LX, NN, KX, SX⟩, rfl⟩)
                    case measure => simp [intOf]; omega
                · clear BE BG hcm C2 R
                  go_wp2
                  go_roundw
                  case rel => first | exact ⟨k + 1, G2, by omega, by go_num, LX, NN, KX, SX⟩ | ((repeat apply Exists.intro); exact ⟨⟨k + 1, G2, by omega, by go_num, LX, NN, KX, SX⟩, rfl⟩)
                  case measure => simp [intOf]; omega
            · have d2 : decide (160 ≤ (xn : Int)) = false := by simpa using x2
              by_cases x3 : 80 ≤ (xn : Int)
              · have d3 : decide (80 ≤ (xn : Int)) = true := by simpa using x3
                clear SP SD KP KD ND NP LP LD CW OWB
                go_upto_region 19 with fail
                clear c10 f10 f1 c1 K OW GL CZ y SC
                generalize (wr.setCell ⟨g, j * 16 + 10, none⟩ (.bool false)).setCell ⟨g, j * 16 + 1, none⟩ (.int .i64 0) = w5 at *
                generalize stP (stD G j false) j 0 = G2 at *
                obtain ⟨NN, LX, KX, SX⟩ : Hid (cN G2 ≤ m.toNat) ∧ Hid (G2.length = 20) ∧ Hid (Below w.heap.size w w5) ∧ Hid (w5.ownsRow B 50 16 (.slice (some ⟨g, 0, none⟩) 20 20) 20 (frs G2)) := ⟨NC, LC, KC, SC2⟩
                have R := hide (own_fs20 LX.out SX.out)
                have C1 := hide (count_any (some ⟨g, 0, none⟩) 20 G2 w5 R.out (by have := LX.out; omega))
                rw [LX.out] at C1
                go_wp2_with fail
                refine C1.out.mono ?_
                rintro e w6 ⟨rfl, hb⟩
                replace R := hide (R.out.below hb)
                replace SX := hide (row_below SX.out hb)
                replace KX := hide (btrans KX.out hb)
                have C2 := hide (fun w' (hb : Below w6.heap.size w6 w') => allowed_any (some ⟨g, 0, none⟩) 20 G2 m w' (R.out.below hb) (by have := LX.out; omega))
                rw [LX.out] at C2
                have hcm := NN.out
                have BG := hide (fun w => bg_any (cN G2 : Int) m (by unfold i64r; omega) (by unfold i64r; omega) w)
                have BE := hide (show bgE (cN G2 : Int) m = decide (0 ≤ m ∧ m < 2 * (cN G2 : Int)) from rfl)
                generalize hcn : cN G2 = cn at *
                have HCN := hide hcn
                clear hb C1 hcn
                have e1 : decide ((cn : Int) < 0) = false := by simp
                have e2 : decide (m < (cn : Int)) = false := by simp; omega
                generalize bgE (cn : Int) m = bb at *
                replace NN := hide (show cN G2 ≤ m.toNat by rw [HCN.out]; exact hcm)
                go_wp2_with fail
                refine (BG.out _).mono ?_
                rintro e w7 ⟨rfl, rfl⟩
                cases bb
                · by_cases hm : 0 < m
                  · have dm : decide (0 < m) = true := by simpa using hm
                    have ha : (cn : Int) < m := by
                      have := of_decide_eq_false BE.out.symm
                      omega
                    rw [decide_eq_true ha] at C2
                    clear ha BE BG hcm
                    go_wp2_with fail
                    refine (C2.out _ (brefl _)).mono ?_
                    rintro e w7 ⟨rfl, hb⟩
                    replace SX := hide (row_below SX.out hb)
                    replace KX := hide (btrans KX.out hb)
                    clear hb C2 R
                    go_wp2
                    go_roundw
                    case rel => first | exact ⟨k + 1, G2, by omega, by go_num, LX, NN, KX, SX⟩ | ((repeat apply Exists.intro); exact ⟨⟨k + 1, G2, by omega, by go_num, LX, NN, KX, SX⟩, rfl⟩)
                    case measure => simp [intOf]; omega
                  · have dm : decide (0 < m) = false := by simpa using hm
                    clear BE BG hcm C2 R
                    go_wp2
                    go_roundw
                    case rel => first | exact ⟨k + 1, G2, by omega, by go_num, LX, NN, KX, SX⟩ | ((repeat apply Exists.intro); exact ⟨⟨k + 1, G2, by omega, by go_num, LX, NN, KX, SX⟩, rfl⟩)
                    case measure => simp [intOf]; omega
                · clear BE BG hcm C2 R
                  go_wp2
                  go_roundw
                  case rel => first | exact ⟨k + 1, G2, by omega, by go_num, LX, NN, KX, SX⟩ | ((repeat apply Exists.intro); exact ⟨⟨k + 1, G2, by omega, by go_num, LX, NN, KX, SX⟩, rfl⟩)
                  case measure => simp [intOf]; omega
              · have d3 : decide (80 ≤ (xn : Int)) = false := by simpa using x3
                clear SP SC SC2 KP KC NC NP LP LC KD SD
                go_wp2_with fail
                refine (CW.out _ (brefl _)).mono ?_
                rintro e w4 ⟨rfl, hb⟩
                have O4 := hide (OWB.out _ hb)
                replace K := hide (btrans K.out hb)
                clear hb CW OWB c10 f10 f1 c1 OW
                by_cases ha : (cN G : Int) < m
                · rw [decide_eq_true ha]
                  have NN := hide (ND.out ha)
                  have f10 := O4.out.frozenAt (j * 16 + 10)
                  have c10 : w4.cell? ⟨g, j * 16 + 10, none⟩ = some (.bool (fA G j).d) := by
                    rw [O4.out.cellAt (j * 16 + 10) (by omega), frs_at hjg 10 (by omega)]; rfl
                  have SD := hide (O4.out.stored (j * 16 + 10) (.bool true)).1
                  rw [frs_D hjg] at SD
                  have KD := hide (K.out.setCell (p := ⟨g, j * 16 + 10, none⟩) HGB.out (.bool true))
                  generalize (fA G j).d = fdd at *
                  clear ha ND
                  go_upto_region 19 with fail
                  clear c10 f10 K O4 GL CZ y
                  generalize w4.setCell ⟨g, j * 16 + 10, none⟩ (.bool true) = w5 at *
                  generalize stD G j true = G2 at *
                  obtain ⟨LX, KX, SX⟩ : Hid (G2.length = 20) ∧ Hid (Below w.heap.size w w5) ∧ Hid (w5.ownsRow B 50 16 (.slice (some ⟨g, 0, none⟩) 20 20) 20 (frs G2)) := ⟨LD, KD, SD⟩
                  have R := hide (own_fs20 LX.out SX.out)
                  have C1 := hide (count_any (some ⟨g, 0, none⟩) 20 G2 w5 R.out (by have := LX.out; omega))
                  rw [LX.out] at C1
                  go_wp2_with fail
                  refine C1.out.mono ?_
                  rintro e w6 ⟨rfl, hb⟩
                  replace R := hide (R.out.below hb)
                  replace SX := hide (row_below SX.out hb)
                  replace KX := hide (btrans KX.out hb)
                  have C2 := hide (fun w' (hb : Below w6.heap.size w6 w') => allowed_any (some ⟨g, 0, none⟩) 20 G2 m w' (R.out.below hb) (by have := LX.out; omega))
                  rw [LX.out] at C2
                  have hcm := NN.out
                  have BG := hide (fun w => bg_any (cN G2 : Int) m (by unfold i64r; omega) (by unfold i64r; omega) w)
                  have BE := hide (show bgE (cN G2 : Int) m = decide (0 ≤ m ∧ m < 2 * (cN G2 : Int)) from rfl)
                  generalize hcn : cN G2 = cn at *
                  have HCN := hide hcn
                  clear hb C1 hcn
                  have e1 : decide ((cn : Int) < 0) = false := by simp
                  have e2 : decide (m < (cn : Int)) = false := by simp; omega
                  generalize bgE (cn : Int) m = bb at *
                  replace NN := hide (show cN G2 ≤ m.toNat by rw [HCN.out]; exact hcm)
                  go_wp2_with fail
                  refine (BG.out _).mono ?_
                  rintro e w7 ⟨rfl, rfl⟩
                  cases bb
                  · by_cases hm : 0 < m
                    · have dm : decide (0 < m) = true := by simpa using hm
                      have ha : (cn : Int) < m := by
                        have := of_decide_eq_false BE.out.symm
                        omega
                      rw [decide_eq_true ha] at C2
                      clear ha BE BG hcm
                      go_wp2_with fail
                      refine (C2.out _ (brefl _)).mono ?_
                      rintro e w7 ⟨rfl, hb⟩
                      replace SX := hide (row_below SX.out hb)
                      replace KX := hide (btrans KX.out hb)
                      clear hb C2 R
                      go_wp2
                      go_roundw
                      case rel => first | exact ⟨k + 1, G2, by omega, by go_num, LX, NN, KX, SX⟩ | ((repeat apply Exists.intro); exact ⟨⟨k + 1, G2, by omega, by go_num, LX, NN, KX, SX⟩, rfl⟩)
                      case measure => simp [intOf]; omega
                    · have dm : decide (0 < m) = false := by simpa using hm
                      clear BE BG hcm C2 R
                      go_wp2
                      go_roundw
                      case rel => first | exact ⟨k + 1, G2, by omega, by go_num, LX, NN, KX, SX⟩ | ((repeat apply Exists.intro); exact ⟨⟨k + 1, G2, by omega, by go_num, LX, NN, KX, SX⟩, rfl⟩)
                      case measure => simp [intOf]; omega
                  · clear BE BG hcm C2 R
                    go_wp2
                    go_roundw
                    case rel => first | exact ⟨k + 1, G2, by omega, by go_num, LX, NN, KX, SX⟩ | ((repeat apply Exists.intro); exact ⟨⟨k + 1, G2, by omega, by go_num, LX, NN, KX, SX⟩, rfl⟩)
                    case measure => simp [intOf]; omega
                · rw [decide_eq_false ha]
                  have NN := CZ
                  clear ha ND LD
                  go_upto_region 19 with fail
                  clear y CZ
                  generalize w4 = w5 at *
                  generalize G = G2 at *
                  obtain ⟨LX, KX, SX⟩ : Hid (G2.length = 20) ∧ Hid (Below w.heap.size w w5) ∧ Hid (w5.ownsRow B 50 16 (.slice (some ⟨g, 0, none⟩) 20 20) 20 (frs G2)) := ⟨GL, K, O4⟩
                  have R := hide (own_fs20 LX.out SX.out)
                  have C1 := hide (count_any (some ⟨g, 0, none⟩) 20 G2 w5 R.out (by have := LX.out; omega))
                  rw [LX.out] at C1
                  go_wp2_with fail
                  refine C1.out.mono ?_
                  rintro e w6 ⟨rfl, hb⟩
                  replace R := hide (R.out.below hb)
                  replace SX := hide (row_below SX.out hb)
                  replace KX := hide (btrans KX.out hb)
                  have C2 := hide (fun w' (hb : Below w6.heap.size w6 w') => allowed_any (some ⟨g, 0, none⟩) 20 G2 m w' (R.out.below hb) (by have := LX.out; omega))
                  rw [LX.out] at C2
                  have hcm := NN.out
                  have BG := hide (fun w => bg_any (cN G2 : Int) m (by unfold i64r; omega) (by unfold i64r; omega) w)
                  have BE := hide (show bgE (cN G2 : Int) m = decide (0 ≤ m ∧ m < 2 * (cN G2 : Int)) from rfl)
                  generalize hcn : cN G2 = cn at *
                  have HCN := hide hcn
                  clear hb C1 hcn
                  have e1 : decide ((cn : Int) < 0) = false := by simp
                  have e2 : decide (m < (cn : Int)) = false := by simp; omega
                  generalize bgE (cn : Int) m = bb at *
                  replace NN := hide (show cN G2 ≤ m.toNat by rw [HCN.out]; exact hcm)
                  go_wp2_with fail
                  refine (BG.out _).mono ?_
                  rintro e w7 ⟨rfl, rfl⟩
                  cases bb
                  · by_cases hm : 0 < m
                    · have dm : decide (0 < m) = true := by simpa using hm
                      have ha : (cn : Int) < m := by
                        have := of_decide_eq_false BE.out.symm
                        omega
                      rw [decide_eq_true ha] at C2
                      clear ha BE BG hcm
                      go_wp2_with fail
                      refine (C2.out _ (brefl _)).mono ?_
                      rintro e w7 ⟨rfl, hb⟩
                      replace SX := hide (row_below SX.out hb)
                      replace KX := hide (btrans KX.out hb)
                      clear hb C2 R
                      go_wp2
                      go_roundw
                      case rel => first | exact ⟨k + 1, G2, by omega, by go_num, LX, NN, KX, SX⟩ | ((repeat apply Exists.intro); exact ⟨⟨k + 1, G2, by omega, by go_num, LX, NN, KX, SX⟩, rfl⟩)
                      case measure => simp [intOf]; omega
                    · have dm : decide (0 < m) = false := by simpa using hm
                      clear BE BG hcm C2 R
                      go_wp2
                      go_roundw
                      case rel => first | exact ⟨k + 1, G2, by omega, by go_num, LX, NN, KX, SX⟩ | ((repeat apply Exists.intro); exact ⟨⟨k + 1, G2, by omega, by go_num, LX, NN, KX, SX⟩, rfl⟩)
                      case measure => simp [intOf]; omega
                  · clear BE BG hcm C2 R
                    go_wp2
                    go_roundw
                    case rel => first | exact ⟨k + 1, G2, by omega, by go_num, LX, NN, KX, SX⟩ | ((repeat apply Exists.intro); exact ⟨⟨k + 1, G2, by omega, by go_num, LX, NN, KX, SX⟩, rfl⟩)
                    case measure => simp [intOf]; omega
          · obtain rfl : k = l.length := by omega
            go_wp2
            go_ret
            exact ⟨rfl, K.out⟩
end Go.Proofs.Ytcndbehgklkiiaa.Ac
