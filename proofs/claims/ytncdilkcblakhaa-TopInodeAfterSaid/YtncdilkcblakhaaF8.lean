import Derived.Test.YtncdilkcblakhaaF7
namespace Go.Proofs.Ytncdilkcblakhaa.In
open Go Go.RowKit
set_option linter.unusedVariables false
set_option linter.unusedSimpArgs false
theorem and_one {v : Int} (h0 : 0 ≤ v) (h1 : v < 1048576) : bits .and .i64 v 1 = v % 2 := by
  obtain ⟨V, rfl⟩ := Int.eq_ofNat_of_zero_le h0
  have := i64_and_nat V 1 (by omega) (by omega)
  rw [nat_mask1] at this
  rw [show (1 : Int) = ((1 : Nat) : Int) from rfl, this]
  omega
-- A BLOCK OF FLAGS
def Fk (w : World) (g : Nat) (l : Fs) : Prop := Box w g 4 ((l.map fc).toArray)
section
variable {w w' : World} {g : Nat} {l : Fs}
theorem Fk.below (h : Fk w g l) (hb : Below w.heap.size w w') : Fk w' g l := Box.below h hb
theorem Fk.put (h : Fk w g l) (i : Nat) (v : Bool) : Fk (w.setCell ⟨g, i, none⟩ (.bool v)) g (l.set i v) := by
  have := Box.put h i (fc v)
  unfold Fk
  rw [List.map_set, ← List.setIfInBounds_toArray]
  exact this
theorem Fk.cell (h : Fk w g l) {i : Nat} (hi : i < l.length) : w.cell? ⟨g, i, none⟩ = some (.bool (l.getD i false)) := by
  rw [Box.cell h i]
  simp [fc, List.getD, List.getElem?_eq_getElem hi]
theorem Fk.frozen (h : Fk w g l) (i : Nat) : w.frozen? ⟨g, i, none⟩ = false := Box.frozen h i
theorem Fk.own (h : Fk w g l) {B : Nat} (hB : B ≤ g) (hn : l.length ≤ 1000000) : OwF B w (.slice (some ⟨g, 0, none⟩) l.length l.length) l := by
  have := own_new (xs := l.map fc) h hB (by rw [List.length_map]; exact hn)
  rwa [List.length_map] at this
end
theorem made_eq4 (m : Nat) : madeCells #[.bool false] m = ((List.replicate m false).map fc).toArray := by
  apply Array.ext'
  apply List.ext_getElem
  · simp [madeCells]
  · intro i h1 h2
    simp [madeCells, Nat.mod_one, fc]
def zf (m : Nat) : Array Value := ((List.replicate m false).map fc).toArray
theorem makeF (w : World) (m : Nat) (h : m ≤ 1000000) : (Instr.makeSlice 31 (.int .i64 (m : Int)) (.int .i64 (m : Int))).run Try.prog w = .ok (.slice (some ⟨w.heap.size, 0, none⟩) m m) (w.alloc (.cells (zf m) 4)) := by
  have := run_make_row' (P := Try.prog) 31 4 (.bool false) 1 Try.underlying31 info4 rfl .i64 .i64 m (by omega) (by omega) w
  rw [made_eq4] at this
  exact this
/-- k flags of the mask, the rest not set -/
def half (m : Int) (n k : Nat) : Fs := bk m k ++ List.replicate (n - k) false
theorem half_len (m : Int) {n k : Nat} (h : k ≤ n) : (half m n k).length = n := by simp [half, bk_len]; omega
theorem half_zero (m : Int) (n : Nat) : half m n 0 = List.replicate n false := by simp [half, bk]
theorem half_full (m : Int) (n : Nat) : half m n n = bk m n := by simp [half]
theorem half_next (m : Int) {n k : Nat} (h : k < n) : (half m n k).set k (decide (m / 2 ^ k % 2 = 1)) = half m n (k + 1) := by
  unfold half
  rw [bk_succ, List.set_append_right _ _ (by rw [bk_len]; exact Nat.le_refl _), bk_len, Nat.sub_self, List.append_assoc]
  congr 1
  rw [show n - k = (n - (k + 1)) + 1 by omega, List.replicate_succ]
  rfl
def BaR (m n : Int) (w : World) (e : Ending) (w' : World) : Prop := ∃ A c, e = .returned (.tuple #[.slice A (bR m n).length c, .int .i64 (bE m n)]) ∧ OwF w.heap.size w' (.slice A (bR m n).length c) (bR m n) ∧ Below w.heap.size w w'
theorem ba_no {m n : Int} {w w' : World} (h : bE m n ≠ 0) (hb : Below w.heap.size w w') : BaR m n w (.returned (.tuple #[.slice none 0 0, .int .i64 (bE m n)])) w' := by
  have e : bR m n = [] := if_neg h
  refine ⟨none, 0, ?_, ?_, hb⟩
  · rw [e]; rfl
  · rw [e]; exact OwF.nil _ _
theorem bE_of {m n : Int} (h1 : 0 ≤ n ∧ n ≤ 16) (h2 : 0 ≤ m ∧ m < 2 ^ n.toNat) : bE m n = 0 := by
  unfold bE
  rw [if_neg (by omega), if_neg (by omega)]
theorem shr_bd {m : Int} (h0 : 0 ≤ m) (h1 : m < 65536) (k : Nat) : 0 ≤ m / 2 ^ k ∧ m / 2 ^ k < 1048576 := by
  obtain ⟨M, rfl⟩ := Int.eq_ofNat_of_zero_le h0
  have e : ((M : Int) / 2 ^ k) = ((M / 2 ^ k : Nat) : Int) := by simp
  rw [e]
  have := Nat.div_le_self M (2 ^ k)
  generalize M / 2 ^ k = q at *
  omega
set_option maxRecDepth 100000 in
set_option maxHeartbeats 4000000 in
theorem backed_any (m n : Int) (w : World) : Calls Try.prog 21 #[.int .i64 m, .int .i64 n] w (BaR m n w) := by
  have C1 := hide (fun w => issize_any n w)
  by_cases h12 : 0 ≤ n ∧ n ≤ 16
  · have C2 := hide (fun w => ismask_any m n w h12)
    rw [decide_eq_true h12] at C1
    by_cases h34 : 0 ≤ m ∧ m < 2 ^ n.toNat
    · rw [decide_eq_true h34] at C2
      have E0 := bE_of h12 h34
      have ER : bR m n = bk m n.toNat := if_pos E0
      have bd := pw_le h12
      obtain ⟨N, rfl⟩ : ∃ N : Nat, n = (N : Int) := ⟨n.toNat, by omega⟩
      have hN : N ≤ 16 := by omega
      have tN : ((N : Int)).toNat = N := by simp
      have hm : 0 ≤ m ∧ m < 65536 := by omega
      rw [tN] at ER
      have EN := hide (show BaR m N w = fun e w' => ∃ A c, e = .returned (.tuple #[.slice A N c, .int .i64 0]) ∧ OwF w.heap.size w' (.slice A N c) (bk m N) ∧ Below w.heap.size w w' by
        funext e w'; unfold BaR; rw [ER, E0, bk_len])
      rw [EN.out]
      have MK := fun w => makeF w N (by omega)
      have X := hide (show Fk (w.alloc (.cells (zf N) 4)) w.heap.size (half m N 0) by rw [half_zero]; exact Box.new w 4 _)
      have K := hide (bal (brefl w) (.cells (zf N) 4))
      clear h34 h12 E0 ER EN bd tN
      go_enter Try.func21, Try.ntmps21
      go_wp2_with fail
      refine (C1.out _).mono ?_
      rintro e w' ⟨rfl, rfl⟩
      go_wp2_with fail
      refine (C2.out _).mono ?_
      rintro e w' ⟨rfl, rfl⟩
      clear C1 C2
      go_upto_region 6 with fail
      obtain ⟨g, hg⟩ : ∃ g, g = w.heap.size := ⟨_, rfl⟩
      have HG := hide (show w.heap.size ≤ g by omega)
      rw [← hg] at X ⊢
      clear hg
      generalize w.alloc (.cells (zf N) 4) = w1 at *
      go_wp2
      go_loopw [19] (fun i wr => ∃ k : Nat, k ≤ N ∧ i = .int .i64 k ∧ Hid (Fk wr g (half m N k)) ∧ Hid (Below w.heap.size w wr)) (fun i _ => N - (intOf i).toNat)
      case atStart => exact ⟨0, Nat.zero_le _, rfl, X, K⟩
      case round =>
        clear X K
        obtain ⟨k, hk, rfl, X, K⟩ := hrel
        by_cases hlt : k < N
        · have hl2 : (k : Int) < (N : Int) := by omega
          have hk0 : (0 : Int) ≤ (k : Int) := by omega
          have hk6 : (k : Int) ≤ 64 := by omega
          have xx := X.out.cell (i := k) (by rw [half_len m (by omega)]; exact hlt)
          have ff := X.out.frozen k
          have hgw := Box.lt X.out
          have tn : ((k : Int)).toNat = k := by simp
          have sb := shr_bd hm.1 hm.2 k
          have EN := hide (half_next m hlt)
          obtain ⟨v, hv⟩ : ∃ v : Int, v = m / 2 ^ k := ⟨_, rfl⟩
          have hv2 := hv.symm
          rw [← hv] at EN sb
          have ao := and_one sb.1 sb.2
          clear hv sb
          have hx : v % 2 = 1 ∨ v % 2 = 0 := by omega
          rcases hx with hx | hx
          · rw [hx] at EN ao
            clear hx
            go_wp2
            have X2 := hide (X.out.put k true)
            have K2 := hide (bset K.out (p := ⟨g, k, none⟩) HG.out (.bool true))
            rw [show (true : Bool) = decide ((1 : Int) = 1) from rfl, EN.out] at X2
            go_roundw
            case rel => exact ⟨k + 1, by omega, by go_num, X2, K2⟩
            case measure => simp [intOf]; omega
          · rw [hx] at EN ao
            clear hx
            go_wp2
            have X2 := hide (X.out.put k false)
            have K2 := hide (bset K.out (p := ⟨g, k, none⟩) HG.out (.bool false))
            rw [show (false : Bool) = decide ((0 : Int) = 1) from rfl, EN.out] at X2
            go_roundw
            case rel => exact ⟨k + 1, by omega, by go_num, X2, K2⟩
            case measure => simp [intOf]; omega
        · obtain rfl : k = N := by omega
          rw [half_full] at X
          go_wp2
          go_ret2
          refine ⟨_, _, rfl, ?_, K.out⟩
          have := X.out.own HG.out (by rw [bk_len]; omega)
          rwa [bk_len] at this
    · rw [decide_eq_false h34] at C2
      have E0 : bE m n = 3 := by unfold bE; rw [if_neg (by omega), if_pos h34]
      have EN := hide (fun w' (hb : Below w.heap.size w w') => ba_no (m := m) (n := n) (by rw [E0]; omega) hb)
      rw [E0] at EN
      clear h34 E0
      go_enter Try.func21, Try.ntmps21
      go_wp2_with fail
      refine (C1.out _).mono ?_
      rintro e w' ⟨rfl, rfl⟩
      go_wp2_with fail
      refine (C2.out _).mono ?_
      rintro e w' ⟨rfl, rfl⟩
      go_wp2
      go_ret2
      exact EN.out _ (brefl _)
  · rw [decide_eq_false h12] at C1
    have E0 : bE m n = 9 := by unfold bE; rw [if_pos h12]
    have EN := hide (fun w' (hb : Below w.heap.size w w') => ba_no (m := m) (n := n) (by rw [E0]; omega) hb)
    rw [E0] at EN
    clear h12 E0
    go_enter Try.func21, Try.ntmps21
    go_wp2_with fail
    refine (C1.out _).mono ?_
    rintro e w' ⟨rfl, rfl⟩
    go_wp2
    go_ret2
    exact EN.out _ (brefl _)
set_option maxRecDepth 100000 in
set_option maxHeartbeats 4000000 in
theorem rbacked_any (m n : Int) (w : World) : Calls Try.prog 22 #[.int .i64 m, .int .i64 n] w (BaR m n w) := by
  obtain ⟨i0, hi0, hz0, hz1, hz2⟩ := info_parts info4
  by_cases h12 : 0 ≤ n ∧ n ≤ 16
  · have C2 := hide (fun w => rismask_any m n w h12)
    have n1 : ¬ n < 0 := by omega
    have n2 : ¬ 16 < n := by omega
    by_cases h34 : 0 ≤ m ∧ m < 2 ^ n.toNat
    · rw [decide_eq_true h34] at C2
      have E0 := bE_of h12 h34
      have ER : bR m n = bk m n.toNat := if_pos E0
      have bd := pw_le h12
      obtain ⟨N, rfl⟩ : ∃ N : Nat, n = (N : Int) := ⟨n.toNat, by omega⟩
      have hN : N ≤ 16 := by omega
      have tN : ((N : Int)).toNat = N := by simp
      have hm : 0 ≤ m ∧ m < 65536 := by omega
      rw [tN] at ER
      have EN := hide (show BaR m N w = fun e w' => ∃ A c, e = .returned (.tuple #[.slice A N c, .int .i64 0]) ∧ OwF w.heap.size w' (.slice A N c) (bk m N) ∧ Below w.heap.size w w' by
        funext e w'; unfold BaR; rw [ER, E0, bk_len])
      rw [EN.out]
      obtain ⟨B, hB⟩ : ∃ B, B = w.heap.size := ⟨_, rfl⟩
      have HB := hide hB
      rw [← hB]
      have K := hide (show Below B w w by rw [hB]; exact brefl _)
      clear h34 h12 E0 ER EN bd tN hB
      go_enter Try.func22, Try.ntmps22
      go_wp2_with fail
      refine (C2.out _).mono ?_
      rintro e w' ⟨rfl, rfl⟩
      clear C2
      go_wp2
      go_loopw [6, 7] (fun a i wr => ∃ k : Nat, k ≤ N ∧ i = .int .i64 k ∧ Hid (OwF B wr a (bk m k)) ∧ Hid (Below B w wr)) (fun _ i _ => N - (intOf i).toNat)
      case atStart => exact ⟨0, Nat.zero_le _, rfl, hide (OwF.nil _ _), K⟩
      case round =>
        clear K
        obtain ⟨k, hk, rfl, O, K⟩ := hrel
        obtain ⟨A1, cap1, ev, hcp⟩ := row_form O.out
        subst ev
        clear hcp
        rw [bk_len] at O ⊢
        by_cases hlt : k < N
        · have hl2 : (k : Int) < (N : Int) := by omega
          have hk0 : (0 : Int) ≤ (k : Int) := by omega
          have hk6 : (k : Int) ≤ 64 := by omega
          have tn : ((k : Int)).toNat = k := by simp
          have sb := shr_bd hm.1 hm.2 k
          have EN := hide (bk_succ m k)
          have wu : IntKind.u64.wrap (k : Int) = (k : Int) := by rw [IntKind.wrap_u64]; omega
          obtain ⟨v, hv⟩ : ∃ v : Int, v = m / 2 ^ k := ⟨_, rfl⟩
          have hv2 := hv.symm
          rw [← hv] at EN sb
          have tm : v.tmod 2 = v % 2 := Int.tmod_eq_emod_of_nonneg sb.1
          clear hv sb
          obtain ⟨x, hx, hd⟩ : ∃ x : Bool, (v % 2 == 1) = x ∧ decide (v % 2 = 1) = x := ⟨_, rfl, by by_cases h : v % 2 = 1 <;> simp [h]⟩
          rw [hd] at EN
          have M := bal (brefl wr) (.cells #[.bool x] 4)
          have OA := hide (show (wr.alloc (.cells #[.bool x] 4)).ownsRow B 4 1 (.slice A1 k cap1) k ((bk m k).map fc) by
            have := row_below O.out M
            rwa [bk_len] at this)
          have NB := hide (cell_one_new wr (.bool x) 4)
          have SA0 : B ≤ wr.heap.size := by have := K.out.size; rw [HB.out]; exact (HB.out ▸ this)
          have SA := hide (show B ≤ (wr.alloc (.cells #[.bool x] 4)).heap.size by rw [alloc_size']; omega)
          have KA := hide (K.out.trans (M.mono SA0))
          clear M O K SA0
          go_wp2_with (at_builtin; refine wpList_append_own_at _ rfl (.tmp 23) (.tmp 30) 31 rfl B 4 i0 _ 1 1 Try.underlying31 hi0 hz0 hz1 hz2 rfl (by omega) (.slice A1 k cap1) k ((bk m k).map fc) rfl OA.out ⟨wr.heap.size, 0, none⟩ 1 1 [.bool x] rfl rfl NB.out (by intro u hu; rw [List.mem_singleton.1 hu]; rfl) (by simp only [maxLen]; omega) (by omega) SA.out ?_; intro v4 w4 hown4 hg4 _ hat4; obtain ⟨A4, cp4, ev4, _⟩ := row_form hown4; subst ev4)
          have O := hide (show OwF B w4 (.slice A4 (k + 1) cp4) (bk m (k + 1)) by
            unfold OwF
            rw [bk_len, EN.out, List.map_append]
            exact hown4)
          have B4 := below_grown OA.out hg4 SA.out
          have K := hide (KA.out.trans B4)
          clear B4 hown4 hg4 hat4 OA NB SA KA EN
          go_roundw
          case rel => first | exact ⟨k + 1, by omega, by go_num, O, K⟩ | ((repeat apply Exists.intro); exact ⟨⟨k + 1, by omega, by go_num, O, K⟩, rfl⟩)
          case measure => simp [intOf]; omega
        · obtain rfl : k = N := by omega
          go_wp2
          go_ret2
          refine ⟨_, _, rfl, ?_, K.out⟩
          exact O.out
    · rw [decide_eq_false h34] at C2
      have E0 : bE m n = 3 := by unfold bE; rw [if_neg (by omega), if_pos h34]
      have EN := hide (fun w' (hb : Below w.heap.size w w') => ba_no (m := m) (n := n) (by rw [E0]; omega) hb)
      rw [E0] at EN
      clear h34 E0
      go_enter Try.func22, Try.ntmps22
      go_wp2_with fail
      refine (C2.out _).mono ?_
      rintro e w' ⟨rfl, rfl⟩
      go_wp2
      go_ret2
      exact EN.out _ (brefl _)
  · have E0 : bE m n = 9 := by unfold bE; rw [if_pos h12]
    have EN := hide (fun w' (hb : Below w.heap.size w w') => ba_no (m := m) (n := n) (by rw [E0]; omega) hb)
    rw [E0] at EN
    clear E0
    by_cases n1 : n < 0
    · clear h12
      go_enter Try.func22, Try.ntmps22
      go_wp2
      go_ret2
      exact EN.out _ (brefl _)
    · have n2 : 16 < n := by omega
      clear h12
      go_enter Try.func22, Try.ntmps22
      go_wp2
      go_ret2
      exact EN.out _ (brefl _)
end Go.Proofs.Ytncdilkcblakhaa.In
