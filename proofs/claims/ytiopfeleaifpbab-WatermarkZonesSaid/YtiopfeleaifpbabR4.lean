import Derived.Test.YtiopfeleaifpbabR3
namespace Go.Proofs.Ytiopfeleaifpbab.Bd
open Go Go.RowKit
set_option linter.unusedVariables false
theorem wr4 {k : Nat} (hk : k < 5) : IntKind.i64.wrap ((2 : Int) ^ min (IntKind.u64.wrap (k : Int)).toNat 64) = bw k := by rcases cases5 hk with rfl | rfl | rfl | rfl | rfl <;> decide
/-- neighbours in a list whose union is a block -/
def Adj (p : Pm) (L : Fl) (k i : Nat) : Prop := (L k).getD i 0 = (L k).getD (i - 1) 0 + bw k ∧ blk p (k + 1) ((L k).getD (i - 1) 0)
theorem adj_bud {k : Nat} (hk : k < 4) {f : Int} (h : f % bw (k + 1) = 0) : bud k f = f + bw k := by unfold bud; rw [if_pos h]
theorem nb_iff {p : Pm} {L : Fl} (hl : Lst p L) : Nb L ↔ ∀ k, k < 4 → ∀ i, 1 ≤ i → i < (L k).length → ¬ Adj p L k i := by
  constructor
  · rintro h k hk i h1 h2 ⟨e1, e2⟩
    refine h k hk ((L k).getD (i - 1) 0) (getD_mem (by omega)) ?_
    rw [adj_bud hk e2.1, ← e1]
    exact getD_mem h2
  · intro h k hk f hf hb
    -- the lower of the two
    have low : ∀ f0, f0 ∈ L k → f0 % bw (k + 1) = 0 → bud k f0 ∈ L k → False := fun f0 h0 hm h1 => by
      have hbk := hl.blk k (by omega) f0 h0
      rw [adj_bud hk hm] at h1
      obtain ⟨i, hi, ei⟩ := mem_getD h1
      obtain ⟨j, hj, ej⟩ := mem_getD h0
      have bp := bw_pos k
      have hs := hl.srt k (by omega)
      have hji : j < i := by
        rcases Nat.lt_trichotomy i j with h2 | h2 | h2
        · have := srt_at hs h2 hj; omega
        · subst h2; omega
        · exact h2
      have hj1 : j = i - 1 := by
        rcases Nat.lt_or_ge j (i - 1) with h2 | h2
        · have a1 := srt_at hs h2 (by omega : i - 1 < (L k).length)
          have a2 := srt_at hs (show i - 1 < i by omega) hi
          have a3 := (hl.blk k (by omega) _ (getD_mem (by omega : i - 1 < (L k).length))).1
          have a4 := hbk.1
          rw [ej] at a1
          rw [ei] at a2
          generalize (L k).getD (i - 1) 0 = y at *
          rcases cases4 hk with rfl | rfl | rfl | rfl <;> simp only [bw] at * <;> omega
        · omega
      refine h k hk i (by omega) hi ⟨by rw [← hj1, ei, ej], ?_⟩
      rw [← hj1, ej]
      have h2 := hl.blk k (by omega) _ h1
      have := blk_up hk hbk (by rw [adj_bud hk hm]; exact h2)
      rwa [dn_self hm] at this
    have m := (hl.blk k (by omega) f hf).1
    by_cases hm : f % bw (k + 1) = 0
    · exact low f hf hm hb
    · refine low (bud k f) hb ?_ (by rw [bud_bud hk m]; exact hf)
      unfold bud
      rw [if_neg hm]
      rcases cases4 hk with rfl | rfl | rfl | rfl <;> simp only [bw] at * <;> omega
set_option maxRecDepth 100000 in
set_option maxHeartbeats 8000000 in
theorem rcheck_any (p : Pm) (v : Nat → Value) (L : Fl) (w : World) (hz : ZIn w p v L) : Calls Try.prog 34 #[.agg (znC p v)] w fun e w' => e = .returned (.int .i64 (chk p L)) ∧ Below w.heap.size w w' := by
  have X := hide (Box.new w 44 (znC p v))
  have K0 := hide (bal (brefl w) (.cells (znC p v) 44))
  have PA := hide (fun w1 => rparams_any p v hz.pr w1)
  obtain ⟨res, hres⟩ : ∃ r, r = chk p L := ⟨_, rfl⟩
  rw [← hres]
  have HRes := hide hres
  obtain ⟨g, hg⟩ : ∃ g, g = w.heap.size := ⟨_, rfl⟩
  obtain ⟨W0, hW0⟩ : ∃ W0, W0 = (w.alloc (.cells (znC p v) 44)) := ⟨_, rfl⟩
  rw [← hg, ← hW0] at X
  rw [← hW0] at K0
  have HZ := hide (hz.below K0.out)
  clear hz hres
  by_cases hp : par p
  · rw [decide_eq_true hp] at PA
    have HP := hide hp
    have RL := hide (fun w1 (hb : Below W0.heap.size W0 w1) => rlist_any p v L w1 HP.out (HZ.out.below hb))
    by_cases hl : listE p L = 0
    · have HL := hide (lst_of (listE_zero hl))
      have RS := hide (fun w1 (hb : Below W0.heap.size W0 w1) => rset_any p v L w1 HP.out HL.out (HZ.out.rd.below hb))
      unfold ZS at RS
      have HL0 := hide hl
      rw [hl] at RL
      clear hp hl
      go_enter Try.func34, Try.ntmps34
      go_upto_region 1 with fail
      rw [← hg, ← hW0]
      clear hg hW0
      go_wp2_with (first | (refine wpList_load_row rfl 44 _ rfl g rfl 44 (znC p v) (0, 0) _ X.out Try.underlying44 rfl (by kernel_rfl) ?_) | (go_at_call 41; refine (PA.out _).mono ?_; rintro e w1 ⟨rfl, hb1⟩; replace X := hide (X.out.below hb1)) | (go_at_call 42; refine (RL.out _ hb1).mono ?_; rintro e w2 ⟨rfl, hb2⟩; replace X := hide (X.out.below hb2)) | (go_at_call 43; refine (RS.out _ (btrans hb1 hb2)).mono ?_; rintro e w3 ⟨gs, rfl, ri, hgs, hb3⟩; replace X := hide (X.out.below hb3)))
      have RI3 := hide ri
      have K3 := hide (btrans (btrans hb1 hb2) hb3)
      clear hb1 hb2 hb3 ri hgs
      go_loopw [5] (fun s wr => ∃ x : Nat, x ≤ 256 ∧ s = .int .i64 x ∧ Hid (∀ y, y < x → cn L 5 y ≤ 1) ∧ wr = w3) (fun s _ => 256 - (intOf s).toNat)
      case atStart => exact ⟨0, by omega, rfl, hide (fun y hy => absurd hy (Nat.not_lt_zero _)), rfl⟩
      case round =>
        obtain ⟨x, hx, rfl, N, rfl⟩ := hrel
        by_cases hlt : x < 256
        · have cell := RI3.out.cell hlt
          simp only at cell
          have hle := cn_le L x 5
          have hlt' : (x : Int) < 256 := by omega
          by_cases h1 : cn L 5 x ≤ 1
          · have N2 := hide (show ∀ y, y < x + 1 → cn L 5 y ≤ 1 from fun y hy => by
              by_cases e : y = x
              · rw [e]; exact h1
              · exact N.out y (by omega))
            generalize cn L 5 x = q at *
            clear N
            go_wp2
            go_roundw
            case rel => exact ⟨x + 1, by omega, by go_num, N2, by first | rfl | trivial⟩
            case measure => simp [intOf]; omega
          · have E := hide (show res = 7 by
              rw [HRes.out]
              unfold chk
              rw [if_pos HP.out, if_neg (fun x => x HL0.out), if_neg]
              intro hd
              exact h1 ((dj_iff L).1 hd x hlt))
            generalize cn L 5 x = q at *
            clear N
            go_wp2
            go_ret
            exact ⟨ret_int E.out.symm, btrans K0.out K3.out⟩
        · obtain rfl : x = 256 := by omega
          have HD := hide ((dj_iff L).2 (fun y hy => N.out y hy))
          clear N RI3
          go_wp2
          go_loopw [6] (fun a wr => ∃ k : Nat, k ≤ 4 ∧ a = .int .i64 k ∧ Hid (Box wr g 44 (znC p v)) ∧ Hid (Below W0.heap.size W0 wr) ∧ Hid (∀ j, j < k → ∀ i, 1 ≤ i → i < (L j).length → ¬ Adj p L j i)) (fun a _ => 5 - (intOf a).toNat)
          case atStart => exact ⟨0, Nat.zero_le _, rfl, X, K3, hide (fun j hj => absurd hj (Nat.not_lt_zero _))⟩
          case round =>
            clear X K3
            obtain ⟨k, hk, rfl, X, K, N⟩ := hrel
            by_cases h4 : k < 4
            · have h5 : k < 5 := by omega
              have hk5 : (k : Int) < 5 := by omega
              have hd4 : decide ((k : Int) < 4) = true := decide_eq_true (by omega)
              obtain ⟨A, c, ev, hcap, r⟩ := HZ.out.rd k h5
              have HV := hide ev
              have R := hide r
              have LN := hide (lst_len HP.out HL.out h5)
              have KW := hide K.out
              have XW := hide X.out
              have H4 := hide h4
              have M0 := hide (show ∀ i, 1 ≤ i → i < 1 → ¬ Adj p L k i from fun i h1 h2 => by omega)
              clear ev r hcap K X
              obtain ⟨l, hl⟩ : ∃ l, l = L k := ⟨_, rfl⟩
              have HLk := hide hl
              rw [← hl] at HV R LN
              clear hl
              go_wp2
              go_loopw [7] (fun a wr => ∃ i : Nat, 1 ≤ i ∧ i ≤ l.length + 1 ∧ a = .int .i64 i ∧ Hid (Box wr g 44 (znC p v)) ∧ Hid (Below W0.heap.size W0 wr) ∧ Hid (∀ t, 1 ≤ t → t < i → ¬ Adj p L k t)) (fun a _ => l.length + 1 - (intOf a).toNat)
              case atStart => exact ⟨1, Nat.le_refl _, by omega, rfl, XW, KW, M0⟩
              case round =>
                clear XW KW M0
                obtain ⟨i, hi1, hi2, rfl, X, K, M⟩ := hrel
                have s0 := box_list X.out (show k < 5 by have := H4.out; omega)
                rw [HV.out] at s0
                have hln := LN.out
                by_cases hlt : i < l.length
                · obtain ⟨b, off, eA, hbl, c0, c1⟩ := R.out.cell2 K.out hlt
                  subst eA
                  have KD : Below wr.heap.size wr wr.drew := below_drewN (brefl _) 1
                  replace X := hide (X.out.below KD)
                  replace K := hide (btrans K.out KD)
                  have CE := hide (show (fun W => Box W g 44 (znC p v) ∧ W.cell? ⟨g, 5 + k, none⟩ = some (.slice (some ⟨b, off, none⟩) l.length c) ∧ W.cell? ⟨b, off + i, none⟩ = some (.int .i64 (l.getD i 0)) ∧ W.cell? ⟨b, off + (i - 1), none⟩ = some (.int .i64 (l.getD (i - 1) 0))) wr.drew from ⟨X.out, s0, c0, c1⟩)
                  have b0 := blk_bd HP.out (HL.out.blk k (by have := H4.out; omega) _ (by rw [← HLk.out]; exact getD_mem (show i - 1 < l.length by omega)))
                  have b1 := blk_bd HP.out (HL.out.blk k (by have := H4.out; omega) _ (by rw [← HLk.out]; exact getD_mem hlt))
                  have bp := bw_pos k
                  have bl := bw_le k
                  have BL0 := hide (fun w1 => rblock_in p v (l.getD (i - 1) 0) (k + 1) (by have := H4.out; omega) (by unfold i64r; omega) HP.out w1)
                  have ek1 : (((k + 1 : Nat)) : Int) = (k : Int) + 1 := by omega
                  rw [ek1] at BL0
                  have AD := hide (show Adj p L k i ↔ (l.getD i 0 = l.getD (i - 1) 0 + bw k ∧ blk p (k + 1) (l.getD (i - 1) 0)) by rw [HLk.out]; exact Iff.rfl)
                  have w1 := wr2 (show k < 5 by have := H4.out; omega)
                  have w2 := wr4 (show k < 5 by have := H4.out; omega)
                  have w3' : IntKind.i64.wrap ((k : Int) + 1) = (k : Int) + 1 := IntWalk.i64_in _ (by have := H4.out; omega)
                  have w4 : IntKind.i64.wrap ((i : Int) - 1) = (i : Int) - 1 := IntWalk.i64_in _ (by omega)
                  have w5' : ((i : Int) - 1).toNat = i - 1 := by omega
                  have w6 : 0 ≤ (i : Int) - 1 := by omega
                  have w6b : (1 : Int) ≤ (i : Int) := by omega
                  have w7 : (i : Int) - 1 < (l.length : Int) := by omega
                  have w8 : IntKind.i64.wrap (l.getD (i - 1) 0 + bw k) = l.getD (i - 1) 0 + bw k := IntWalk.i64_in _ (by omega)
                  have hk5' : (k : Int) < 5 := by have := H4.out; omega
                  clear ek1 c0 c1 KD X
                  by_cases ha : l.getD i 0 = l.getD (i - 1) 0 + bw k
                  · have q1 : (l.getD i 0 == l.getD (i - 1) 0 + bw k) = true := by simpa using ha
                    by_cases hbk : blk p (k + 1) (l.getD (i - 1) 0)
                    · have E := hide (show res = 11 by
                        rw [HRes.out]
                        unfold chk
                        rw [if_pos HP.out, if_neg (fun x => x HL0.out), if_pos HD.out, if_neg]
                        intro hn
                        exact (nb_iff HL.out).1 hn k H4.out i hi1 (by rw [← HLk.out]; exact hlt) (AD.out.2 ⟨ha, hbk⟩))
                      have BL := hide (fun w1 => by have := BL0.out w1; rw [decide_eq_true hbk] at this; exact this)
                      clear BL0 hbk AD M b0 b1 bp bl
                      generalize bw k = bk at *
                      generalize l.getD i 0 = z at *
                      generalize l.getD (i - 1) 0 = z0 at *
                      clear ha
                      obtain ⟨n, hn⟩ : ∃ n, n = l.length := ⟨_, rfl⟩
                      rw [← hn] at CE s0 hlt hln w7
                      clear hn
                      go_wp2
                      refine wp_region_noPanic ?_
                      refine wp_region_held_drew (S := (fun W => Box W g 44 (znC p v) ∧ W.cell? ⟨g, 5 + k, none⟩ = some (.slice (some ⟨b, off, none⟩) n c) ∧ W.cell? ⟨b, off + i, none⟩ = some (.int .i64 z) ∧ W.cell? ⟨b, off + (i - 1), none⟩ = some (.int .i64 z0))) (by kernel_rfl) ?_ (fun hHeld => ?_)
                      · exact CE.out
                      generalize wr.drew = w2 at *
                      refine wpAnyH_take (i := 0) (oi := ⟨some 42, _, _, _, _, _⟩) (v := ?_) rfl (by kernel_rfl) (by kernel_rfl) (by kernel_rfl) (fun _ _ _ h => h) (Or.inl ⟨by kernel_rfl, ?_⟩) (by assumption) ?_
                      rotate_left 1
                      · (intro w hSw; (try dsimp only at hSw); go_simp) <;> (with_reducible rfl)
                      (try simp only [Act.put, List.setIfInBounds_toArray, List.set_cons_succ, List.set_cons_zero])
                      refine wpAnyH_take (i := 1) (oi := ⟨some 43, _, _, _, _, _⟩) (v := ?_) rfl (by kernel_rfl) (by kernel_rfl) (by kernel_rfl) (fun _ _ _ h => h) (Or.inl ⟨by kernel_rfl, ?_⟩) (by assumption) ?_
                      rotate_left 1
                      · (intro w hSw; (try dsimp only at hSw); go_simp) <;> (with_reducible rfl)
                      (try simp only [Act.put, List.setIfInBounds_toArray, List.set_cons_succ, List.set_cons_zero])
                      refine wpAnyH_take (i := 2) (oi := ⟨some 44, _, _, _, _, _⟩) (v := ?_) rfl (by kernel_rfl) (by kernel_rfl) (by kernel_rfl) (fun _ _ _ h => h) (Or.inl ⟨by kernel_rfl, ?_⟩) (by assumption) ?_
                      rotate_left 1
                      · (intro w hSw; (try dsimp only at hSw); go_simp) <;> (with_reducible rfl)
                      (try simp only [Act.put, List.setIfInBounds_toArray, List.set_cons_succ, List.set_cons_zero])
                      refine wpAnyH_take (i := 3) (oi := ⟨some 45, _, _, _, _, _⟩) (v := ?_) rfl (by kernel_rfl) (by kernel_rfl) (by kernel_rfl) (fun _ _ _ h => h) (Or.inl ⟨by kernel_rfl, ?_⟩) (by assumption) ?_
                      rotate_left 1
                      · (intro w hSw; (try dsimp only at hSw); go_simp) <;> (with_reducible rfl)
                      (try simp only [Act.put, List.setIfInBounds_toArray, List.set_cons_succ, List.set_cons_zero])
                      refine wpAnyH_take (i := 4) (oi := ⟨some 46, _, _, _, _, _⟩) (v := ?_) rfl (by kernel_rfl) (by kernel_rfl) (by kernel_rfl) (fun _ _ _ h => h) (Or.inl ⟨by kernel_rfl, ?_⟩) (by assumption) ?_
                      rotate_left 1
                      · (intro w hSw; (try dsimp only at hSw); go_simp) <;> (with_reducible rfl)
                      (try simp only [Act.put, List.setIfInBounds_toArray, List.set_cons_succ, List.set_cons_zero])
                      refine wpAnyH_take (i := 5) (oi := ⟨some 47, _, _, _, _, _⟩) (v := ?_) rfl (by kernel_rfl) (by kernel_rfl) (by kernel_rfl) (fun _ _ _ h => h) (Or.inl ⟨by kernel_rfl, ?_⟩) (by assumption) ?_
                      rotate_left 1
                      · (intro w hSw; (try dsimp only at hSw); go_simp) <;> (with_reducible rfl)
                      (try simp only [Act.put, List.setIfInBounds_toArray, List.set_cons_succ, List.set_cons_zero])
                      refine wpAnyH_take (i := 6) (oi := ⟨some 48, _, _, _, _, _⟩) (v := ?_) rfl (by kernel_rfl) (by kernel_rfl) (by kernel_rfl) (fun _ _ _ h => h) (Or.inl ⟨by kernel_rfl, ?_⟩) (by assumption) ?_
                      rotate_left 1
                      · (intro w hSw; (try dsimp only at hSw); go_simp) <;> (with_reducible rfl)
                      (try simp only [Act.put, List.setIfInBounds_toArray, List.set_cons_succ, List.set_cons_zero])
                      refine wpAnyH_take (i := 7) (oi := ⟨some 49, _, _, _, _, _⟩) (v := ?_) rfl (by kernel_rfl) (by kernel_rfl) (by kernel_rfl) (fun _ _ _ h => h) (Or.inl ⟨by kernel_rfl, ?_⟩) (by assumption) ?_
                      rotate_left 1
                      · (intro w hSw; (try dsimp only at hSw); go_simp) <;> (with_reducible rfl)
                      (try simp only [Act.put, List.setIfInBounds_toArray, List.set_cons_succ, List.set_cons_zero])
                      refine wpAnyH_take (i := 8) (oi := ⟨some 50, _, _, _, _, _⟩) (v := ?_) rfl (by kernel_rfl) (by kernel_rfl) (by kernel_rfl) (fun _ _ _ h => h) (Or.inl ⟨by kernel_rfl, ?_⟩) (by assumption) ?_
                      rotate_left 1
                      · (intro w hSw; (try dsimp only at hSw); go_simp) <;> (with_reducible rfl)
                      (try simp only [Act.put, List.setIfInBounds_toArray, List.set_cons_succ, List.set_cons_zero])
                      refine wpAnyH_take (i := 9) (oi := ⟨some 51, _, _, _, _, _⟩) (v := ?_) rfl (by kernel_rfl) (by kernel_rfl) (by kernel_rfl) (fun _ _ _ h => h) (Or.inl ⟨by kernel_rfl, ?_⟩) (by assumption) ?_
                      rotate_left 1
                      · (intro w hSw; (try dsimp only at hSw); go_simp) <;> (with_reducible rfl)
                      (try simp only [Act.put, List.setIfInBounds_toArray, List.set_cons_succ, List.set_cons_zero])
                      refine wpAnyH_take (i := 10) (oi := ⟨some 52, _, _, _, _, _⟩) (v := ?_) rfl (by kernel_rfl) (by kernel_rfl) (by kernel_rfl) (fun _ _ _ h => h) (Or.inl ⟨by kernel_rfl, ?_⟩) (by assumption) ?_
                      rotate_left 1
                      · (intro w hSw; (try dsimp only at hSw); go_simp) <;> (with_reducible rfl)
                      (try simp only [Act.put, List.setIfInBounds_toArray, List.set_cons_succ, List.set_cons_zero])
                      refine wpAnyH_take (i := 11) (oi := ⟨some 53, _, _, _, _, _⟩) (v := ?_) rfl (by kernel_rfl) (by kernel_rfl) (by kernel_rfl) (fun _ _ _ h => h) (Or.inl ⟨by kernel_rfl, ?_⟩) (by assumption) ?_
                      rotate_left 1
                      · (intro w hSw; (try dsimp only at hSw); go_simp) <;> (with_reducible rfl)
                      (try simp only [Act.put, List.setIfInBounds_toArray, List.set_cons_succ, List.set_cons_zero])
                      refine wpAnyH_take (i := 12) (oi := ⟨some 54, _, _, _, _, _⟩) (v := ?_) rfl (by kernel_rfl) (by kernel_rfl) (by kernel_rfl) (fun _ _ _ h => h) (Or.inl ⟨by kernel_rfl, ?_⟩) (by assumption) ?_
                      rotate_left 1
                      · (intro w hSw; (try dsimp only at hSw); go_simp) <;> (with_reducible rfl)
                      (try simp only [Act.put, List.setIfInBounds_toArray, List.set_cons_succ, List.set_cons_zero])
                      refine wpAnyH_take (i := 13) (oi := ⟨some 55, _, _, _, _, _⟩) (v := ?_) rfl (by kernel_rfl) (by kernel_rfl) (by kernel_rfl) (fun _ _ _ h => h) (Or.inl ⟨by kernel_rfl, ?_⟩) (by assumption) ?_
                      rotate_left 1
                      · (intro w hSw; (try dsimp only at hSw); go_simp) <;> (with_reducible rfl)
                      (try simp only [Act.put, List.setIfInBounds_toArray, List.set_cons_succ, List.set_cons_zero])
                      refine wpAnyH_take (i := 14) (oi := ⟨some 56, _, _, _, _, _⟩) (v := ?_) rfl (by kernel_rfl) (by kernel_rfl) (by kernel_rfl) (fun _ _ _ h => h) (Or.inl ⟨by kernel_rfl, ?_⟩) (by assumption) ?_
                      rotate_left 1
                      · (intro w hSw; (try dsimp only at hSw); go_simp) <;> (with_reducible rfl)
                      (try simp only [Act.put, List.setIfInBounds_toArray, List.set_cons_succ, List.set_cons_zero])
                      refine wpAnyH_take (i := 15) (oi := ⟨some 57, _, _, _, _, _⟩) (v := ?_) rfl (by kernel_rfl) (by kernel_rfl) (by kernel_rfl) (fun _ _ _ h => h) (Or.inl ⟨by kernel_rfl, ?_⟩) (by assumption) ?_
                      rotate_left 1
                      · (intro w hSw; (try dsimp only at hSw); go_simp) <;> (with_reducible rfl)
                      (try simp only [Act.put, List.setIfInBounds_toArray, List.set_cons_succ, List.set_cons_zero])
                      refine wpAnyH_take (i := 16) (oi := ⟨some 58, _, _, _, _, _⟩) (v := ?_) rfl (by kernel_rfl) (by kernel_rfl) (by kernel_rfl) (fun _ _ _ h => h) (Or.inl ⟨by kernel_rfl, ?_⟩) (by assumption) ?_
                      rotate_left 1
                      · (intro w hSw; (try dsimp only at hSw); go_simp) <;> (with_reducible rfl)
                      (try simp only [Act.put, List.setIfInBounds_toArray, List.set_cons_succ, List.set_cons_zero])
                      refine wpAnyH_take (i := 17) (oi := ⟨some 59, _, _, _, _, _⟩) (v := ?_) rfl (by kernel_rfl) (by kernel_rfl) (by kernel_rfl) (fun _ _ _ h => h) (Or.inl ⟨by kernel_rfl, ?_⟩) (by assumption) ?_
                      rotate_left 1
                      · (intro w hSw; (try dsimp only at hSw); go_simp) <;> (with_reducible rfl)
                      (try simp only [Act.put, List.setIfInBounds_toArray, List.set_cons_succ, List.set_cons_zero])
                      refine wpAnyH_take (i := 18) (oi := ⟨some 60, _, _, _, _, _⟩) (v := ?_) rfl (by kernel_rfl) (by kernel_rfl) (by kernel_rfl) (fun _ _ _ h => h) (Or.inl ⟨by kernel_rfl, ?_⟩) (by assumption) ?_
                      rotate_left 1
                      · (intro w hSw; (try dsimp only at hSw); go_simp) <;> (with_reducible rfl)
                      (try simp only [Act.put, List.setIfInBounds_toArray, List.set_cons_succ, List.set_cons_zero])
                      refine wpAnyH_take (i := 19) (oi := ⟨some 61, _, _, _, _, _⟩) (v := ?_) rfl (by kernel_rfl) (by kernel_rfl) (by kernel_rfl) (fun _ _ _ h => h) (Or.inl ⟨by kernel_rfl, ?_⟩) (by assumption) ?_
                      rotate_left 1
                      · (intro w hSw; (try dsimp only at hSw); go_simp) <;> (with_reducible rfl)
                      (try simp only [Act.put, List.setIfInBounds_toArray, List.set_cons_succ, List.set_cons_zero])
                      refine wpAnyH_take (i := 20) (oi := ⟨some 62, _, _, _, _, _⟩) (v := ?_) rfl (by kernel_rfl) (by kernel_rfl) (by kernel_rfl) (fun _ _ _ h => h) (Or.inl ⟨by kernel_rfl, ?_⟩) (by assumption) ?_
                      rotate_left 1
                      · (intro w hSw; (try dsimp only at hSw); go_simp) <;> (with_reducible rfl)
                      (try simp only [Act.put, List.setIfInBounds_toArray, List.set_cons_succ, List.set_cons_zero])
                      refine wpAnyH_take (i := 21) (oi := ⟨some 63, _, _, _, _, _⟩) (v := .agg (znC p v)) rfl (by kernel_rfl) (by kernel_rfl) (by kernel_rfl) (fun _ _ _ h => h) (Or.inl ⟨by kernel_rfl, ?_⟩) (by assumption) ?_
                      · (intro w hSw; obtain ⟨y0, y1, y2, y3, y4, y5, y6, y7, y8, y9⟩ := box_all hSw.1; go_simp) <;> rfl
                      (try simp only [Act.put, List.setIfInBounds_toArray, List.set_cons_succ, List.set_cons_zero])
                      refine wpAnyH_take (i := 22) (oi := ⟨some 64, _, _, _, _, _⟩) (v := ?_) rfl (by kernel_rfl) (by kernel_rfl) (by kernel_rfl) (fun _ _ _ h => h) (Or.inl ⟨by kernel_rfl, ?_⟩) (by assumption) ?_
                      rotate_left 1
                      · (intro w hSw; (try dsimp only at hSw); go_simp) <;> (with_reducible rfl)
                      (try simp only [Act.put, List.setIfInBounds_toArray, List.set_cons_succ, List.set_cons_zero])
                      refine wpAnyH_take (i := 23) (oi := ⟨some 65, _, _, _, _, _⟩) (v := ?_) rfl (by kernel_rfl) (by kernel_rfl) (by kernel_rfl) (fun _ _ _ h => h) (Or.inl ⟨by kernel_rfl, ?_⟩) (by assumption) ?_
                      rotate_left 1
                      · (intro w hSw; (try dsimp only at hSw); go_simp) <;> (with_reducible rfl)
                      (try simp only [Act.put, List.setIfInBounds_toArray, List.set_cons_succ, List.set_cons_zero])
                      refine wpAnyH_take (i := 24) (oi := ⟨some 66, _, _, _, _, _⟩) (v := ?_) rfl (by kernel_rfl) (by kernel_rfl) (by kernel_rfl) (fun _ _ _ h => h) (Or.inl ⟨by kernel_rfl, ?_⟩) (by assumption) ?_
                      rotate_left 1
                      · (intro w hSw; (try dsimp only at hSw); go_simp) <;> (with_reducible rfl)
                      (try simp only [Act.put, List.setIfInBounds_toArray, List.set_cons_succ, List.set_cons_zero])
                      refine wpAnyH_take (i := 25) (oi := ⟨some 67, _, _, _, _, _⟩) (v := ?_) rfl (by kernel_rfl) (by kernel_rfl) (by kernel_rfl) (fun _ _ _ h => h) (Or.inl ⟨by kernel_rfl, ?_⟩) (by assumption) ?_
                      rotate_left 1
                      · (intro w hSw; (try dsimp only at hSw); go_simp) <;> (with_reducible rfl)
                      (try simp only [Act.put, List.setIfInBounds_toArray, List.set_cons_succ, List.set_cons_zero])
                      refine wpAnyH_take (i := 26) (oi := ⟨some 68, _, _, _, _, _⟩) (v := ?_) rfl (by kernel_rfl) (by kernel_rfl) (by kernel_rfl) (fun _ _ _ h => h) (Or.inl ⟨by kernel_rfl, ?_⟩) (by assumption) ?_
                      rotate_left 1
                      · (intro w hSw; (try dsimp only at hSw); go_simp) <;> (with_reducible rfl)
                      (try simp only [Act.put, List.setIfInBounds_toArray, List.set_cons_succ, List.set_cons_zero])
                      refine wpAnyH_take (i := 27) (oi := ⟨some 69, _, _, _, _, _⟩) (v := ?_) rfl (by kernel_rfl) (by kernel_rfl) (by kernel_rfl) (fun _ _ _ h => h) (Or.inl ⟨by kernel_rfl, ?_⟩) (by assumption) ?_
                      rotate_left 1
                      · (intro w hSw; (try dsimp only at hSw); go_simp) <;> (with_reducible rfl)
                      (try simp only [Act.put, List.setIfInBounds_toArray, List.set_cons_succ, List.set_cons_zero])
                      refine wpAnyH_take (i := 28) (oi := ⟨some 70, _, _, _, _, _⟩) (v := ?_) rfl (by kernel_rfl) (by kernel_rfl) (by kernel_rfl) (fun _ _ _ h => h) (Or.inl ⟨by kernel_rfl, ?_⟩) (by assumption) ?_
                      rotate_left 1
                      · (intro w hSw; (try dsimp only at hSw); go_simp) <;> (with_reducible rfl)
                      (try simp only [Act.put, List.setIfInBounds_toArray, List.set_cons_succ, List.set_cons_zero])
                      refine wpAnyH_take (i := 29) (oi := ⟨some 71, _, _, _, _, _⟩) (v := ?_) rfl (by kernel_rfl) (by kernel_rfl) (by kernel_rfl) (fun _ _ _ h => h) (Or.inl ⟨by kernel_rfl, ?_⟩) (by assumption) ?_
                      rotate_left 1
                      · (intro w hSw; (try dsimp only at hSw); go_simp) <;> (with_reducible rfl)
                      (try simp only [Act.put, List.setIfInBounds_toArray, List.set_cons_succ, List.set_cons_zero])
                      refine wpAnyH_take (i := 30) (oi := ⟨some 72, _, _, _, _, _⟩) (v := ?_) rfl (by kernel_rfl) (by kernel_rfl) (by kernel_rfl) (fun _ _ _ h => h) (Or.inl ⟨by kernel_rfl, ?_⟩) (by assumption) ?_
                      rotate_left 1
                      · (intro w hSw; (try dsimp only at hSw); go_simp) <;> (with_reducible rfl)
                      (try simp only [Act.put, List.setIfInBounds_toArray, List.set_cons_succ, List.set_cons_zero])
                      refine wpAnyH_take (i := 31) (oi := ⟨some 73, _, _, _, _, _⟩) (v := ?_) rfl (by kernel_rfl) (by kernel_rfl) (by kernel_rfl) (fun _ _ _ h => h) (Or.inl ⟨by kernel_rfl, ?_⟩) (by assumption) ?_
                      rotate_left 1
                      · (intro w hSw; (try dsimp only at hSw); go_simp) <;> (with_reducible rfl)
                      (try simp only [Act.put, List.setIfInBounds_toArray, List.set_cons_succ, List.set_cons_zero])
                      refine wpAnyH_ready (rs := [32]) (by kernel_rfl) (by simp) ?_
                      refine AllReadyH.cons (o := _) rfl (fun K' hK => ?_) AllReadyH.nil
                      go_simp
                      refine (BL.out _).mono ?_
                      rintro e w5 ⟨rfl, hb⟩
                      replace CE := hide (show (fun W => Box W g 44 (znC p v) ∧ W.cell? ⟨g, 5 + k, none⟩ = some (.slice (some ⟨b, off, none⟩) n c) ∧ W.cell? ⟨b, off + i, none⟩ = some (.int .i64 z) ∧ W.cell? ⟨b, off + (i - 1), none⟩ = some (.int .i64 z0)) w5 from ⟨CE.out.1.below hb, (hb.cell (p := ⟨g, 5 + k, none⟩) CE.out.1.lt).trans CE.out.2.1, (hb.cell (p := ⟨b, off + i, none⟩) (Nat.lt_of_lt_of_le hbl K.out.size)).trans CE.out.2.2.1, (hb.cell (p := ⟨b, off + (i - 1), none⟩) (Nat.lt_of_lt_of_le hbl K.out.size)).trans CE.out.2.2.2⟩)
                      replace K := hide (btrans K.out hb)
                      clear hb
                      refine hK.out _ _ ?_ (fun hHeld => ?_)
                      · exact CE.out
                      clear hK K'
                      (try simp only [Act.put, List.setIfInBounds_toArray, List.set_cons_succ, List.set_cons_zero])
                      refine wpAnyH_take (i := 33) (oi := ⟨some 75, _, _, _, _, _⟩) (v := ?_) rfl (by kernel_rfl) (by kernel_rfl) (by kernel_rfl) (fun _ _ _ h => h) (Or.inl ⟨by kernel_rfl, ?_⟩) (by assumption) ?_
                      rotate_left 1
                      · (intro w hSw; (try dsimp only at hSw); go_simp) <;> (with_reducible rfl)
                      (try simp only [Act.put, List.setIfInBounds_toArray, List.set_cons_succ, List.set_cons_zero])
                      refine wpAnyH_done (by kernel_rfl) ?_ _
                      refine NoPanic.normal ?_
                      clear s0 BL
                      go_wp2
                      go_ret
                      exact ⟨ret_int E.out.symm, btrans K0.out K.out⟩
                    · have M2 := hide (show ∀ t, 1 ≤ t → t < i + 1 → ¬ Adj p L k t from fun t h1 h2 => by
                        by_cases e : t = i
                        · rw [e]; exact fun h => hbk (AD.out.1 h).2
                        · exact M.out t h1 (by omega))
                      have BL := hide (fun w1 => by have := BL0.out w1; rw [decide_eq_false hbk] at this; exact this)
                      clear BL0 hbk AD M b0 b1 bp bl
                      generalize bw k = bk at *
                      generalize l.getD i 0 = z at *
                      generalize l.getD (i - 1) 0 = z0 at *
                      clear ha
                      obtain ⟨n, hn⟩ : ∃ n, n = l.length := ⟨_, rfl⟩
                      have HN := hide hn
                      rw [← hn] at CE s0 hlt hln w7 hi2
                      clear hn
                      go_wp2
                      refine wp_region_noPanic ?_
                      refine wp_region_held_drew (S := (fun W => Box W g 44 (znC p v) ∧ W.cell? ⟨g, 5 + k, none⟩ = some (.slice (some ⟨b, off, none⟩) n c) ∧ W.cell? ⟨b, off + i, none⟩ = some (.int .i64 z) ∧ W.cell? ⟨b, off + (i - 1), none⟩ = some (.int .i64 z0))) (by kernel_rfl) ?_ (fun hHeld => ?_)
                      · exact CE.out
                      generalize wr.drew = w2 at *
                      refine wpAnyH_take (i := 0) (oi := ⟨some 42, _, _, _, _, _⟩) (v := ?_) rfl (by kernel_rfl) (by kernel_rfl) (by kernel_rfl) (fun _ _ _ h => h) (Or.inl ⟨by kernel_rfl, ?_⟩) (by assumption) ?_
                      rotate_left 1
                      · (intro w hSw; (try dsimp only at hSw); go_simp) <;> (with_reducible rfl)
                      (try simp only [Act.put, List.setIfInBounds_toArray, List.set_cons_succ, List.set_cons_zero])
                      refine wpAnyH_take (i := 1) (oi := ⟨some 43, _, _, _, _, _⟩) (v := ?_) rfl (by kernel_rfl) (by kernel_rfl) (by kernel_rfl) (fun _ _ _ h => h) (Or.inl ⟨by kernel_rfl, ?_⟩) (by assumption) ?_
                      rotate_left 1
                      · (intro w hSw; (try dsimp only at hSw); go_simp) <;> (with_reducible rfl)
                      (try simp only [Act.put, List.setIfInBounds_toArray, List.set_cons_succ, List.set_cons_zero])
                      refine wpAnyH_take (i := 2) (oi := ⟨some 44, _, _, _, _, _⟩) (v := ?_) rfl (by kernel_rfl) (by kernel_rfl) (by kernel_rfl) (fun _ _ _ h => h) (Or.inl ⟨by kernel_rfl, ?_⟩) (by assumption) ?_
                      rotate_left 1
                      · (intro w hSw; (try dsimp only at hSw); go_simp) <;> (with_reducible rfl)
                      (try simp only [Act.put, List.setIfInBounds_toArray, List.set_cons_succ, List.set_cons_zero])
                      refine wpAnyH_take (i := 3) (oi := ⟨some 45, _, _, _, _, _⟩) (v := ?_) rfl (by kernel_rfl) (by kernel_rfl) (by kernel_rfl) (fun _ _ _ h => h) (Or.inl ⟨by kernel_rfl, ?_⟩) (by assumption) ?_
                      rotate_left 1
                      · (intro w hSw; (try dsimp only at hSw); go_simp) <;> (with_reducible rfl)
                      (try simp only [Act.put, List.setIfInBounds_toArray, List.set_cons_succ, List.set_cons_zero])
                      refine wpAnyH_take (i := 4) (oi := ⟨some 46, _, _, _, _, _⟩) (v := ?_) rfl (by kernel_rfl) (by kernel_rfl) (by kernel_rfl) (fun _ _ _ h => h) (Or.inl ⟨by kernel_rfl, ?_⟩) (by assumption) ?_
                      rotate_left 1
                      · (intro w hSw; (try dsimp only at hSw); go_simp) <;> (with_reducible rfl)
                      (try simp only [Act.put, List.setIfInBounds_toArray, List.set_cons_succ, List.set_cons_zero])
                      refine wpAnyH_take (i := 5) (oi := ⟨some 47, _, _, _, _, _⟩) (v := ?_) rfl (by kernel_rfl) (by kernel_rfl) (by kernel_rfl) (fun _ _ _ h => h) (Or.inl ⟨by kernel_rfl, ?_⟩) (by assumption) ?_
                      rotate_left 1
                      · (intro w hSw; (try dsimp only at hSw); go_simp) <;> (with_reducible rfl)
                      (try simp only [Act.put, List.setIfInBounds_toArray, List.set_cons_succ, List.set_cons_zero])
                      refine wpAnyH_take (i := 6) (oi := ⟨some 48, _, _, _, _, _⟩) (v := ?_) rfl (by kernel_rfl) (by kernel_rfl) (by kernel_rfl) (fun _ _ _ h => h) (Or.inl ⟨by kernel_rfl, ?_⟩) (by assumption) ?_
                      rotate_left 1
                      · (intro w hSw; (try dsimp only at hSw); go_simp) <;> (with_reducible rfl)
                      (try simp only [Act.put, List.setIfInBounds_toArray, List.set_cons_succ, List.set_cons_zero])
                      refine wpAnyH_take (i := 7) (oi := ⟨some 49, _, _, _, _, _⟩) (v := ?_) rfl (by kernel_rfl) (by kernel_rfl) (by kernel_rfl) (fun _ _ _ h => h) (Or.inl ⟨by kernel_rfl, ?_⟩) (by assumption) ?_
                      rotate_left 1
                      · (intro w hSw; (try dsimp only at hSw); go_simp) <;> (with_reducible rfl)
                      (try simp only [Act.put, List.setIfInBounds_toArray, List.set_cons_succ, List.set_cons_zero])
                      refine wpAnyH_take (i := 8) (oi := ⟨some 50, _, _, _, _, _⟩) (v := ?_) rfl (by kernel_rfl) (by kernel_rfl) (by kernel_rfl) (fun _ _ _ h => h) (Or.inl ⟨by kernel_rfl, ?_⟩) (by assumption) ?_
                      rotate_left 1
                      · (intro w hSw; (try dsimp only at hSw); go_simp) <;> (with_reducible rfl)
                      (try simp only [Act.put, List.setIfInBounds_toArray, List.set_cons_succ, List.set_cons_zero])
                      refine wpAnyH_take (i := 9) (oi := ⟨some 51, _, _, _, _, _⟩) (v := ?_) rfl (by kernel_rfl) (by kernel_rfl) (by kernel_rfl) (fun _ _ _ h => h) (Or.inl ⟨by kernel_rfl, ?_⟩) (by assumption) ?_
                      rotate_left 1
                      · (intro w hSw; (try dsimp only at hSw); go_simp) <;> (with_reducible rfl)
                      (try simp only [Act.put, List.setIfInBounds_toArray, List.set_cons_succ, List.set_cons_zero])
                      refine wpAnyH_take (i := 10) (oi := ⟨some 52, _, _, _, _, _⟩) (v := ?_) rfl (by kernel_rfl) (by kernel_rfl) (by kernel_rfl) (fun _ _ _ h => h) (Or.inl ⟨by kernel_rfl, ?_⟩) (by assumption) ?_
                      rotate_left 1
                      · (intro w hSw; (try dsimp only at hSw); go_simp) <;> (with_reducible rfl)
                      (try simp only [Act.put, List.setIfInBounds_toArray, List.set_cons_succ, List.set_cons_zero])
                      refine wpAnyH_take (i := 11) (oi := ⟨some 53, _, _, _, _, _⟩) (v := ?_) rfl (by kernel_rfl) (by kernel_rfl) (by kernel_rfl) (fun _ _ _ h => h) (Or.inl ⟨by kernel_rfl, ?_⟩) (by assumption) ?_
                      rotate_left 1
                      · (intro w hSw; (try dsimp only at hSw); go_simp) <;> (with_reducible rfl)
                      (try simp only [Act.put, List.setIfInBounds_toArray, List.set_cons_succ, List.set_cons_zero])
                      refine wpAnyH_take (i := 12) (oi := ⟨some 54, _, _, _, _, _⟩) (v := ?_) rfl (by kernel_rfl) (by kernel_rfl) (by kernel_rfl) (fun _ _ _ h => h) (Or.inl ⟨by kernel_rfl, ?_⟩) (by assumption) ?_
                      rotate_left 1
                      · (intro w hSw; (try dsimp only at hSw); go_simp) <;> (with_reducible rfl)
                      (try simp only [Act.put, List.setIfInBounds_toArray, List.set_cons_succ, List.set_cons_zero])
                      refine wpAnyH_take (i := 13) (oi := ⟨some 55, _, _, _, _, _⟩) (v := ?_) rfl (by kernel_rfl) (by kernel_rfl) (by kernel_rfl) (fun _ _ _ h => h) (Or.inl ⟨by kernel_rfl, ?_⟩) (by assumption) ?_
                      rotate_left 1
                      · (intro w hSw; (try dsimp only at hSw); go_simp) <;> (with_reducible rfl)
                      (try simp only [Act.put, List.setIfInBounds_toArray, List.set_cons_succ, List.set_cons_zero])
                      refine wpAnyH_take (i := 14) (oi := ⟨some 56, _, _, _, _, _⟩) (v := ?_) rfl (by kernel_rfl) (by kernel_rfl) (by kernel_rfl) (fun _ _ _ h => h) (Or.inl ⟨by kernel_rfl, ?_⟩) (by assumption) ?_
                      rotate_left 1
                      · (intro w hSw; (try dsimp only at hSw); go_simp) <;> (with_reducible rfl)
                      (try simp only [Act.put, List.setIfInBounds_toArray, List.set_cons_succ, List.set_cons_zero])
                      refine wpAnyH_take (i := 15) (oi := ⟨some 57, _, _, _, _, _⟩) (v := ?_) rfl (by kernel_rfl) (by kernel_rfl) (by kernel_rfl) (fun _ _ _ h => h) (Or.inl ⟨by kernel_rfl, ?_⟩) (by assumption) ?_
                      rotate_left 1
                      · (intro w hSw; (try dsimp only at hSw); go_simp) <;> (with_reducible rfl)
                      (try simp only [Act.put, List.setIfInBounds_toArray, List.set_cons_succ, List.set_cons_zero])
                      refine wpAnyH_take (i := 16) (oi := ⟨some 58, _, _, _, _, _⟩) (v := ?_) rfl (by kernel_rfl) (by kernel_rfl) (by kernel_rfl) (fun _ _ _ h => h) (Or.inl ⟨by kernel_rfl, ?_⟩) (by assumption) ?_
                      rotate_left 1
                      · (intro w hSw; (try dsimp only at hSw); go_simp) <;> (with_reducible rfl)
                      (try simp only [Act.put, List.setIfInBounds_toArray, List.set_cons_succ, List.set_cons_zero])
                      refine wpAnyH_take (i := 17) (oi := ⟨some 59, _, _, _, _, _⟩) (v := ?_) rfl (by kernel_rfl) (by kernel_rfl) (by kernel_rfl) (fun _ _ _ h => h) (Or.inl ⟨by kernel_rfl, ?_⟩) (by assumption) ?_
                      rotate_left 1
                      · (intro w hSw; (try dsimp only at hSw); go_simp) <;> (with_reducible rfl)
                      (try simp only [Act.put, List.setIfInBounds_toArray, List.set_cons_succ, List.set_cons_zero])
                      refine wpAnyH_take (i := 18) (oi := ⟨some 60, _, _, _, _, _⟩) (v := ?_) rfl (by kernel_rfl) (by kernel_rfl) (by kernel_rfl) (fun _ _ _ h => h) (Or.inl ⟨by kernel_rfl, ?_⟩) (by assumption) ?_
                      rotate_left 1
                      · (intro w hSw; (try dsimp only at hSw); go_simp) <;> (with_reducible rfl)
                      (try simp only [Act.put, List.setIfInBounds_toArray, List.set_cons_succ, List.set_cons_zero])
                      refine wpAnyH_take (i := 19) (oi := ⟨some 61, _, _, _, _, _⟩) (v := ?_) rfl (by kernel_rfl) (by kernel_rfl) (by kernel_rfl) (fun _ _ _ h => h) (Or.inl ⟨by kernel_rfl, ?_⟩) (by assumption) ?_
                      rotate_left 1
                      · (intro w hSw; (try dsimp only at hSw); go_simp) <;> (with_reducible rfl)
                      (try simp only [Act.put, List.setIfInBounds_toArray, List.set_cons_succ, List.set_cons_zero])
                      refine wpAnyH_take (i := 20) (oi := ⟨some 62, _, _, _, _, _⟩) (v := ?_) rfl (by kernel_rfl) (by kernel_rfl) (by kernel_rfl) (fun _ _ _ h => h) (Or.inl ⟨by kernel_rfl, ?_⟩) (by assumption) ?_
                      rotate_left 1
                      · (intro w hSw; (try dsimp only at hSw); go_simp) <;> (with_reducible rfl)
                      (try simp only [Act.put, List.setIfInBounds_toArray, List.set_cons_succ, List.set_cons_zero])
                      refine wpAnyH_take (i := 21) (oi := ⟨some 63, _, _, _, _, _⟩) (v := .agg (znC p v)) rfl (by kernel_rfl) (by kernel_rfl) (by kernel_rfl) (fun _ _ _ h => h) (Or.inl ⟨by kernel_rfl, ?_⟩) (by assumption) ?_
                      · (intro w hSw; obtain ⟨y0, y1, y2, y3, y4, y5, y6, y7, y8, y9⟩ := box_all hSw.1; go_simp) <;> rfl
                      (try simp only [Act.put, List.setIfInBounds_toArray, List.set_cons_succ, List.set_cons_zero])
                      refine wpAnyH_take (i := 22) (oi := ⟨some 64, _, _, _, _, _⟩) (v := ?_) rfl (by kernel_rfl) (by kernel_rfl) (by kernel_rfl) (fun _ _ _ h => h) (Or.inl ⟨by kernel_rfl, ?_⟩) (by assumption) ?_
                      rotate_left 1
                      · (intro w hSw; (try dsimp only at hSw); go_simp) <;> (with_reducible rfl)
                      (try simp only [Act.put, List.setIfInBounds_toArray, List.set_cons_succ, List.set_cons_zero])
                      refine wpAnyH_take (i := 23) (oi := ⟨some 65, _, _, _, _, _⟩) (v := ?_) rfl (by kernel_rfl) (by kernel_rfl) (by kernel_rfl) (fun _ _ _ h => h) (Or.inl ⟨by kernel_rfl, ?_⟩) (by assumption) ?_
                      rotate_left 1
                      · (intro w hSw; (try dsimp only at hSw); go_simp) <;> (with_reducible rfl)
                      (try simp only [Act.put, List.setIfInBounds_toArray, List.set_cons_succ, List.set_cons_zero])
                      refine wpAnyH_take (i := 24) (oi := ⟨some 66, _, _, _, _, _⟩) (v := ?_) rfl (by kernel_rfl) (by kernel_rfl) (by kernel_rfl) (fun _ _ _ h => h) (Or.inl ⟨by kernel_rfl, ?_⟩) (by assumption) ?_
                      rotate_left 1
                      · (intro w hSw; (try dsimp only at hSw); go_simp) <;> (with_reducible rfl)
                      (try simp only [Act.put, List.setIfInBounds_toArray, List.set_cons_succ, List.set_cons_zero])
                      refine wpAnyH_take (i := 25) (oi := ⟨some 67, _, _, _, _, _⟩) (v := ?_) rfl (by kernel_rfl) (by kernel_rfl) (by kernel_rfl) (fun _ _ _ h => h) (Or.inl ⟨by kernel_rfl, ?_⟩) (by assumption) ?_
                      rotate_left 1
                      · (intro w hSw; (try dsimp only at hSw); go_simp) <;> (with_reducible rfl)
                      (try simp only [Act.put, List.setIfInBounds_toArray, List.set_cons_succ, List.set_cons_zero])
                      refine wpAnyH_take (i := 26) (oi := ⟨some 68, _, _, _, _, _⟩) (v := ?_) rfl (by kernel_rfl) (by kernel_rfl) (by kernel_rfl) (fun _ _ _ h => h) (Or.inl ⟨by kernel_rfl, ?_⟩) (by assumption) ?_
                      rotate_left 1
                      · (intro w hSw; (try dsimp only at hSw); go_simp) <;> (with_reducible rfl)
                      (try simp only [Act.put, List.setIfInBounds_toArray, List.set_cons_succ, List.set_cons_zero])
                      refine wpAnyH_take (i := 27) (oi := ⟨some 69, _, _, _, _, _⟩) (v := ?_) rfl (by kernel_rfl) (by kernel_rfl) (by kernel_rfl) (fun _ _ _ h => h) (Or.inl ⟨by kernel_rfl, ?_⟩) (by assumption) ?_
                      rotate_left 1
                      · (intro w hSw; (try dsimp only at hSw); go_simp) <;> (with_reducible rfl)
                      (try simp only [Act.put, List.setIfInBounds_toArray, List.set_cons_succ, List.set_cons_zero])
                      refine wpAnyH_take (i := 28) (oi := ⟨some 70, _, _, _, _, _⟩) (v := ?_) rfl (by kernel_rfl) (by kernel_rfl) (by kernel_rfl) (fun _ _ _ h => h) (Or.inl ⟨by kernel_rfl, ?_⟩) (by assumption) ?_
                      rotate_left 1
                      · (intro w hSw; (try dsimp only at hSw); go_simp) <;> (with_reducible rfl)
                      (try simp only [Act.put, List.setIfInBounds_toArray, List.set_cons_succ, List.set_cons_zero])
                      refine wpAnyH_take (i := 29) (oi := ⟨some 71, _, _, _, _, _⟩) (v := ?_) rfl (by kernel_rfl) (by kernel_rfl) (by kernel_rfl) (fun _ _ _ h => h) (Or.inl ⟨by kernel_rfl, ?_⟩) (by assumption) ?_
                      rotate_left 1
                      · (intro w hSw; (try dsimp only at hSw); go_simp) <;> (with_reducible rfl)
                      (try simp only [Act.put, List.setIfInBounds_toArray, List.set_cons_succ, List.set_cons_zero])
                      refine wpAnyH_take (i := 30) (oi := ⟨some 72, _, _, _, _, _⟩) (v := ?_) rfl (by kernel_rfl) (by kernel_rfl) (by kernel_rfl) (fun _ _ _ h => h) (Or.inl ⟨by kernel_rfl, ?_⟩) (by assumption) ?_
                      rotate_left 1
                      · (intro w hSw; (try dsimp only at hSw); go_simp) <;> (with_reducible rfl)
                      (try simp only [Act.put, List.setIfInBounds_toArray, List.set_cons_succ, List.set_cons_zero])
                      refine wpAnyH_take (i := 31) (oi := ⟨some 73, _, _, _, _, _⟩) (v := ?_) rfl (by kernel_rfl) (by kernel_rfl) (by kernel_rfl) (fun _ _ _ h => h) (Or.inl ⟨by kernel_rfl, ?_⟩) (by assumption) ?_
                      rotate_left 1
                      · (intro w hSw; (try dsimp only at hSw); go_simp) <;> (with_reducible rfl)
                      (try simp only [Act.put, List.setIfInBounds_toArray, List.set_cons_succ, List.set_cons_zero])
                      refine wpAnyH_ready (rs := [32]) (by kernel_rfl) (by simp) ?_
                      refine AllReadyH.cons (o := _) rfl (fun K' hK => ?_) AllReadyH.nil
                      go_simp
                      refine (BL.out _).mono ?_
                      rintro e w5 ⟨rfl, hb⟩
                      replace CE := hide (show (fun W => Box W g 44 (znC p v) ∧ W.cell? ⟨g, 5 + k, none⟩ = some (.slice (some ⟨b, off, none⟩) n c) ∧ W.cell? ⟨b, off + i, none⟩ = some (.int .i64 z) ∧ W.cell? ⟨b, off + (i - 1), none⟩ = some (.int .i64 z0)) w5 from ⟨CE.out.1.below hb, (hb.cell (p := ⟨g, 5 + k, none⟩) CE.out.1.lt).trans CE.out.2.1, (hb.cell (p := ⟨b, off + i, none⟩) (Nat.lt_of_lt_of_le hbl K.out.size)).trans CE.out.2.2.1, (hb.cell (p := ⟨b, off + (i - 1), none⟩) (Nat.lt_of_lt_of_le hbl K.out.size)).trans CE.out.2.2.2⟩)
                      replace K := hide (btrans K.out hb)
                      clear hb
                      refine hK.out _ _ ?_ (fun hHeld => ?_)
                      · exact CE.out
                      clear hK K'
                      (try simp only [Act.put, List.setIfInBounds_toArray, List.set_cons_succ, List.set_cons_zero])
                      refine wpAnyH_take (i := 33) (oi := ⟨some 75, _, _, _, _, _⟩) (v := ?_) rfl (by kernel_rfl) (by kernel_rfl) (by kernel_rfl) (fun _ _ _ h => h) (Or.inl ⟨by kernel_rfl, ?_⟩) (by assumption) ?_
                      rotate_left 1
                      · (intro w hSw; (try dsimp only at hSw); go_simp) <;> (with_reducible rfl)
                      (try simp only [Act.put, List.setIfInBounds_toArray, List.set_cons_succ, List.set_cons_zero])
                      refine wpAnyH_done (by kernel_rfl) ?_ _
                      refine NoPanic.normal ?_
                      clear s0 BL
                      repeat (clear hHeld)
                      go_wp2
                      go_roundw
                      case rel => first | exact ⟨i + 1, by omega, by have := HN.out; omega, by go_num, hide CE.out.1, K, M2⟩ | exact ⟨i + 1, by omega, by have := HN.out; omega, by omega, hide CE.out.1, M2⟩ | ((repeat apply Exists.intro); exact ⟨⟨i + 1, by omega, by have := HN.out; omega, by go_num, hide CE.out.1, K, M2⟩, rfl⟩)
                      case measure => simp [intOf]; have := HN.out; omega
                  · have q1 : (l.getD i 0 == l.getD (i - 1) 0 + bw k) = false := by simpa using ha
                    have M2 := hide (show ∀ t, 1 ≤ t → t < i + 1 → ¬ Adj p L k t from fun t h1 h2 => by
                      by_cases e : t = i
                      · rw [e]; exact fun h => ha (AD.out.1 h).1
                      · exact M.out t h1 (by omega))
                    clear BL0 AD M b0 b1 bp bl ha
                    generalize bw k = bk at *
                    generalize l.getD i 0 = z at *
                    generalize l.getD (i - 1) 0 = z0 at *
                    obtain ⟨n, hn⟩ : ∃ n, n = l.length := ⟨_, rfl⟩
                    have HN := hide hn
                    rw [← hn] at CE s0 hlt hln w7 hi2
                    clear hn
                    go_wp2
                    refine wp_region_noPanic ?_
                    refine wp_region_held_drew (S := (fun W => Box W g 44 (znC p v) ∧ W.cell? ⟨g, 5 + k, none⟩ = some (.slice (some ⟨b, off, none⟩) n c) ∧ W.cell? ⟨b, off + i, none⟩ = some (.int .i64 z) ∧ W.cell? ⟨b, off + (i - 1), none⟩ = some (.int .i64 z0))) (by kernel_rfl) ?_ (fun hHeld => ?_)
                    · exact CE.out
                    generalize wr.drew = w2 at *
                    refine wpAnyH_take (i := 0) (oi := ⟨some 42, _, _, _, _, _⟩) (v := ?_) rfl (by kernel_rfl) (by kernel_rfl) (by kernel_rfl) (fun _ _ _ h => h) (Or.inl ⟨by kernel_rfl, ?_⟩) (by assumption) ?_
                    rotate_left 1
                    · (intro w hSw; (try dsimp only at hSw); go_simp) <;> (with_reducible rfl)
                    (try simp only [Act.put, List.setIfInBounds_toArray, List.set_cons_succ, List.set_cons_zero])
                    refine wpAnyH_take (i := 1) (oi := ⟨some 43, _, _, _, _, _⟩) (v := ?_) rfl (by kernel_rfl) (by kernel_rfl) (by kernel_rfl) (fun _ _ _ h => h) (Or.inl ⟨by kernel_rfl, ?_⟩) (by assumption) ?_
                    rotate_left 1
                    · (intro w hSw; (try dsimp only at hSw); go_simp) <;> (with_reducible rfl)
                    (try simp only [Act.put, List.setIfInBounds_toArray, List.set_cons_succ, List.set_cons_zero])
                    refine wpAnyH_take (i := 2) (oi := ⟨some 44, _, _, _, _, _⟩) (v := ?_) rfl (by kernel_rfl) (by kernel_rfl) (by kernel_rfl) (fun _ _ _ h => h) (Or.inl ⟨by kernel_rfl, ?_⟩) (by assumption) ?_
                    rotate_left 1
                    · (intro w hSw; (try dsimp only at hSw); go_simp) <;> (with_reducible rfl)
                    (try simp only [Act.put, List.setIfInBounds_toArray, List.set_cons_succ, List.set_cons_zero])
                    refine wpAnyH_take (i := 3) (oi := ⟨some 45, _, _, _, _, _⟩) (v := ?_) rfl (by kernel_rfl) (by kernel_rfl) (by kernel_rfl) (fun _ _ _ h => h) (Or.inl ⟨by kernel_rfl, ?_⟩) (by assumption) ?_
                    rotate_left 1
                    · (intro w hSw; (try dsimp only at hSw); go_simp) <;> (with_reducible rfl)
                    (try simp only [Act.put, List.setIfInBounds_toArray, List.set_cons_succ, List.set_cons_zero])
                    refine wpAnyH_take (i := 4) (oi := ⟨some 46, _, _, _, _, _⟩) (v := ?_) rfl (by kernel_rfl) (by kernel_rfl) (by kernel_rfl) (fun _ _ _ h => h) (Or.inl ⟨by kernel_rfl, ?_⟩) (by assumption) ?_
                    rotate_left 1
                    · (intro w hSw; (try dsimp only at hSw); go_simp) <;> (with_reducible rfl)
                    (try simp only [Act.put, List.setIfInBounds_toArray, List.set_cons_succ, List.set_cons_zero])
                    refine wpAnyH_take (i := 5) (oi := ⟨some 47, _, _, _, _, _⟩) (v := ?_) rfl (by kernel_rfl) (by kernel_rfl) (by kernel_rfl) (fun _ _ _ h => h) (Or.inl ⟨by kernel_rfl, ?_⟩) (by assumption) ?_
                    rotate_left 1
                    · (intro w hSw; (try dsimp only at hSw); go_simp) <;> (with_reducible rfl)
                    (try simp only [Act.put, List.setIfInBounds_toArray, List.set_cons_succ, List.set_cons_zero])
                    refine wpAnyH_take (i := 6) (oi := ⟨some 48, _, _, _, _, _⟩) (v := ?_) rfl (by kernel_rfl) (by kernel_rfl) (by kernel_rfl) (fun _ _ _ h => h) (Or.inl ⟨by kernel_rfl, ?_⟩) (by assumption) ?_
                    rotate_left 1
                    · (intro w hSw; (try dsimp only at hSw); go_simp) <;> (with_reducible rfl)
                    (try simp only [Act.put, List.setIfInBounds_toArray, List.set_cons_succ, List.set_cons_zero])
                    refine wpAnyH_take (i := 7) (oi := ⟨some 49, _, _, _, _, _⟩) (v := ?_) rfl (by kernel_rfl) (by kernel_rfl) (by kernel_rfl) (fun _ _ _ h => h) (Or.inl ⟨by kernel_rfl, ?_⟩) (by assumption) ?_
                    rotate_left 1
                    · (intro w hSw; (try dsimp only at hSw); go_simp) <;> (with_reducible rfl)
                    (try simp only [Act.put, List.setIfInBounds_toArray, List.set_cons_succ, List.set_cons_zero])
                    refine wpAnyH_take (i := 8) (oi := ⟨some 50, _, _, _, _, _⟩) (v := ?_) rfl (by kernel_rfl) (by kernel_rfl) (by kernel_rfl) (fun _ _ _ h => h) (Or.inl ⟨by kernel_rfl, ?_⟩) (by assumption) ?_
                    rotate_left 1
                    · (intro w hSw; (try dsimp only at hSw); go_simp) <;> (with_reducible rfl)
                    (try simp only [Act.put, List.setIfInBounds_toArray, List.set_cons_succ, List.set_cons_zero])
                    refine wpAnyH_take (i := 9) (oi := ⟨some 51, _, _, _, _, _⟩) (v := ?_) rfl (by kernel_rfl) (by kernel_rfl) (by kernel_rfl) (fun _ _ _ h => h) (Or.inl ⟨by kernel_rfl, ?_⟩) (by assumption) ?_
                    rotate_left 1
                    · (intro w hSw; (try dsimp only at hSw); go_simp) <;> (with_reducible rfl)
                    (try simp only [Act.put, List.setIfInBounds_toArray, List.set_cons_succ, List.set_cons_zero])
                    refine wpAnyH_take (i := 10) (oi := ⟨some 52, _, _, _, _, _⟩) (v := ?_) rfl (by kernel_rfl) (by kernel_rfl) (by kernel_rfl) (fun _ _ _ h => h) (Or.inl ⟨by kernel_rfl, ?_⟩) (by assumption) ?_
                    rotate_left 1
                    · (intro w hSw; (try dsimp only at hSw); go_simp) <;> (with_reducible rfl)
                    (try simp only [Act.put, List.setIfInBounds_toArray, List.set_cons_succ, List.set_cons_zero])
                    refine wpAnyH_take (i := 11) (oi := ⟨some 53, _, _, _, _, _⟩) (v := ?_) rfl (by kernel_rfl) (by kernel_rfl) (by kernel_rfl) (fun _ _ _ h => h) (Or.inl ⟨by kernel_rfl, ?_⟩) (by assumption) ?_
                    rotate_left 1
                    · (intro w hSw; (try dsimp only at hSw); go_simp) <;> (with_reducible rfl)
                    (try simp only [Act.put, List.setIfInBounds_toArray, List.set_cons_succ, List.set_cons_zero])
                    refine wpAnyH_take (i := 12) (oi := ⟨some 54, _, _, _, _, _⟩) (v := ?_) rfl (by kernel_rfl) (by kernel_rfl) (by kernel_rfl) (fun _ _ _ h => h) (Or.inl ⟨by kernel_rfl, ?_⟩) (by assumption) ?_
                    rotate_left 1
                    · (intro w hSw; (try dsimp only at hSw); go_simp) <;> (with_reducible rfl)
                    (try simp only [Act.put, List.setIfInBounds_toArray, List.set_cons_succ, List.set_cons_zero])
                    refine wpAnyH_take (i := 13) (oi := ⟨some 55, _, _, _, _, _⟩) (v := ?_) rfl (by kernel_rfl) (by kernel_rfl) (by kernel_rfl) (fun _ _ _ h => h) (Or.inl ⟨by kernel_rfl, ?_⟩) (by assumption) ?_
                    rotate_left 1
                    · (intro w hSw; (try dsimp only at hSw); go_simp) <;> (with_reducible rfl)
                    (try simp only [Act.put, List.setIfInBounds_toArray, List.set_cons_succ, List.set_cons_zero])
                    refine wpAnyH_take (i := 14) (oi := ⟨some 56, _, _, _, _, _⟩) (v := ?_) rfl (by kernel_rfl) (by kernel_rfl) (by kernel_rfl) (fun _ _ _ h => h) (Or.inl ⟨by kernel_rfl, ?_⟩) (by assumption) ?_
                    rotate_left 1
                    · (intro w hSw; (try dsimp only at hSw); go_simp) <;> (with_reducible rfl)
                    (try simp only [Act.put, List.setIfInBounds_toArray, List.set_cons_succ, List.set_cons_zero])
                    refine wpAnyH_take (i := 15) (oi := ⟨some 57, _, _, _, _, _⟩) (v := ?_) rfl (by kernel_rfl) (by kernel_rfl) (by kernel_rfl) (fun _ _ _ h => h) (Or.inl ⟨by kernel_rfl, ?_⟩) (by assumption) ?_
                    rotate_left 1
                    · (intro w hSw; (try dsimp only at hSw); go_simp) <;> (with_reducible rfl)
                    (try simp only [Act.put, List.setIfInBounds_toArray, List.set_cons_succ, List.set_cons_zero])
                    refine wpAnyH_take (i := 16) (oi := ⟨some 58, _, _, _, _, _⟩) (v := ?_) rfl (by kernel_rfl) (by kernel_rfl) (by kernel_rfl) (fun _ _ _ h => h) (Or.inl ⟨by kernel_rfl, ?_⟩) (by assumption) ?_
                    rotate_left 1
                    · (intro w hSw; (try dsimp only at hSw); go_simp) <;> (with_reducible rfl)
                    (try simp only [Act.put, List.setIfInBounds_toArray, List.set_cons_succ, List.set_cons_zero])
                    refine wpAnyH_take (i := 17) (oi := ⟨some 59, _, _, _, _, _⟩) (v := ?_) rfl (by kernel_rfl) (by kernel_rfl) (by kernel_rfl) (fun _ _ _ h => h) (Or.inl ⟨by kernel_rfl, ?_⟩) (by assumption) ?_
                    rotate_left 1
                    · (intro w hSw; (try dsimp only at hSw); go_simp) <;> (with_reducible rfl)
                    (try simp only [Act.put, List.setIfInBounds_toArray, List.set_cons_succ, List.set_cons_zero])
                    refine wpAnyH_take (i := 18) (oi := ⟨some 60, _, _, _, _, _⟩) (v := ?_) rfl (by kernel_rfl) (by kernel_rfl) (by kernel_rfl) (fun _ _ _ h => h) (Or.inl ⟨by kernel_rfl, ?_⟩) (by assumption) ?_
                    rotate_left 1
                    · (intro w hSw; (try dsimp only at hSw); go_simp) <;> (with_reducible rfl)
                    (try simp only [Act.put, List.setIfInBounds_toArray, List.set_cons_succ, List.set_cons_zero])
                    refine wpAnyH_take (i := 19) (oi := ⟨some 61, _, _, _, _, _⟩) (v := ?_) rfl (by kernel_rfl) (by kernel_rfl) (by kernel_rfl) (fun _ _ _ h => h) (Or.inl ⟨by kernel_rfl, ?_⟩) (by assumption) ?_
                    rotate_left 1
                    · (intro w hSw; (try dsimp only at hSw); go_simp) <;> (with_reducible rfl)
                    (try simp only [Act.put, List.setIfInBounds_toArray, List.set_cons_succ, List.set_cons_zero])
                    refine wpAnyH_take (i := 20) (oi := ⟨some 62, _, _, _, _, _⟩) (v := ?_) rfl (by kernel_rfl) (by kernel_rfl) (by kernel_rfl) (fun _ _ _ h => h) (Or.inl ⟨by kernel_rfl, ?_⟩) (by assumption) ?_
                    rotate_left 1
                    · (intro w hSw; (try dsimp only at hSw); go_simp) <;> (with_reducible rfl)
                    (try simp only [Act.put, List.setIfInBounds_toArray, List.set_cons_succ, List.set_cons_zero])
                    refine wpAnyH_take (i := 21) (oi := ⟨some 63, _, _, _, _, _⟩) (v := undef) rfl (by kernel_rfl) (by kernel_rfl) (by kernel_rfl) (fun _ _ _ h => h) (Or.inr ⟨by kernel_rfl, rfl⟩) (by assumption) ?_
                    (try simp only [Act.put, List.setIfInBounds_toArray, List.set_cons_succ, List.set_cons_zero])
                    refine wpAnyH_take (i := 22) (oi := ⟨some 64, _, _, _, _, _⟩) (v := undef) rfl (by kernel_rfl) (by kernel_rfl) (by kernel_rfl) (fun _ _ _ h => h) (Or.inr ⟨by kernel_rfl, rfl⟩) (by assumption) ?_
                    (try simp only [Act.put, List.setIfInBounds_toArray, List.set_cons_succ, List.set_cons_zero])
                    refine wpAnyH_take (i := 23) (oi := ⟨some 65, _, _, _, _, _⟩) (v := undef) rfl (by kernel_rfl) (by kernel_rfl) (by kernel_rfl) (fun _ _ _ h => h) (Or.inr ⟨by kernel_rfl, rfl⟩) (by assumption) ?_
                    (try simp only [Act.put, List.setIfInBounds_toArray, List.set_cons_succ, List.set_cons_zero])
                    refine wpAnyH_take (i := 24) (oi := ⟨some 66, _, _, _, _, _⟩) (v := undef) rfl (by kernel_rfl) (by kernel_rfl) (by kernel_rfl) (fun _ _ _ h => h) (Or.inr ⟨by kernel_rfl, rfl⟩) (by assumption) ?_
                    (try simp only [Act.put, List.setIfInBounds_toArray, List.set_cons_succ, List.set_cons_zero])
                    refine wpAnyH_take (i := 25) (oi := ⟨some 67, _, _, _, _, _⟩) (v := undef) rfl (by kernel_rfl) (by kernel_rfl) (by kernel_rfl) (fun _ _ _ h => h) (Or.inr ⟨by kernel_rfl, rfl⟩) (by assumption) ?_
                    (try simp only [Act.put, List.setIfInBounds_toArray, List.set_cons_succ, List.set_cons_zero])
                    refine wpAnyH_take (i := 26) (oi := ⟨some 68, _, _, _, _, _⟩) (v := undef) rfl (by kernel_rfl) (by kernel_rfl) (by kernel_rfl) (fun _ _ _ h => h) (Or.inr ⟨by kernel_rfl, rfl⟩) (by assumption) ?_
                    (try simp only [Act.put, List.setIfInBounds_toArray, List.set_cons_succ, List.set_cons_zero])
                    refine wpAnyH_take (i := 27) (oi := ⟨some 69, _, _, _, _, _⟩) (v := undef) rfl (by kernel_rfl) (by kernel_rfl) (by kernel_rfl) (fun _ _ _ h => h) (Or.inr ⟨by kernel_rfl, rfl⟩) (by assumption) ?_
                    (try simp only [Act.put, List.setIfInBounds_toArray, List.set_cons_succ, List.set_cons_zero])
                    refine wpAnyH_take (i := 28) (oi := ⟨some 70, _, _, _, _, _⟩) (v := undef) rfl (by kernel_rfl) (by kernel_rfl) (by kernel_rfl) (fun _ _ _ h => h) (Or.inr ⟨by kernel_rfl, rfl⟩) (by assumption) ?_
                    (try simp only [Act.put, List.setIfInBounds_toArray, List.set_cons_succ, List.set_cons_zero])
                    refine wpAnyH_take (i := 29) (oi := ⟨some 71, _, _, _, _, _⟩) (v := undef) rfl (by kernel_rfl) (by kernel_rfl) (by kernel_rfl) (fun _ _ _ h => h) (Or.inr ⟨by kernel_rfl, rfl⟩) (by assumption) ?_
                    (try simp only [Act.put, List.setIfInBounds_toArray, List.set_cons_succ, List.set_cons_zero])
                    refine wpAnyH_take (i := 30) (oi := ⟨some 72, _, _, _, _, _⟩) (v := undef) rfl (by kernel_rfl) (by kernel_rfl) (by kernel_rfl) (fun _ _ _ h => h) (Or.inr ⟨by kernel_rfl, rfl⟩) (by assumption) ?_
                    (try simp only [Act.put, List.setIfInBounds_toArray, List.set_cons_succ, List.set_cons_zero])
                    refine wpAnyH_take (i := 31) (oi := ⟨some 73, _, _, _, _, _⟩) (v := undef) rfl (by kernel_rfl) (by kernel_rfl) (by kernel_rfl) (fun _ _ _ h => h) (Or.inr ⟨by kernel_rfl, rfl⟩) (by assumption) ?_
                    (try simp only [Act.put, List.setIfInBounds_toArray, List.set_cons_succ, List.set_cons_zero])
                    refine wpAnyH_take (i := 32) (oi := ⟨some 74, _, _, _, _, _⟩) (v := undef) rfl (by kernel_rfl) (by kernel_rfl) (by kernel_rfl) (fun _ _ _ h => h) (Or.inr ⟨by kernel_rfl, rfl⟩) (by assumption) ?_
                    (try simp only [Act.put, List.setIfInBounds_toArray, List.set_cons_succ, List.set_cons_zero])
                    refine wpAnyH_take (i := 33) (oi := ⟨some 75, _, _, _, _, _⟩) (v := ?_) rfl (by kernel_rfl) (by kernel_rfl) (by kernel_rfl) (fun _ _ _ h => h) (Or.inl ⟨by kernel_rfl, ?_⟩) (by assumption) ?_
                    rotate_left 1
                    · (intro w hSw; (try dsimp only at hSw); go_simp) <;> (with_reducible rfl)
                    (try simp only [Act.put, List.setIfInBounds_toArray, List.set_cons_succ, List.set_cons_zero])
                    refine wpAnyH_done (by kernel_rfl) ?_ _
                    refine NoPanic.normal ?_
                    clear s0
                    repeat (clear hHeld)
                    go_wp2
                    go_roundw
                    case rel => first | exact ⟨i + 1, by omega, by have := HN.out; omega, by go_num, hide CE.out.1, K, M2⟩ | exact ⟨i + 1, by omega, by have := HN.out; omega, by omega, hide CE.out.1, M2⟩ | ((repeat apply Exists.intro); exact ⟨⟨i + 1, by omega, by have := HN.out; omega, by go_num, hide CE.out.1, K, M2⟩, rfl⟩)
                    case measure => simp [intOf]; have := HN.out; omega
                · have N2 := hide (show ∀ j, j < k + 1 → ∀ i, 1 ≤ i → i < (L j).length → ¬ Adj p L j i from fun j hj => by
                    by_cases e : j = k
                    · intro t h1 h2
                      rw [e] at h2 ⊢
                      rw [← HLk.out] at h2
                      exact M.out t h1 (by omega)
                    · exact N.out j (by omega))
                  have hdl : decide ((i : Int) < (l.length : Int)) = false := decide_eq_false (by omega)
                  clear M
                  go_wp2
                  go_roundw
                  case rel => exact ⟨k + 1, by have := H4.out; omega, by go_num, X, K, N2⟩
                  case measure => simp [intOf]; have := H4.out; omega
            · obtain rfl : k = 4 := by omega
              have E := hide (show res = 0 by
                rw [HRes.out]
                unfold chk
                rw [if_pos HP.out, if_neg (fun x => x HL0.out), if_pos HD.out, if_pos]
                exact (nb_iff HL.out).2 N.out)
              go_wp2
              go_ret
              exact ⟨ret_int E.out.symm, btrans K0.out K.out⟩
    · have E := hide (show res = listE p L by rw [HRes.out]; unfold chk; rw [if_pos HP.out, if_pos hl])
      have hne : (listE p L != 0) = true := by simpa using hl
      generalize listE p L = ce at *
      clear hp hl
      go_enter Try.func34, Try.ntmps34
      go_upto_region 1 with fail
      rw [← hg, ← hW0]
      clear hg hW0
      go_wp2_with (first | (refine wpList_load_row rfl 44 _ rfl g rfl 44 (znC p v) (0, 0) _ X.out Try.underlying44 rfl (by kernel_rfl) ?_) | (go_at_call 41; refine (PA.out _).mono ?_; rintro e w1 ⟨rfl, hb1⟩; replace X := hide (X.out.below hb1)) | (go_at_call 42; refine (RL.out _ hb1).mono ?_; rintro e w2 ⟨rfl, hb2⟩))
      go_ret
      exact ⟨ret_int E.out.symm, btrans K0.out (btrans hb1 hb2)⟩
  · rw [decide_eq_false hp] at PA
    have E := hide (show res = 2 by rw [HRes.out]; unfold chk; rw [if_neg hp])
    clear hp
    go_enter Try.func34, Try.ntmps34
    go_upto_region 1 with fail
    rw [← hg, ← hW0]
    clear hg hW0
    go_wp2_with (first | (refine wpList_load_row rfl 44 _ rfl g rfl 44 (znC p v) (0, 0) _ X.out Try.underlying44 rfl (by kernel_rfl) ?_) | (go_at_call 41; refine (PA.out _).mono ?_; rintro e w1 ⟨rfl, hb1⟩))
    go_ret
    exact ⟨ret_int E.out.symm, btrans K0.out hb1⟩
end Go.Proofs.Ytiopfeleaifpbab.Bd
