import Derived.Test.YtiopfeleaifpbaaOr1
import Derived.Laws.EntriesVeiled
namespace Go.Proofs.Ytiopfeleaifpbaa.Bd
open Go Go.RowKit Go.Sort Go.Lib
set_option linter.unusedVariables false
set_option linter.unusedSimpArgs false
theorem sort_list2 {m : Nat} (cf : Fin (m + 1) → Fin (m + 1) → Int) (g : Nat) (cb : Array Value) (A : Option Addr) (cap B : Nat) (zs : List (Fin (m + 1))) (w : World) (O : OwI B w (.slice A (zs.map fv).length cap) (zs.map fv)) (hB : B ≤ w.heap.size)
    (eg : ∀ args w, (callFunc g args).run Try.prog w = .ok (.enter g args) w) (hc : zs ≠ [] → ∀ W, Kp B 3 w W → ∀ x y : Fin (m + 1), Calls Try.prog g (#[.int .i64 (fv x), .int .i64 (fv y)] ++ cb) W fun e w' => e = .returned (.int .i64 (cf x y)) ∧ ∃ q, w' = W.drewN q) (h20 : zs.length < 20) :
    Calls Try.prog 27 #[.slice A (zs.map fv).length cap, .func (.func g) #[] cb] w fun e w' => e = .returned (.tuple #[]) ∧ OwI B w' (.slice A (zs.map fv).length cap) ((srtd cf zs).map fv) ∧ Below B w w' := by
  rcases Nat.eq_zero_or_pos zs.length with h0 | h0
  · have e0 : zs = [] := List.eq_nil_of_length_eq_zero h0
    subst e0
    refine (sort_none A cap g cb w).mono ?_
    rintro e w' ⟨rfl, rfl⟩
    exact ⟨rfl, by rw [show srtd cf [] = [] from List.eq_nil_of_length_eq_zero (srtd_len cf [])]; exact O, Below.refl _ _⟩
  · have O2 := O
    have hne : zs ≠ [] := by rintro rfl; simp at h0
    obtain ⟨_, ⟨_, hn0⟩ | ⟨gb, capb, cur, ev, hgb, hh, h1, h2, h3, h4⟩⟩ := O2
    · rw [List.length_map] at hn0; omega
    · cases ev
      have el : (zs.map fv).length = zs.toArray.size := by simp
      have am : (zs.toArray.map fv) = (zs.map fv).toArray := by simp
      have hH : Holds (encF m) w gb 0 zs.toArray := holds_F (by rw [am]; exact holds_of_blockI hh (by rw [Nat.mul_one] at h4; exact h4))
      have hgr : ∀ (n : Nat) (os : Array Obj) (d : Array Int), w.grownBy (grow (putRow (Value.int .i64) (Sort.ahead w n) gb 0 d) os) (Value.slice (some ⟨gb, 0, none⟩) (zs.map fv).length cap).ownBlock := fun n os d => grownBy_sortedI d
      have hcmp : CmpReads Try.prog g cb (encF m) cf gb 0 zs.toArray.size w := by
        intro mm os dk hdk x y
        refine hc hne _ ?_ x y
        unfold sortWorld
        rw [putRow_F]
        exact Kp.grown O (hgr mm os _) (Nat.le_refl B) hB
      rw [el]
      refine (sort_any (encF m) (one_F m) cf g cb gb 0 cap zs.toArray w eg hcmp hH (by simpa using h20)).mono ?_
      rintro e w' ⟨rfl, n, rfl⟩
      rw [← sortWorld_none]
      unfold sortWorld
      rw [putRow_F]
      have et : (Sort.insertionSort (ltOf cf) zs.toArray 0 zs.toArray.size).map fv = ((srtd cf zs).map fv).toArray := by
        unfold srtd
        apply Array.ext'
        simp
      rw [et]
      refine ⟨rfl, ?_, below_grown O (hgr n #[] _) hB⟩
      rw [← el]
      have r := ownsRow_sortedI (w := w) (n := n) (os := #[]) (ss := zs.map fv) (ts := (srtd cf zs).map fv) (by simp [srtd_len]) hgb hh h1 h2 h3
      unfold OwI
      have e5 : ((srtd cf zs).map fv).length = (zs.map fv).length := by simp [srtd_len]
      rw [e5]
      exact r
theorem oR_bad {Z : List Zo} {n : Int} {kb : Bool} (h : nR Z n = []) : oR Z n kb = [] := by unfold oR; rw [h]; rfl
theorem order_sort {Z : List Zo} {n : Int} {kb : Bool} (h : chE Z = 0) (hn : 0 ≤ n ∧ n < 4) : ∃ (m : Nat) (zs : List (Fin (m + 1))), un (sth Z kb) Z.length = zs.map fv ∧ zs.length < 20 ∧ (srtd (cOF Z (nR Z n)) zs).map fv = oR Z n kb ∧ (zs ≠ [] → m + 1 = Z.length) := by
  have P := pl_of h hn (fun k hk => hs_yes hk rfl)
  have h6 := (chE_ok h).1
  cases hz : Z.length with
  | zero =>
    refine ⟨0, [], rfl, by decide, ?_, fun g => absurd rfl g⟩
    rw [show srtd (cOF (m := 0) Z (nR Z n)) [] = [] from List.eq_nil_of_length_eq_zero (srtd_len _ [])]
    refine Eq.symm (List.eq_nil_iff_forall_not_mem.2 fun x hx => ?_)
    have := ((ro_facts P kb _ (Nat.le_refl _)).2 x).1 hx
    omega
  | succ m =>
    obtain ⟨zs, e1, e2⟩ := un_fin (sth Z kb) m (m + 1) (Nat.le_refl _)
    refine ⟨m, zs, e1, ?_, order_eq P kb hz.symm (by rw [hz]; exact e1) e2, fun _ => rfl⟩
    have := un_len (sth Z kb) (m + 1)
    rw [e1, List.length_map] at this
    omega
theorem OwI.bi {B : Nat} {w : World} {A : Option Addr} {n c : Nat} {l : Is} (h : OwI B w (.slice A n c) l) : Bi w A l := by
  obtain ⟨A2, c2, e, _, hb⟩ := OwI.is h
  injection e with e1 _ _
  rw [e1]; exact hb
theorem nR_len {Z : List Zo} {n : Int} (h : chE Z = 0) (hn : 0 ≤ n ∧ n < 4) : (nR Z n).length ≤ 8 := by
  rw [(nE_ok h hn).2]
  exact nl_len Z n 4
set_option maxRecDepth 100000 in
set_option maxHeartbeats 8000000 in
theorem order_any (AZ : Option Addr) (cp : Nat) (Z : List Zo) (n : Int) (kb : Bool) (w : World) (hr : Zs w AZ Z) (hz : ZIs w Z) (hn : Z.length ≤ 9223372036854775807) : Calls Try.prog 17 #[.slice AZ Z.length cp, .int .i64 n, .bool kb] w fun e w' => (∃ A c, e = .returned (.tuple #[.slice A (oR Z n kb).length c, .int .i64 (nE Z n)]) ∧ OwI w.heap.size w' (.slice A (oR Z n kb).length c) (oR Z n kb)) ∧ Below w.heap.size w w' := by
  have X3 := hide (Box.new w 22 #[.slice AZ Z.length cp])
  have K := hide (bal (brefl w) (.cells #[.slice AZ Z.length cp] 22))
  obtain ⟨g3, hg⟩ : ∃ g3, g3 = w.heap.size := ⟨_, rfl⟩
  have HG := hide hg
  obtain ⟨W0, hW0⟩ : ∃ W0, W0 = (w.alloc (.cells #[.slice AZ Z.length cp] 22)) := ⟨_, rfl⟩
  rw [← hg, ← hW0] at X3
  rw [← hW0] at K
  have ND := hide (nodes_any AZ cp Z n W0 (hr.below K.out) (hz.below K.out) hn)
  have HR := hide hr
  have HZ := hide hz
  have x3 : W0.cell? ⟨g3, 0, none⟩ = some (.slice AZ Z.length cp) := X3.out.cell 0
  clear hr hz
  go_enter Try.func17, Try.ntmps17
  go_upto_region 1 with fail
  rw [← hg, ← hW0]
  clear hg hW0
  go_wp2_with fail
  refine ND.out.mono ?_
  rintro e w1 ⟨⟨A, c, rfl, hO⟩, hb⟩
  have OL := hide hO
  replace X3 := hide (X3.out.below hb)
  replace K := hide (K.out.trans (hb.mono K.out.size))
  clear hO hb x3 ND
  have M := bal (brefl w1) (.cells #[.slice A (nR Z n).length c] 27)
  have X8 := hide (Box.new w1 27 #[.slice A (nR Z n).length c])
  have OL2 := hide (row_below OL.out M)
  have X32 := hide (X3.out.below M)
  have K2 := hide (K.out.trans (M.mono K.out.size))
  clear M OL X3 K
  by_cases hne : nE Z n = 0
  · have hCN : chE Z = 0 ∧ (0 ≤ n ∧ n < 4) := by
      by_cases hc : chE Z = 0
      · by_cases h4 : 0 ≤ n ∧ n < 4
        · exact ⟨hc, h4⟩
        · rw [(nE_two hc h4).1] at hne; omega
      · rw [(nE_bad hc).1] at hne; exact absurd hne hc
    have HCE := hide hCN.1
    have HN := hide hCN.2
    have E1 := hide hne
    rw [hne]
    clear hCN hne
    obtain ⟨i0, hi0, hz0, hz1, hz2⟩ := info_parts info3
    go_upto_region 4 with fail
    obtain ⟨g8, hg8⟩ : ∃ g8, g8 = w1.heap.size := ⟨_, rfl⟩
    rw [← hg8] at X8 ⊢
    clear hg8
    generalize w1.alloc (.cells #[.slice A (nR Z n).length c] 27) = w2 at *
    obtain ⟨B, hB⟩ : ∃ B, B = w2.heap.size := ⟨_, rfl⟩
    have HB := hide hB
    have HR2 := hide (show Zs w2 AZ Z from HR.out.below K2.out)
    have x3 : w2.cell? ⟨g3, 0, none⟩ = some (.slice AZ Z.length cp) := X32.out.cell 0
    have CM : Hid (∀ {wx W : World} {g13 : Nat} {m : Nat}, Kp B 3 wx W → Box wx g13 51 #[.func (.func 32) #[] #[.pointer (some ⟨g8, 0, none⟩), .pointer (some ⟨g3, 0, none⟩)]] → Below B w2 wx → m + 1 = Z.length → ∀ x y : Fin (m + 1), Calls Try.prog 34 (#[.int .i64 (fv x), .int .i64 (fv y)] ++ #[.pointer (some ⟨g13, 0, none⟩)]) W fun e w' => e = .returned (.int .i64 (cOF Z (nR Z n) x y)) ∧ ∃ q, w' = W.drewN q) := by
      intro wx W g13 m hkp hx13 hbx hm x y
      have hbW : Below w2.heap.size w2 W := by rw [← hB]; exact hbx.trans hkp.below
      have hl8 := (nR_len HCE.out HN.out)
      exact cmpo_any g13 g8 g3 A AZ c cp (nR Z n) Z x.val y.val (by have := x.isLt; omega) (by have := y.isLt; omega) W ((hx13.kp hkp (by decide)).cell 0) ((X8.out.below hbW).cell 0) ((X32.out.below hbW).cell 0) ((OwI.bi OL2.out).below hbW) (HR2.out.below hbW) (by omega) (by have := (chE_ok HCE.out).1; omega)
    clear OL2 X8 hB
    cases kb
    · go_wp2
      go_loopw [10, 25] (fun a b wr => ∃ k : Nat, k ≤ Z.length ∧ b = .int .i64 k ∧ Hid (OwI B wr a (un (sth Z false) k)) ∧ Hid (Below B w2 wr)) (fun _ b _ => Z.length - (intOf b).toNat)
      case atStart => exact ⟨0, by omega, rfl, hide (ow_nil _ _), hide (Below.refl _ _)⟩
      case round =>
        obtain ⟨k, hk, rfl, O, K⟩ := hrel
        obtain ⟨A1, cap1, ev, hcp⟩ := row_form O.out
        subst ev
        by_cases hlt : k < Z.length
        · have hlt2 : (k : Int) < (Z.length : Int) := by omega
          have hk0' : (0 : Int) ≤ (k : Int) := by omega
          obtain ⟨b, off, rfl, hbl, hcs⟩ := HR2.out.cells (K.out.mono (Nat.le_of_eq HB.out.symm)) hlt
          obtain ⟨A0, c0, A1', c1, A2, c2, A3, c3', A4', c4, e0, e1, e2, e3, e4⟩ := (HZ.out k hlt).forms
          have ek : kd Z k = (zAt Z k).p.kd := rfl
          have y0 := hcs 0 (by omega); have y1 := hcs 1 (by omega); have y2 := hcs 2 (by omega); have y3 := hcs 3 (by omega); have y4 := hcs 4 (by omega)
          have y5 := hcs 5 (by omega); have y6 := hcs 6 (by omega); have y7 := hcs 7 (by omega); have y8 := hcs 8 (by omega); have y9 := hcs 9 (by omega)
          clear hcs
          generalize (zAt Z k).L = L at *
          generalize (zAt Z k).p = p at *
          generalize (zAt Z k).v = v at *
          unfold znC at y0 y1 y2 y3 y4 y5 y6 y7 y8 y9
          rw [e0, e1, e2, e3, e4] at y0 y1 y2 y3 y4 y5 y6 y7 y8 y9
          simp at y0 y1 y2 y3 y4 y5 y6 y7 y8 y9
          generalize (L 0).length = n0 at *
          generalize (L 1).length = n1 at *
          generalize (L 2).length = n2 at *
          generalize (L 3).length = n3 at *
          generalize (L 4).length = n4 at *
          clear e0 e1 e2 e3 e4
          obtain ⟨pnd, pkd, st, ct, mn⟩ := p
          simp only at y0 y1 y2 y3 y4 ek
          obtain ⟨zc, hzc⟩ : ∃ zc : Array Value, zc = #[.int .i64 pnd, .int .i64 pkd, .int .i64 st, .int .i64 ct, .int .i64 mn, .slice A0 n0 c0, .slice A1' n1 c1, .slice A2 n2 c2, .slice A3 n3 c3', .slice A4' n4 c4] := ⟨_, rfl⟩
          have HZC := hide hzc
          have M := bal (brefl wr) (.cells zc 41)
          have X12 := hide (Box.new wr 41 zc)
          have OX := hide (row_below O.out M)
          have SX := hide (show B ≤ (wr.alloc (.cells zc 41)).heap.size by rw [alloc_size']; have := K.out.size; rw [HB.out]; omega)
          have KX := hide (K.out.trans (M.mono (by rw [HB.out]; exact K.out.size)))
          clear M O K
          go_upto_region 8 with fail
          rw [← hzc]
          obtain ⟨g12, hg12⟩ : ∃ g12, g12 = wr.heap.size := ⟨_, rfl⟩
          rw [← hg12] at X12 ⊢
          clear hg12
          generalize wr.alloc (.cells zc 41) = wx at *
          clear hzc y0 y1 y2 y3 y4 y5 y6 y7 y8 y9
          have x1 : wx.cell? ⟨g12, 1, none⟩ = some (.int .i64 pkd) := by rw [X12.out.cell 1, HZC.out]; rfl
          clear HZC X12
          have EH := hide (un_1 (h := sth Z false) (k := k) rfl)
          clear ek x1
          have M := bal (brefl wx) (.cells #[.int .i64 (k : Int)] 3)
          have OA := hide (row_below OX.out M)
          have NB := hide (cell_one_new wx (.int .i64 (k : Int)) 3)
          have SA := hide (show B ≤ (wx.alloc (.cells #[.int .i64 (k : Int)] 3)).heap.size by rw [alloc_size']; have := SX.out; omega)
          have KA := hide (KX.out.trans (M.mono SX.out))
          clear M OX KX SX
          obtain ⟨l1, hl1⟩ : ∃ l1, l1 = un (sth Z false) k := ⟨_, rfl⟩
          obtain ⟨m, hm⟩ : ∃ m, m = l1.length := ⟨_, rfl⟩
          have hfl : m ≤ 1000 := by
            have := un_len (sth Z false) k
            have := (chE_ok HCE.out).1
            rw [hm, hl1]; omega
          rw [← hl1, ← hm] at OA
          rw [← hl1] at EH
          rw [← hl1, ← hm]
          have HLM := hide hm
          clear hl1 hm hcp
          go_upto_region 10 with (at_builtin; refine wpList_append_own_at _ rfl (.tmp 37) (.tmp 39) 27 rfl B 3 i0 _ 1 8 Try.underlying27 hi0 hz0 hz1 hz2 rfl (by omega) (.slice A1 m cap1) m (l1.map ic) rfl OA.out ⟨wx.heap.size, 0, none⟩ 1 1 [.int .i64 (k : Int)] rfl rfl NB.out (by intro u hu; rw [List.mem_singleton.1 hu]; rfl) (by simp only [maxLen]; omega) (by omega) SA.out ?_; intro v4 w4 hown4 hg4 _ hat4; obtain ⟨A4, cp4, ev4, _⟩ := row_form hown4; subst ev4)
          have O := hide (show OwI B w4 (.slice A4 (m + 1) cp4) (un (sth Z false) (k + 1)) by
            have e3 : (un (sth Z false) (k + 1)).length = m + 1 := by rw [EH.out, List.length_append, ← HLM.out]; rfl
            unfold OwI
            rw [e3, EH.out, List.map_append]
            exact hown4)
          have B4 := below_grown OA.out hg4 SA.out
          have K := hide (KA.out.trans B4)
          have e3 : (un (sth Z false) (k + 1)).length = m + 1 := by rw [EH.out, List.length_append, ← HLM.out]; rfl
          rw [← e3] at O ⊢
          clear B4 hown4 hg4 hat4 OA NB SA KA e3
          go_wp2
          go_roundw
          case rel => exact ⟨k + 1, by omega, by go_num, O, K⟩
          case measure => simp [intOf]; omega
        · obtain rfl : k = Z.length := by omega
          obtain ⟨m, zs, e1, e2, e3, e4⟩ := order_sort (kb := false) HCE.out HN.out
          have eg : ∀ args w, (callFunc 34 args).run Try.prog w = .ok (.enter 34 args) w := Go.Proofs.enters_of Try.func34 (by kernel_rfl) rfl
          have M := bal (brefl wr) (.cells #[.func (.func 32) #[] #[.pointer (some ⟨g8, 0, none⟩), .pointer (some ⟨g3, 0, none⟩)]] 51)
          have X13 := hide (Box.new wr 51 #[.func (.func 32) #[] #[.pointer (some ⟨g8, 0, none⟩), .pointer (some ⟨g3, 0, none⟩)]])
          have OX := hide (row_below O.out M)
          have SX := hide (show B ≤ (wr.alloc (.cells #[.func (.func 32) #[] #[.pointer (some ⟨g8, 0, none⟩), .pointer (some ⟨g3, 0, none⟩)]] 51)).heap.size by rw [alloc_size']; have := K.out.size; rw [HB.out]; omega)
          have KX := hide (K.out.trans (M.mono (by rw [HB.out]; exact K.out.size)))
          clear M O K
          go_upto_region 12 with fail
          obtain ⟨g13, hg13⟩ : ∃ g13, g13 = wr.heap.size := ⟨_, rfl⟩
          rw [← hg13] at X13 ⊢
          clear hg13
          generalize wr.alloc (.cells #[.func (.func 32) #[] #[.pointer (some ⟨g8, 0, none⟩), .pointer (some ⟨g3, 0, none⟩)]] 51) = wx at *
          have SO := hide (sort_list2 (cOF (m := m) Z (nR Z n)) 34 #[.pointer (some ⟨g13, 0, none⟩)] A1 cap1 B zs wx (by have := OX.out; rw [e1] at this; exact this) SX.out eg (fun hne W hk x y => CM.out hk X13.out KX.out (e4 hne) x y) e2)
          rw [← e1, e3] at SO
          have el : (un (sth Z false) Z.length).length = (oR Z n false).length := by rw [e1, ← e3, List.length_map, List.length_map, srtd_len]
          rw [el] at SO
          rw [el]
          clear el e1 e2 e3 e4 hcp OX X13 eg
          go_wp2_with (go_at_call 27; refine SO.out.mono ?_; rintro e w5 ⟨rfl, ho, hb5⟩; have O5 := hide ho; have B5 := hide hb5; clear ho hb5)
          refine ret_si Try.results17 rfl rfl rfl ⟨⟨_, _, ?_, row_mono O5.out (by rw [HB.out]; exact K2.out.size)⟩, K2.out.trans ((KX.out.trans B5.out).mono (by rw [HB.out]; exact K2.out.size))⟩
          rw [E1.out]
    · go_wp2
      go_loopw [10, 25] (fun a b wr => ∃ k : Nat, k ≤ Z.length ∧ b = .int .i64 k ∧ Hid (OwI B wr a (un (sth Z true) k)) ∧ Hid (Below B w2 wr)) (fun _ b _ => Z.length - (intOf b).toNat)
      case atStart => exact ⟨0, by omega, rfl, hide (ow_nil _ _), hide (Below.refl _ _)⟩
      case round =>
        obtain ⟨k, hk, rfl, O, K⟩ := hrel
        obtain ⟨A1, cap1, ev, hcp⟩ := row_form O.out
        subst ev
        by_cases hlt : k < Z.length
        · have hlt2 : (k : Int) < (Z.length : Int) := by omega
          have hk0' : (0 : Int) ≤ (k : Int) := by omega
          obtain ⟨b, off, rfl, hbl, hcs⟩ := HR2.out.cells (K.out.mono (Nat.le_of_eq HB.out.symm)) hlt
          obtain ⟨A0, c0, A1', c1, A2, c2, A3, c3', A4', c4, e0, e1, e2, e3, e4⟩ := (HZ.out k hlt).forms
          have ek : kd Z k = (zAt Z k).p.kd := rfl
          have y0 := hcs 0 (by omega); have y1 := hcs 1 (by omega); have y2 := hcs 2 (by omega); have y3 := hcs 3 (by omega); have y4 := hcs 4 (by omega)
          have y5 := hcs 5 (by omega); have y6 := hcs 6 (by omega); have y7 := hcs 7 (by omega); have y8 := hcs 8 (by omega); have y9 := hcs 9 (by omega)
          clear hcs
          generalize (zAt Z k).L = L at *
          generalize (zAt Z k).p = p at *
          generalize (zAt Z k).v = v at *
          unfold znC at y0 y1 y2 y3 y4 y5 y6 y7 y8 y9
          rw [e0, e1, e2, e3, e4] at y0 y1 y2 y3 y4 y5 y6 y7 y8 y9
          simp at y0 y1 y2 y3 y4 y5 y6 y7 y8 y9
          generalize (L 0).length = n0 at *
          generalize (L 1).length = n1 at *
          generalize (L 2).length = n2 at *
          generalize (L 3).length = n3 at *
          generalize (L 4).length = n4 at *
          clear e0 e1 e2 e3 e4
          obtain ⟨pnd, pkd, st, ct, mn⟩ := p
          simp only at y0 y1 y2 y3 y4 ek
          obtain ⟨zc, hzc⟩ : ∃ zc : Array Value, zc = #[.int .i64 pnd, .int .i64 pkd, .int .i64 st, .int .i64 ct, .int .i64 mn, .slice A0 n0 c0, .slice A1' n1 c1, .slice A2 n2 c2, .slice A3 n3 c3', .slice A4' n4 c4] := ⟨_, rfl⟩
          have HZC := hide hzc
          have M := bal (brefl wr) (.cells zc 41)
          have X12 := hide (Box.new wr 41 zc)
          have OX := hide (row_below O.out M)
          have SX := hide (show B ≤ (wr.alloc (.cells zc 41)).heap.size by rw [alloc_size']; have := K.out.size; rw [HB.out]; omega)
          have KX := hide (K.out.trans (M.mono (by rw [HB.out]; exact K.out.size)))
          clear M O K
          go_upto_region 8 with fail
          rw [← hzc]
          obtain ⟨g12, hg12⟩ : ∃ g12, g12 = wr.heap.size := ⟨_, rfl⟩
          rw [← hg12] at X12 ⊢
          clear hg12
          generalize wr.alloc (.cells zc 41) = wx at *
          clear hzc y0 y1 y2 y3 y4 y5 y6 y7 y8 y9
          have x1 : wx.cell? ⟨g12, 1, none⟩ = some (.int .i64 pkd) := by rw [X12.out.cell 1, HZC.out]; rfl
          clear HZC X12
          by_cases hk0 : pkd = 0
          · have EH := hide (un_1 (h := sth Z true) (k := k) (by unfold sth; rw [Int.toNat_natCast, ek, hk0]; rfl))
            subst hk0
            clear ek
            have M := bal (brefl wx) (.cells #[.int .i64 (k : Int)] 3)
            have OA := hide (row_below OX.out M)
            have NB := hide (cell_one_new wx (.int .i64 (k : Int)) 3)
            have SA := hide (show B ≤ (wx.alloc (.cells #[.int .i64 (k : Int)] 3)).heap.size by rw [alloc_size']; have := SX.out; omega)
            have KA := hide (KX.out.trans (M.mono SX.out))
            clear M OX KX SX
            obtain ⟨l1, hl1⟩ : ∃ l1, l1 = un (sth Z true) k := ⟨_, rfl⟩
            obtain ⟨m, hm⟩ : ∃ m, m = l1.length := ⟨_, rfl⟩
            have hfl : m ≤ 1000 := by
              have := un_len (sth Z true) k
              have := (chE_ok HCE.out).1
              rw [hm, hl1]; omega
            rw [← hl1, ← hm] at OA
            rw [← hl1] at EH
            rw [← hl1, ← hm]
            have HLM := hide hm
            clear hl1 hm hcp
            go_upto_region 10 with (at_builtin; refine wpList_append_own_at _ rfl (.tmp 37) (.tmp 39) 27 rfl B 3 i0 _ 1 8 Try.underlying27 hi0 hz0 hz1 hz2 rfl (by omega) (.slice A1 m cap1) m (l1.map ic) rfl OA.out ⟨wx.heap.size, 0, none⟩ 1 1 [.int .i64 (k : Int)] rfl rfl NB.out (by intro u hu; rw [List.mem_singleton.1 hu]; rfl) (by simp only [maxLen]; omega) (by omega) SA.out ?_; intro v4 w4 hown4 hg4 _ hat4; obtain ⟨A4, cp4, ev4, _⟩ := row_form hown4; subst ev4)
            have O := hide (show OwI B w4 (.slice A4 (m + 1) cp4) (un (sth Z true) (k + 1)) by
              have e3 : (un (sth Z true) (k + 1)).length = m + 1 := by rw [EH.out, List.length_append, ← HLM.out]; rfl
              unfold OwI
              rw [e3, EH.out, List.map_append]
              exact hown4)
            have B4 := below_grown OA.out hg4 SA.out
            have K := hide (KA.out.trans B4)
            have e3 : (un (sth Z true) (k + 1)).length = m + 1 := by rw [EH.out, List.length_append, ← HLM.out]; rfl
            rw [← e3] at O ⊢
            clear B4 hown4 hg4 hat4 OA NB SA KA e3
            go_wp2
            go_roundw
            case rel => exact ⟨k + 1, by omega, by go_num, O, K⟩
            case measure => simp [intOf]; omega
          · have EH := un_0 (h := sth Z true) (k := k) (by unfold sth; rw [Int.toNat_natCast, ek]; simpa using hk0)
            have dk : (pkd == 0) = false := by simpa using hk0
            clear ek hk0
            rw [← EH] at OX ⊢
            clear EH
            go_wp2
            go_roundw
            case rel => exact ⟨k + 1, by omega, by go_num, OX, KX⟩
            case measure => simp [intOf]; omega
        · obtain rfl : k = Z.length := by omega
          obtain ⟨m, zs, e1, e2, e3, e4⟩ := order_sort (kb := true) HCE.out HN.out
          have eg : ∀ args w, (callFunc 34 args).run Try.prog w = .ok (.enter 34 args) w := Go.Proofs.enters_of Try.func34 (by kernel_rfl) rfl
          have M := bal (brefl wr) (.cells #[.func (.func 32) #[] #[.pointer (some ⟨g8, 0, none⟩), .pointer (some ⟨g3, 0, none⟩)]] 51)
          have X13 := hide (Box.new wr 51 #[.func (.func 32) #[] #[.pointer (some ⟨g8, 0, none⟩), .pointer (some ⟨g3, 0, none⟩)]])
          have OX := hide (row_below O.out M)
          have SX := hide (show B ≤ (wr.alloc (.cells #[.func (.func 32) #[] #[.pointer (some ⟨g8, 0, none⟩), .pointer (some ⟨g3, 0, none⟩)]] 51)).heap.size by rw [alloc_size']; have := K.out.size; rw [HB.out]; omega)
          have KX := hide (K.out.trans (M.mono (by rw [HB.out]; exact K.out.size)))
          clear M O K
          go_upto_region 12 with fail
          obtain ⟨g13, hg13⟩ : ∃ g13, g13 = wr.heap.size := ⟨_, rfl⟩
          rw [← hg13] at X13 ⊢
          clear hg13
          generalize wr.alloc (.cells #[.func (.func 32) #[] #[.pointer (some ⟨g8, 0, none⟩), .pointer (some ⟨g3, 0, none⟩)]] 51) = wx at *
          have SO := hide (sort_list2 (cOF (m := m) Z (nR Z n)) 34 #[.pointer (some ⟨g13, 0, none⟩)] A1 cap1 B zs wx (by have := OX.out; rw [e1] at this; exact this) SX.out eg (fun hne W hk x y => CM.out hk X13.out KX.out (e4 hne) x y) e2)
          rw [← e1, e3] at SO
          have el : (un (sth Z true) Z.length).length = (oR Z n true).length := by rw [e1, ← e3, List.length_map, List.length_map, srtd_len]
          rw [el] at SO
          rw [el]
          clear el e1 e2 e3 e4 hcp OX X13 eg
          go_wp2_with (go_at_call 27; refine SO.out.mono ?_; rintro e w5 ⟨rfl, ho, hb5⟩; have O5 := hide ho; have B5 := hide hb5; clear ho hb5)
          refine ret_si Try.results17 rfl rfl rfl ⟨⟨_, _, ?_, row_mono O5.out (by rw [HB.out]; exact K2.out.size)⟩, K2.out.trans ((KX.out.trans B5.out).mono (by rw [HB.out]; exact K2.out.size))⟩
          rw [E1.out]
  · have hnR : nR Z n = [] := if_neg hne
    have EO := hide (oR_bad (kb := kb) hnR)
    have dn : (nE Z n != 0) = true := by simpa using hne
    rw [hnR]
    clear hne
    go_wp2
    refine ret_si Try.results17 rfl rfl rfl ⟨⟨none, 0, ?_, by rw [EO.out]; exact ow_nil _ _⟩, ?_⟩
    · rw [EO.out]; rfl
    · rw [hnR] at K2; exact K2.out
end Go.Proofs.Ytiopfeleaifpbaa.Bd
