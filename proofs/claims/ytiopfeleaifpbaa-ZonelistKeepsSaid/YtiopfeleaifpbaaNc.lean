import Derived.Test.YtiopfeleaifpbaaNp
import Derived.Test.YtiopfeleaifpbaaCk
namespace Go.Proofs.Ytiopfeleaifpbaa.Bd
open Go Go.RowKit Go.Sort Go.Lib
set_option linter.unusedVariables false
set_option linter.unusedSimpArgs false
theorem fv4 (x : Fin 4) : 0 ≤ fv x ∧ fv x < 4 := by
  have := x.isLt
  show 0 ≤ ((x.val : Nat) : Int) ∧ ((x.val : Nat) : Int) < 4
  omega
theorem cmpn_F {g : Nat} {n : Int} {w : World} (hn : 0 ≤ n ∧ n < 4) (X : Box w g 3 #[.int .i64 n]) : CmpF 3 28 #[.pointer (some ⟨g, 0, none⟩)] (cF n) (g + 1) w := fun W hb x y =>
  cmpn_any g n (fv x) (fv y) hn (fv4 x) (fv4 y) W ((hb.cell (p := ⟨g, 0, none⟩) (Nat.lt_succ_self g)).trans (X.cell 0))
set_option maxRecDepth 100000 in
set_option maxHeartbeats 8000000 in
theorem nodes_any (AZ : Option Addr) (cp : Nat) (Z : List Zo) (n : Int) (w : World) (hr : Zs w AZ Z) (hz : ZIs w Z) (hn : Z.length ≤ 9223372036854775807) : Calls Try.prog 15 #[.slice AZ Z.length cp, .int .i64 n] w fun e w' => (∃ A c, e = .returned (.tuple #[.slice A (nR Z n).length c, .int .i64 (nE Z n)]) ∧ OwI w.heap.size w' (.slice A (nR Z n).length c) (nR Z n)) ∧ Below w.heap.size w w' := by
  have X := hide (Box.new w 3 #[.int .i64 n])
  have K := hide (bal (brefl w) (.cells #[.int .i64 n] 3))
  obtain ⟨g, hg⟩ : ∃ g, g = w.heap.size := ⟨_, rfl⟩
  have HG := hide hg
  obtain ⟨W0, hW0⟩ : ∃ W0, W0 = (w.alloc (.cells #[.int .i64 n] 3)) := ⟨_, rfl⟩
  rw [← hg, ← hW0] at X
  rw [← hW0] at K
  have CK := hide (check_any AZ cp Z W0 (hr.below K.out) (hz.below K.out) hn)
  have HR := hide hr
  have HZ := hide hz
  have HC := hide (fun (m : Int) (gb : Nat) wr (hb : Below w.heap.size w wr) (hx : Box wr gb 3 #[.int .i64 m]) => cont_any AZ cp Z gb m wr (hr.below hb) (hz.below hb) hn hx)
  clear hr hz
  by_cases hc : chE Z = 0
  · rw [hc] at CK
    have x0 : W0.cell? ⟨g, 0, none⟩ = some (.int .i64 n) := X.out.cell 0
    by_cases h4 : 0 ≤ n ∧ n < 4
    · have E := hide (nE_ok hc h4)
      have dn := decide_eq_true h4
      have IN := hide (fun w => isn_any n w)
      rw [dn] at IN
      have HN := hide h4
      have HCE := hide hc
      obtain ⟨i0, hi0, hz0, hz1, hz2⟩ := info_parts info3
      clear hc h4 dn
      go_enter Try.func15, Try.ntmps15
      go_upto_region 1 with fail
      rw [← hg, ← hW0]
      clear hg hW0
      go_upto_region 4 with (go_at_call 13; refine CK.out.mono ?_; rintro e w1 ⟨rfl, hb⟩; replace X := hide (X.out.below hb); replace K := hide (K.out.trans (hb.mono K.out.size)); clear hb)
      have x1 := X.out.cell 0
      simp at x1
      go_wp2_with (go_at_call 24; refine (IN.out _).mono ?_; rintro e w' ⟨rfl, rfl⟩)
      have O := hide (ow_nil (g + 1) w1)
      have SZ := hide (show g + 1 ≤ w1.heap.size from X.out.lt)
      clear x0 x1 CK IN
      go_loopw [7, 17] (fun a b wr => ∃ k : Nat, k ≤ 4 ∧ b = .int .i64 k ∧ Hid (OwI (g + 1) wr a (un (hs Z) k)) ∧ Hid (Box wr g 3 #[.int .i64 n]) ∧ Hid (g + 1 ≤ wr.heap.size) ∧ Hid (Below w.heap.size w wr)) (fun _ b _ => 4 - (intOf b).toNat)
      case atStart => exact ⟨0, by omega, rfl, O, X, SZ, K⟩
      case round =>
        clear O X SZ K
        obtain ⟨k, hk, rfl, O, X, SZ, K⟩ := hrel
        obtain ⟨A, cap, ev, hcp⟩ := row_form O.out
        subst ev
        by_cases hlt : k < 4
        · have hlt2 : (k : Int) < 4 := by omega
          have hk0 : (0 : Int) ≤ (k : Int) := by omega
          have M := bal (brefl wr) (.cells #[.int .i64 (k : Int)] 3)
          have B8 := hide (Box.new wr 3 #[.int .i64 (k : Int)])
          have OA := hide (row_below O.out M)
          have XA := hide (X.out.below M)
          have SA := hide (show g + 1 ≤ (wr.alloc (.cells #[.int .i64 (k : Int)] 3)).heap.size by rw [alloc_size']; have := SZ.out; omega)
          have KA := hide (btrans K.out M)
          have G8 := hide (show g ≠ wr.heap.size from fun e => by have := SZ.out; omega)
          clear M O X SZ K
          go_upto_region 10 with fail
          obtain ⟨g8, hg8⟩ : ∃ g8, g8 = wr.heap.size := ⟨_, rfl⟩
          rw [← hg8] at B8 G8 ⊢
          clear hg8
          generalize wr.alloc (.cells #[.int .i64 (k : Int)] 3) = wx at *
          have C1 := hide (HC.out _ _ _ KA.out B8.out)
          by_cases h1 : hs Z k = true
          · have EH := hide (un_1 (h := hs Z) h1)
            rw [h1] at C1
            clear h1
            go_upto_region 11 with (go_at_call 25; refine C1.out.mono ?_; rintro e w2 ⟨rfl, hb⟩; have OB := hide (row_below OA.out hb); have XB := hide (XA.out.below hb); have BB := hide (B8.out.below hb); have SB := hide (Nat.le_trans SA.out hb.size); have KB := hide (KA.out.trans (hb.mono KA.out.size)); clear hb)
            clear C1 OA XA B8 SA KA G8
            have b0 : w2.cell? ⟨g8, 0, none⟩ = some (.int .i64 (k : Int)) := BB.out.cell 0
            generalize w2 = wr at *
            have O := OB
            have X := XB
            have SZ := SB
            have K := KB
            clear OB XB BB SB KB
            have M := bal (brefl wr) (.cells #[.int .i64 (k : Int)] 3)
            have OA := hide (row_below O.out M)
            have XA := hide (X.out.below M)
            have NB := hide (cell_one_new wr (.int .i64 (k : Int)) 3)
            have SA := hide (show g + 1 ≤ (wr.alloc (.cells #[.int .i64 (k : Int)] 3)).heap.size by rw [alloc_size']; have := SZ.out; omega)
            have KA := hide (btrans K.out M)
            clear M O K X SZ
            obtain ⟨l, hl⟩ : ∃ l, l = un (hs Z) k := ⟨_, rfl⟩
            obtain ⟨m, hm⟩ : ∃ m, m = l.length := ⟨_, rfl⟩
            have hfl := un_len (hs Z) k
            rw [← hl, ← hm] at OA
            rw [← hl] at EH hfl
            rw [← hm] at hfl
            rw [← hl, ← hm]
            have HLM := hide hm
            clear hl hm hcp
            go_upto_region 12 with (at_builtin; refine wpList_append_own_at _ rfl (.tmp 23) (.tmp 25) 27 rfl (g + 1) 3 i0 _ 1 8 Try.underlying27 hi0 hz0 hz1 hz2 rfl (by omega) (.slice A m cap) m (l.map ic) rfl OA.out ⟨wr.heap.size, 0, none⟩ 1 1 [.int .i64 (k : Int)] rfl rfl NB.out (by intro u hu; rw [List.mem_singleton.1 hu]; rfl) (by simp only [maxLen]; omega) (by omega) SA.out ?_; intro v4 w4 hown4 hg4 _ hat4; obtain ⟨A4, cp4, ev4, _⟩ := row_form hown4; subst ev4)
            have O := hide (show OwI (g + 1) w4 (.slice A4 (m + 1) cp4) (un (hs Z) (k + 1)) by
              have e3 : (un (hs Z) (k + 1)).length = m + 1 := by rw [EH.out, List.length_append, ← HLM.out]; rfl
              unfold OwI
              rw [e3, EH.out, List.map_append]
              exact hown4)
            have B4 := below_grown OA.out hg4 SA.out
            have X := hide (show Box w4 g 3 #[.int .i64 n] from (B4.block g (Nat.lt_succ_self g)).trans XA.out)
            have K := hide (KA.out.trans (B4.mono (show w.heap.size ≤ g + 1 by rw [← HG.out]; omega)))
            have SZ := hide (Nat.le_trans SA.out B4.size)
            have e3 : (un (hs Z) (k + 1)).length = m + 1 := by rw [EH.out, List.length_append, ← HLM.out]; rfl
            rw [← e3] at O ⊢
            clear B4 hown4 hg4 hat4 OA NB SA KA XA e3
            clear b0
            go_wp2
            go_roundw
            case rel => exact ⟨k + 1, by omega, by go_num, O, X, SZ, K⟩
            case measure => simp [intOf]; omega
          · have h1' : hs Z k = false := by simpa using h1
            have EH := un_0 (h := hs Z) h1'
            rw [h1'] at C1
            rw [← EH] at OA ⊢
            clear h1 h1' EH
            go_wp2_with (go_at_call 25; refine C1.out.mono ?_; rintro e w2 ⟨rfl, hb⟩; have OB := hide (row_below OA.out hb); have XB := hide (XA.out.below hb); have BB := hide (B8.out.below hb); have SB := hide (Nat.le_trans SA.out hb.size); have KB := hide (KA.out.trans (hb.mono KA.out.size)); clear hb)
            go_roundw
            case rel => exact ⟨k + 1, by omega, by go_num, OB, XB, SB, KB⟩
            case measure => simp [intOf]; omega
        · obtain rfl : k = 4 := by omega
          obtain ⟨zs, e1, e2, e3⟩ := nodes_sorted HCE.out HN.out
          have SO := hide (sort_list (cF n) 28 #[.pointer (some ⟨g, 0, none⟩)] A cap (g + 1) zs wr (by have := O.out; rw [e1] at this; exact this) SZ.out (Go.Proofs.enters_of Try.func28 (by kernel_rfl) rfl) (cmpn_F HN.out X.out) e2)
          rw [← e1, e3] at SO
          have el : (un (hs Z) 4).length = (nR Z n).length := by rw [e1, E.out.2, ← e3, List.length_map, List.length_map, srtd_len]
          rw [← E.out.2, el] at SO
          rw [el]
          have e0 := E.out.1
          clear el e1 e2 e3 hcp O
          go_wp2_with (go_at_call 27; refine SO.out.mono ?_; rintro e w5 ⟨rfl, ho, hb5⟩; have O5 := hide ho; have B5 := hide hb5; clear ho hb5)
          refine ret_si Try.results15 rfl rfl rfl ⟨⟨_, _, ?_, row_mono O5.out (by rw [← HG.out]; omega)⟩, K.out.trans (B5.out.mono (by rw [← HG.out]; omega))⟩
          rw [e0]
    · have E := hide (nE_two hc h4)
      have dn := decide_eq_false h4
      have IN := hide (fun w => isn_any n w)
      rw [dn] at IN
      clear hc h4 dn
      go_enter Try.func15, Try.ntmps15
      go_upto_region 1 with fail
      rw [← hg, ← hW0]
      clear hg hW0
      go_upto_region 4 with (go_at_call 13; refine CK.out.mono ?_; rintro e w1 ⟨rfl, hb⟩; replace X := hide (X.out.below hb); replace K := hide (K.out.trans (hb.mono K.out.size)); clear hb)
      have x1 := X.out.cell 0
      simp at x1
      go_wp2_with (go_at_call 24; refine (IN.out _).mono ?_; rintro e w' ⟨rfl, rfl⟩)
      refine ret_si Try.results15 rfl rfl rfl ⟨⟨none, 0, ?_, by rw [E.out.2]; exact ow_nil _ _⟩, K.out⟩
      rw [E.out.1, E.out.2]; rfl
  · have E := hide (nE_bad hc (n := n))
    have hne : (chE Z != 0) = true := by simpa using hc
    go_enter Try.func15, Try.ntmps15
    go_upto_region 1 with fail
    rw [← hg, ← hW0]
    clear hg hW0
    go_wp2_with (go_at_call 13; refine CK.out.mono ?_; rintro e w1 ⟨rfl, hb⟩; replace X := hide (X.out.below hb); replace K := hide (K.out.trans (hb.mono K.out.size)); clear hb)
    refine ret_si Try.results15 rfl rfl rfl ⟨⟨none, 0, ?_, by rw [E.out.2]; exact ow_nil _ _⟩, K.out⟩
    rw [E.out.1, E.out.2]; rfl
end Go.Proofs.Ytiopfeleaifpbaa.Bd
