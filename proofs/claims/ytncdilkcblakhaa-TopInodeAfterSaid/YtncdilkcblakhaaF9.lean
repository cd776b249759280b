import Derived.Test.YtncdilkcblakhaaF8
import Derived.Shelf.Abstract
namespace Go.Proofs.Ytncdilkcblakhaa.In
open Go Go.RowKit
set_option linter.unusedVariables false
set_option linter.unusedSimpArgs false
def Enters (g : Nat) : Prop := ∀ args w, (callFunc g args).run Try.prog w = .ok (.enter g args) w
theorem enters41 : Enters 41 := Go.Proofs.enters_of Try.func41 (by kernel_rfl) rfl
theorem good_all {L : Is} (h : ∀ j, j < L.length → decide (¬ (1 ≤ L.getD j 0 ∧ L.getD j 0 ≤ 16)) = false) : goodF L := fun x hx => by
  obtain ⟨j, hj, rfl⟩ := List.mem_iff_getElem.1 hx
  have := h j hj
  rw [List.getD_eq_getElem?_getD, List.getElem?_eq_getElem hj] at this
  simpa using this
set_option maxHeartbeats 1000000 in
theorem idx_any (A : Option Addr) (c : Nat) (L : Is) (w : World) (h : BsI w A L) (hn : L.length ≤ 9223372036854775807) :
    Calls Try.prog 54 #[.slice A L.length c, .func (.func 41) #[] #[]] w fun e w' => (∃ i : Int, e = .returned (.int .i64 i) ∧ decide (0 ≤ i) = decide (¬ goodF L)) ∧ w = w' := by
  have H := hide h
  have eg := enters41
  unfold Enters at eg
  clear h
  go_enter Try.func54, Try.ntmps54
  go_wp2
  go_loop [5, 8] (fun _ i => ∃ k : Nat, k ≤ L.length ∧ i = .int .i64 k ∧ Hid (∀ j, j < k → decide (¬ (1 ≤ L.getD j 0 ∧ L.getD j 0 ≤ 16)) = false)) (fun _ i => L.length - (intOf i).toNat)
  case atStart => exact ⟨0, Nat.zero_le _, rfl, hide (fun j hj => by omega)⟩
  case round =>
    obtain ⟨k, hk, rfl, N⟩ := hrel
    by_cases hlt : k < L.length
    · have hl2 : (k : Int) < (L.length : Int) := by omega
      have hk0 : (0 : Int) ≤ (k : Int) := by omega
      obtain ⟨b, o, rfl, hb, xx⟩ := H.out.cells (brefl _) hlt
      have C := hide (fun w => nocap_any (L.getD k 0) w)
      cases hd : decide (¬ (1 ≤ L.getD k 0 ∧ L.getD k 0 ≤ 16))
      · rw [hd] at C
        have N2 := hide (show ∀ j, j < k + 1 → decide (¬ (1 ≤ L.getD j 0 ∧ L.getD j 0 ≤ 16)) = false from fun j hj => by
          by_cases e : j = k
          · rw [e]; exact hd
          · exact N.out j (by omega))
        clear hd N
        generalize L.getD k 0 = x at xx C
        go_wp2_with fail
        refine (C.out _).mono ?_
        rintro e w' ⟨rfl, rfl⟩
        go_wp2
        go_round
        case rel => exact ⟨k + 1, by omega, by go_num, N2⟩
        case measure => simp [intOf]; omega
      · rw [hd] at C
        have E := hide (show decide ((0 : Int) ≤ (k : Int)) = decide (¬ goodF L) by
          have : ¬ goodF L := fun g => by
            have h1 := goodF_at g hlt
            have h2 := of_decide_eq_true hd
            omega
          rw [decide_eq_true this, decide_eq_true (by omega)])
        clear hd N
        generalize L.getD k 0 = x at xx C
        go_wp2_with fail
        refine (C.out _).mono ?_
        rintro e w' ⟨rfl, rfl⟩
        go_wp2
        go_ret
        exact ⟨⟨_, rfl, E.out⟩, rfl⟩
    · obtain rfl : k = L.length := by omega
      have E := hide (show decide ((0 : Int) ≤ (-1 : Int)) = decide (¬ goodF L) by
        rw [decide_eq_false (show ¬ ¬ goodF L from fun h => h (good_all N.out))]; rfl)
      go_wp2
      go_ret
      exact ⟨⟨_, rfl, by rw [E.out]; simp⟩, rfl⟩
theorem cont_any (A : Option Addr) (c : Nat) (L : Is) (w : World) (h : BsI w A L) (hn : L.length ≤ 9223372036854775807) :
    Calls Try.prog 40 #[.slice A L.length c, .func (.func 41) #[] #[]] w fun e w' => e = .returned (.bool (decide (¬ goodF L))) ∧ w = w' := by
  have H := hide (idx_any A c L w h hn)
  clear h
  go_enter Try.func40, Try.ntmps40
  go_wp2_with fail
  refine H.out.mono ?_
  rintro e w1 ⟨⟨i, rfl, hi⟩, rfl⟩
  have I := hide hi
  clear hi
  go_wp2
  go_ret
  exact ⟨ret_bool (by rw [← I.out]), rfl⟩
/-- what Layout answers -/
def LyR (L : Is) (s : Int) (w : World) (e : Ending) (w' : World) : Prop := ∃ A c, e = .returned (.tuple #[.slice A (lR L s).length c, .int .i64 (lE L s)]) ∧ OwI w.heap.size w' (.slice A (lR L s).length c) (lR L s) ∧ Below w.heap.size w w'
theorem ly_no {L : Is} {s : Int} {w w' : World} (h : lE L s ≠ 0) (hb : Below w.heap.size w w') : LyR L s w (.returned (.tuple #[.slice none 0 0, .int .i64 (lE L s)])) w' := by
  have e : lR L s = [] := if_neg h
  refine ⟨none, 0, ?_, ?_, hb⟩
  · rw [e]; rfl
  · rw [e]; exact OwI.nil _ _
theorem addr_add (b off k : Nat) : (⟨b, off, none⟩ : Addr).add k = ⟨b, off + k, none⟩ := by
  unfold Addr.add
  by_cases h : k = 0 <;> simp [h]
theorem two_new (w : World) (x y : Value) (t : TypeId) : ∀ (j : Nat) (u : Value), ([x, y] : List Value)[j]? = some u → (w.alloc (.cells #[x, y] t)).cell? ((⟨w.heap.size, 0, none⟩ : Addr).add j) = some u := fun j u hu => by
  have X := Box.new w t #[x, y]
  rw [addr_add, Nat.zero_add, X.cell j]
  match j, hu with
  | 0, hu => simpa using hu
  | 1, hu => simpa using hu
  | j + 2, hu => simp at hu
set_option maxRecDepth 100000 in
set_option maxHeartbeats 8000000 in
theorem layout_any (A : Option Addr) (c : Nat) (L : Is) (s : Int) (w : World) (h : BsI w A L) (hn : L.length ≤ 9223372036854775807) : Calls Try.prog 24 #[.slice A L.length c, .int .i64 s] w (LyR L s w) := by
  obtain ⟨i0, hi0, hz0, hz1, hz2⟩ := info_parts info3
  by_cases h4 : 4 < L.length
  · have E0 : lE L s = 9 := if_pos h4
    have EN := hide (fun w' (hb : Below w.heap.size w w') => ly_no (L := L) (s := s) (by rw [E0]; omega) hb)
    rw [E0] at EN
    have hgt : (4 : Int) < L.length := by omega
    clear E0 h
    go_enter Try.func24, Try.ntmps24
    go_wp2
    go_ret2
    exact EN.out _ (brefl _)
  · have hgt : ¬ (4 : Int) < L.length := by omega
    have CT := hide (fun w' (hb : Below w.heap.size w w') => cont_any A c L w' (h.below hb) hn)
    by_cases hg : goodF L
    · rw [decide_eq_false (show ¬ ¬ goodF L from fun h => h hg)] at CT
      by_cases hs1 : s < 0
      · have E0 : lE L s = 2 := by unfold lE; rw [if_neg h4, if_neg (by omega)]
        have EN := hide (fun w' (hb : Below w.heap.size w w') => ly_no (L := L) (s := s) (by rw [E0]; omega) hb)
        rw [E0] at EN
        clear E0 hg h
        go_enter Try.func24, Try.ntmps24
        go_wp2_with fail
        refine (CT.out _ (brefl _)).mono ?_
        rintro e w' ⟨rfl, rfl⟩
        go_wp2
        go_ret2
        exact EN.out _ (brefl _)
      · by_cases hs2 : 64 < s
        · have E0 : lE L s = 2 := by unfold lE; rw [if_neg h4, if_neg (by omega)]
          have EN := hide (fun w' (hb : Below w.heap.size w w') => ly_no (L := L) (s := s) (by rw [E0]; omega) hb)
          rw [E0] at EN
          clear E0 hg h
          go_enter Try.func24, Try.ntmps24
          go_wp2_with fail
          refine (CT.out _ (brefl _)).mono ?_
          rintro e w' ⟨rfl, rfl⟩
          go_wp2
          go_ret2
          exact EN.out _ (brefl _)
        · have E0 : lE L s = 0 := by unfold lE; rw [if_neg h4, if_pos ⟨hg, by omega, by omega⟩]
          have ER : lR L s = lL L s := if_pos E0
          have EN := hide (show LyR L s w = fun e w' => ∃ A c, e = .returned (.tuple #[.slice A (L.length + 2) c, .int .i64 0]) ∧ OwI w.heap.size w' (.slice A (L.length + 2) c) (lL L s) ∧ Below w.heap.size w w' by
            funext e w'; unfold LyR; rw [ER, E0, lL_len])
          rw [EN.out]
          obtain ⟨B, hB⟩ : ∃ B, B = w.heap.size := ⟨_, rfl⟩
          have HB := hide hB
          rw [← hB]
          have K := hide (show Below B w w by rw [hB]; exact brefl _)
          have HR := hide h
          have HG := hide hg
          have FB := hide (fun k (hk : k ≤ L.length) => fi_bd hg k hk)
          rw [← hB] at CT
          clear E0 ER EN hB hg h
          go_enter Try.func24, Try.ntmps24
          go_wp2_with fail
          refine (CT.out _ (by rw [HB.out]; exact brefl _)).mono ?_
          rintro e w' ⟨rfl, rfl⟩
          clear CT
          go_wp2
          go_loopw [6, 7, 25] (fun a x i wr => ∃ k : Nat, k ≤ L.length ∧ i = .int .i64 k ∧ x = .int .i64 (fi L k) ∧ Hid (OwI B wr a (fl L k)) ∧ Hid (Below B w wr)) (fun _ _ i _ => L.length - (intOf i).toNat)
          case atStart => exact ⟨0, Nat.zero_le _, rfl, rfl, hide (OwI.nil _ _), K⟩
          case round =>
            clear K
            obtain ⟨k, hk, rfl, rfl, O, K⟩ := hrel
            obtain ⟨A1, cap1, ev, hcp⟩ := row_form O.out
            subst ev
            clear hcp
            rw [fl_len] at O ⊢
            have fb := FB.out k hk
            have SA0 : B ≤ wr.heap.size := by have := K.out.size; rw [HB.out]; exact (HB.out ▸ this)
            by_cases hlt : k < L.length
            · have hl2 : (k : Int) < (L.length : Int) := by omega
              have hk0 : (0 : Int) ≤ (k : Int) := by omega
              obtain ⟨b, o, rfl, hb, xx⟩ := (HR.out.below (show Below w.heap.size w wr by rw [← HB.out]; exact K.out)).cells (brefl _) hlt
              have gb := goodF_at HG.out hlt
              have EF := hide (fl_succ L k)
              have EX := hide (show fi L (k + 1) = fi L k + (1 + L.getD k 0) from rfl)
              generalize L.getD k 0 = z at *
              generalize fi L k = x at *
              have wz : IntKind.i64.wrap (1 + z) = 1 + z := by rw [IntKind.wrap_i64]; omega
              have wx : IntKind.i64.wrap (x + (1 + z)) = x + (1 + z) := by rw [IntKind.wrap_i64]; omega
              have M := bal (brefl wr) (.cells #[.int .i64 x] 3)
              have OA := hide (show (wr.alloc (.cells #[.int .i64 x] 3)).ownsRow B 3 1 (.slice A1 k cap1) k ((fl L k).map ic) by
                have := row_below O.out M
                rwa [fl_len] at this)
              have NB := hide (cell_one_new wr (.int .i64 x) 3)
              have SA := hide (show B ≤ (wr.alloc (.cells #[.int .i64 x] 3)).heap.size by rw [alloc_size']; omega)
              have KA := hide (K.out.trans (M.mono SA0))
              clear M O K SA0 fb
              go_upto_region 11 with (at_builtin; refine wpList_append_own_at _ rfl (.tmp 29) (.tmp 31) 38 rfl B 3 i0 _ 1 8 Try.underlying38 hi0 hz0 hz1 hz2 rfl (by omega) (.slice A1 k cap1) k ((fl L k).map ic) rfl OA.out ⟨wr.heap.size, 0, none⟩ 1 1 [.int .i64 x] rfl rfl NB.out (by intro u hu; rw [List.mem_singleton.1 hu]; rfl) (by simp only [maxLen]; omega) (by omega) SA.out ?_; intro v4 w4 hown4 hg4 _ hat4; obtain ⟨A4, cp4, ev4, _⟩ := row_form hown4; subst ev4)
              have O := hide (show OwI B w4 (.slice A4 (k + 1) cp4) (fl L (k + 1)) by
                unfold OwI
                rw [fl_len, EF.out, List.map_append]
                exact hown4)
              have B4 := below_grown OA.out hg4 SA.out
              have K := hide (KA.out.trans B4)
              clear B4 hown4 hg4 hat4 OA NB SA KA EF
              go_wp2
              go_roundw
              case rel => first | exact ⟨k + 1, by omega, by go_num, by rw [EX.out], O, K⟩ | ((repeat apply Exists.intro); exact ⟨⟨k + 1, by omega, by go_num, by rw [EX.out], O, K⟩, rfl⟩)
              case measure => simp [intOf]; omega
            · obtain rfl : k = L.length := by omega
              have EF := hide (show lL L s = fl L L.length ++ [fi L L.length, fi L L.length + s] from rfl)
              generalize fi L L.length = x at *
              have wx : IntKind.i64.wrap (x + s) = x + s := by rw [IntKind.wrap_i64]; omega
              have M := bal (brefl wr) (.cells #[.int .i64 x, .int .i64 (x + s)] 3)
              have OA := hide (show (wr.alloc (.cells #[.int .i64 x, .int .i64 (x + s)] 3)).ownsRow B 3 1 (.slice A1 L.length cap1) L.length ((fl L L.length).map ic) by
                have := row_below O.out M
                rwa [fl_len] at this)
              have NB := hide (two_new wr (.int .i64 x) (.int .i64 (x + s)) 3)
              have SA := hide (show B ≤ (wr.alloc (.cells #[.int .i64 x, .int .i64 (x + s)] 3)).heap.size by rw [alloc_size']; omega)
              have KA := hide (K.out.trans (M.mono SA0))
              clear M O K SA0 fb
              go_wp2_with (at_builtin; refine wpList_append_own_at _ rfl (.tmp 38) (.tmp 43) 38 rfl B 3 i0 _ 1 8 Try.underlying38 hi0 hz0 hz1 hz2 rfl (by omega) (.slice A1 L.length cap1) L.length ((fl L L.length).map ic) rfl OA.out ⟨wr.heap.size, 0, none⟩ 2 2 [.int .i64 x, .int .i64 (x + s)] rfl rfl NB.out (by intro u hu; simp at hu; rcases hu with rfl | rfl <;> rfl) (by simp only [maxLen]; omega) (by omega) SA.out ?_; intro v4 w4 hown4 hg4 _ hat4; obtain ⟨A4, cp4, ev4, _⟩ := row_form hown4; subst ev4)
              have O := hide (show OwI B w4 (.slice A4 (L.length + 2) cp4) (lL L s) by
                unfold OwI
                rw [lL_len, EF.out, List.map_append]
                exact hown4)
              have B4 := below_grown OA.out hg4 SA.out
              have K := hide (KA.out.trans B4)
              clear B4 hown4 hg4 hat4 OA NB SA KA EF
              go_ret2
              exact ⟨_, _, rfl, O.out, K.out⟩
    · rw [decide_eq_true hg] at CT
      have E0 : lE L s = 2 := by unfold lE; rw [if_neg h4, if_neg (fun h => hg h.1)]
      have EN := hide (fun w' (hb : Below w.heap.size w w') => ly_no (L := L) (s := s) (by rw [E0]; omega) hb)
      rw [E0] at EN
      clear E0 hg h
      go_enter Try.func24, Try.ntmps24
      go_wp2_with fail
      refine (CT.out _ (brefl _)).mono ?_
      rintro e w' ⟨rfl, rfl⟩
      go_wp2
      go_ret2
      exact EN.out _ (brefl _)
end Go.Proofs.Ytncdilkcblakhaa.In
