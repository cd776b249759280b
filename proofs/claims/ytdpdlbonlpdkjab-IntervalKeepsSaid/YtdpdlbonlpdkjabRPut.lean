import Derived.Test.YtdpdlbonlpdkjabIvs
namespace Go.Proofs.Ytdpdlbonlpdkjab.Iv
open Go Go.RowKit
set_option linter.unusedVariables false
def insL : List Int → Int → List Int
  | [], n => [n]
  | x :: l, n => if n ≤ x then (if n < x then n :: x :: l else x :: l) else x :: insL l n
theorem insL_cons (x : Int) (l : List Int) (n : Int) : insL (x :: l) n = if n ≤ x then (if n < x then n :: x :: l else x :: l) else x :: insL l n := rfl
theorem insL_len : ∀ (l : List Int) (n : Int), (insL l n).length ≤ l.length + 1
  | [], n => by simp [insL]
  | x :: l, n => by
    have := insL_len l n
    unfold insL
    split
    · split <;> simp
    · simp; omega
theorem insL_mem : ∀ (l : List Int) (n x : Int), x ∈ insL l n ↔ x = n ∨ x ∈ l
  | [], n, x => by simp [insL]
  | y :: l, n, x => by
    have ih := insL_mem l n x
    unfold insL
    split
    · split
      · simp
      · have : n = y := by omega
        subst this; simp
    · simp only [List.mem_cons, ih]
      constructor
      · rintro (h | h | h)
        · exact .inr (.inl h)
        · exact .inl h
        · exact .inr (.inr h)
      · rintro (h | h | h)
        · exact .inr (.inl h)
        · exact .inl h
        · exact .inr (.inr h)
theorem insL_asc : ∀ {l : List Int} {n : Int}, asc l → asc (insL l n)
  | [], n, _ => by simp [insL, asc]
  | y :: l, n, h => by
    have h1 := List.pairwise_cons.1 h
    unfold insL
    split
    · split
      · rename_i _ hlt
        exact List.pairwise_cons.2 ⟨fun z hz => by
          rcases List.mem_cons.1 hz with rfl | hz
          · exact hlt
          · exact Int.lt_trans hlt (h1.1 z hz), h⟩
      · exact h
    · rename_i hlt
      refine List.pairwise_cons.2 ⟨fun z hz => ?_, insL_asc h1.2⟩
      rcases (insL_mem l n z).1 hz with rfl | hz
      · omega
      · exact h1.1 z hz
theorem drop_int {l : List Int} {k : Nat} (h : k < l.length) : l.drop k = l.getD k 0 :: l.drop (k + 1) := by
  rw [List.drop_eq_getElem_cons h, List.getD_eq_getElem?_getD, List.getElem?_eq_getElem h]; rfl
/-- A list of ints of the call's own. -/
def MineL (base : Nat) (w : World) (A : Option Addr) (l : List Int) : Prop := l ≠ [] → ∃ (g : Nat) (cur : Array Value), A = some ⟨g, 0, none⟩ ∧ base ≤ g ∧ w.heap[g]? = some (.cells cur 3 (0, 0)) ∧ cur.toList.take l.length = l.map ic
theorem MineL.ints {base : Nat} {w : World} {A : Option Addr} {l : List Int} (h : MineL base w A l) : Ints w A l := fun hn => by
  obtain ⟨g, cur, rfl, hg, hh, ht⟩ := h hn
  refine ⟨g, 0, rfl, ?_, fun k hk => ?_⟩
  · rcases Nat.lt_or_ge g w.heap.size with h1 | h1
    · exact h1
    · rw [Array.getElem?_eq_none h1] at hh; cases hh
  · have e : (cur.toList.take l.length)[k]? = (l.map ic)[k]? := by rw [ht]
    rw [List.getElem?_take_of_lt hk, List.getElem?_map, List.getElem?_eq_getElem hk] at e
    have e2 : cur[k]? = some (ic (l[k]'hk)) := by simpa using e
    simp only [World.cell?, hh, Nat.zero_add, e2]
    simp [ic, List.getD_eq_getElem?_getD, List.getElem?_eq_getElem hk]
theorem MineL.of_row {base n : Nat} {w : World} {A : Option Addr} {l : List Int} {c : Nat} (hn : n = l.length) (h : w.ownsRow base 3 1 (.slice A n c) n (l.map ic)) : MineL base w A l := fun hne => by
  obtain ⟨hl, h | ⟨g, cap, cur, e, hg, hh, _, _, _, ht⟩⟩ := h
  · exfalso
    exact hne (List.eq_nil_of_length_eq_zero (by rw [← hn]; exact h.2))
  · have hA : A = some ⟨g, 0, none⟩ := by injection e
    exact ⟨g, cur, hA, hg, hh, by rw [← ht, hn, Nat.mul_one]⟩
theorem Ints.below {w w' : World} {A : Option Addr} {l : List Int} (h : Ints w A l) (hb : Below w.heap.size w w') : Ints w' A l := fun hn => by
  obtain ⟨b, off, e, hlt, hc⟩ := h hn
  exact ⟨b, off, e, Nat.lt_of_lt_of_le hlt hb.size, fun k hk => (hb.cell (p := ⟨b, off + k, none⟩) hlt).trans (hc k hk)⟩
theorem info3 : (Try.prog.info? 3).map (fun i => (i.zero, i.size, i.bytes)) = some (some (.int .i64 0), 1, 8) := by kernel_rfl
theorem row_form3 {w : World} {base n : Nat} {v : Value} {xs : List Value} (h : w.ownsRow base 3 1 v n xs) : ∃ A c, v = .slice A n c := by
  obtain ⟨_, ⟨rfl, rfl⟩ | ⟨g, cap, cur, rfl, _⟩⟩ := h
  · exact ⟨none, 0, rfl⟩
  · exact ⟨_, _, rfl⟩
theorem row_below3 {w w' : World} {base n B : Nat} {v : Value} {xs : List Value} (h : w.ownsRow base 3 1 v n xs) (hg : w.grownBy w' v.ownBlock) (hB : B ≤ base) (hs : B ≤ w.heap.size) : Below B w w' := by
  refine ⟨hg.os, hg.tape, hg.output, hg.size, fun k hk => hg.block k (by omega) ?_⟩
  obtain ⟨_, ⟨rfl, rfl⟩ | ⟨g, cap, cur, rfl, hgb, _⟩⟩ := h
  · exact Option.some_ne_none _
  · intro e
    have : k = g := by simpa [Value.ownBlock] using e
    omega
set_option maxHeartbeats 4000000 in
theorem put_any (A : Option Addr) (l : List Int) (c : Nat) (n : Int) (w : World) (hr : Ints w A l) (hn : l.length ≤ 3000) :
    Calls Try.prog 56 #[.slice A l.length c, .int .i64 n] w fun e w' => ∃ A' c', e = .returned (.slice A' (insL l n).length c') ∧ MineL w.heap.size w' A' (insL l n) ∧ Below w.heap.size w w' := by
  obtain ⟨i0, hi0, hz0, hz1, hz2⟩ := info_parts info3
  have HR := hide hr
  clear hr
  go_enter Try.func56, Try.ntmps56
  go_wp2
  go_loopw [5, 6, 7] (fun v b i wr => ∃ (k : Nat) (dn : Bool) (out : List Int), k ≤ l.length ∧ i = .int .i64 k ∧ b = .bool dn ∧ insL l n = out ++ (if dn = true then l.drop k else insL (l.drop k) n) ∧ out.length ≤ 2 * k ∧ wr.ownsRow w.heap.size 3 1 v out.length (out.map ic) ∧ Below w.heap.size w wr) (fun _ _ i _ => l.length - (intOf i).toNat)
  case atStart => exact ⟨0, false, [], Nat.zero_le _, rfl, rfl, by simp, by simp, ⟨rfl, .inl ⟨rfl, rfl⟩⟩, brefl _⟩
  case round =>
    obtain ⟨k, dn, out, hk, rfl, rfl, heq, hol, hown, hb⟩ := hrel
    obtain ⟨A1, n1, rfl⟩ := row_form3 hown
    have HOWN := hide hown
    have HB := hide hb
    by_cases hlt : k < l.length
    · obtain ⟨b, off, rfl, hbl, hcs⟩ := HR.out (by rintro rfl; simp at hlt)
      have c0 : wr.cell? ⟨b, off + k, none⟩ = some (.int .i64 (l.getD k 0)) := (hb.cell (p := ⟨b, off + k, none⟩) hbl).trans (hcs k hlt)
      have hbl2 : b < wr.heap.size := Nat.lt_of_lt_of_le hbl hb.size
      have HC := hide (fun (W : World) (hW : Below w.heap.size w W) => (show W.cell? ⟨b, off + k, none⟩ = some (.int .i64 (l.getD k 0)) from (hW.cell (p := ⟨b, off + k, none⟩) hbl).trans (hcs k hlt)))
      rw [drop_int hlt] at heq
      generalize l.getD k 0 = x at *
      clear hcs hown hb
      cases dn
      · simp only [Bool.false_eq_true, if_false] at heq
        rw [insL_cons] at heq
        by_cases t1 : n ≤ x
        · rw [if_pos t1] at heq
          by_cases t2 : n < x
          · rw [if_pos t2] at heq
            have HE := hide heq
            clear heq
            go_wp2_with (first | (at_builtin; refine wpList_append_own _ rfl (.tmp 30) (.tmp 32) 59 rfl w.heap.size 3 i0 _ 1 8 Try.underlying59 hi0 hz0 hz1 hz2 rfl (by omega) (.slice A1 out.length n1) (out.length) (out.map ic) rfl (HOWN.out.alloc _) ⟨wr.heap.size, 0, none⟩ 1 1 [ic n] rfl rfl (cell_one_new _ _ _) (by intro u hu; simp at hu; subst hu; rfl) (by simp only [maxLen]; omega) (by omega) (by have := HB.out.size; simp; omega) ?_; intro v1 w1 hown1 hg1 _; obtain ⟨A2, n2, rfl⟩ := row_form3 hown1; have HB1 := hide (show Below w.heap.size w w1 from (bal HB.out _).trans (row_below3 (HOWN.out.alloc _) hg1 (Nat.le_refl _) (by have := HB.out.size; simp; omega))); have HO1 := hide hown1; have c1 : w1.cell? ⟨b, off + k, none⟩ = some (.int .i64 x) := HC.out w1 HB1.out; have hbl3 : b < w1.heap.size := Nat.lt_of_lt_of_le hbl HB1.out.size; clear hown1 hg1) | (at_builtin; refine wpList_append_own _ rfl (.tmp 34) (.tmp 39) 59 rfl w.heap.size 3 i0 _ 1 8 Try.underlying59 hi0 hz0 hz1 hz2 rfl (by omega) (.slice A2 (out.length + 1) n2) (out.length + 1) (out.map ic ++ [ic n]) rfl (HO1.out.alloc _) ⟨w1.heap.size, 0, none⟩ 1 1 [ic x] rfl rfl (cell_one_new _ _ _) (by intro u hu; simp at hu; subst hu; rfl) (by simp only [maxLen]; omega) (by omega) (by have := HB1.out.size; simp; omega) ?_; intro v2 w2 hown2 hg2 _; obtain ⟨A3, n3, rfl⟩ := row_form3 hown2; have HO2 := hide hown2; have HG2 := hide hg2; clear hown2 hg2))
            go_wp2
            go_roundw
            case rel => exact ⟨k + 1, true, out ++ [n, x], by omega, by go_num, rfl, by rw [HE.out]; simp, by simp; omega, by simpa using HO2.out, (bal HB1.out _).trans (row_below3 (HO1.out.alloc _) HG2.out (Nat.le_refl _) (by have := HB1.out.size; simp; omega))⟩
            case measure => simp [intOf]; omega
          · rw [if_neg t2] at heq
            have HE := hide heq
            clear heq
            go_wp2_with (at_builtin; refine wpList_append_own _ rfl (.tmp 34) (.tmp 39) 59 rfl w.heap.size 3 i0 _ 1 8 Try.underlying59 hi0 hz0 hz1 hz2 rfl (by omega) (.slice A1 out.length n1) (out.length) (out.map ic) rfl (HOWN.out.alloc _) ⟨wr.heap.size, 0, none⟩ 1 1 [ic x] rfl rfl (cell_one_new _ _ _) (by intro u hu; simp at hu; subst hu; rfl) (by simp only [maxLen]; omega) (by omega) (by have := HB.out.size; simp; omega) ?_; intro v1 w1 hown1 hg1 _; obtain ⟨A2, n2, rfl⟩ := row_form3 hown1; have HO1 := hide hown1; have HG1 := hide hg1; clear hown1 hg1)
            go_wp2
            go_roundw
            case rel => exact ⟨k + 1, true, out ++ [x], by omega, by go_num, rfl, by rw [HE.out]; simp, by simp; omega, by rw [List.length_append, List.map_append]; exact HO1.out, (bal HB.out _).trans (row_below3 (HOWN.out.alloc _) HG1.out (Nat.le_refl _) (by have := HB.out.size; simp; omega))⟩
            case measure => simp [intOf]; omega
        · rw [if_neg t1] at heq
          have HE := hide heq
          clear heq
          go_wp2_with (at_builtin; refine wpList_append_own _ rfl (.tmp 34) (.tmp 39) 59 rfl w.heap.size 3 i0 _ 1 8 Try.underlying59 hi0 hz0 hz1 hz2 rfl (by omega) (.slice A1 out.length n1) out.length (out.map ic) rfl (HOWN.out.alloc _) ⟨wr.heap.size, 0, none⟩ 1 1 [ic x] rfl rfl (cell_one_new _ _ _) (by intro u hu; simp at hu; subst hu; rfl) (by simp only [maxLen]; omega) (by omega) (by have := HB.out.size; simp; omega) ?_; intro v1 w1 hown1 hg1 _; obtain ⟨A2, n2, rfl⟩ := row_form3 hown1; have HO1 := hide hown1; have HG1 := hide hg1; clear hown1 hg1)
          go_wp2
          go_roundw
          case rel => exact ⟨k + 1, false, out ++ [x], by omega, by go_num, rfl, by rw [HE.out]; simp, by simp; omega, by rw [List.length_append, List.map_append]; exact HO1.out, (bal HB.out _).trans (row_below3 (HOWN.out.alloc _) HG1.out (Nat.le_refl _) (by have := HB.out.size; simp; omega))⟩
          case measure => simp [intOf]; omega
      · simp only [if_true] at heq
        have HE := hide heq
        clear heq
        go_wp2_with (at_builtin; refine wpList_append_own _ rfl (.tmp 34) (.tmp 39) 59 rfl w.heap.size 3 i0 _ 1 8 Try.underlying59 hi0 hz0 hz1 hz2 rfl (by omega) (.slice A1 out.length n1) (out.length) (out.map ic) rfl (HOWN.out.alloc _) ⟨wr.heap.size, 0, none⟩ 1 1 [ic x] rfl rfl (cell_one_new _ _ _) (by intro u hu; simp at hu; subst hu; rfl) (by simp only [maxLen]; omega) (by omega) (by have := HB.out.size; simp; omega) ?_; intro v1 w1 hown1 hg1 _; obtain ⟨A2, n2, rfl⟩ := row_form3 hown1; have HO1 := hide hown1; have HG1 := hide hg1; clear hown1 hg1)
        go_wp2
        go_roundw
        case rel => exact ⟨k + 1, true, out ++ [x], by omega, by go_num, rfl, by rw [HE.out]; simp, by simp; omega, by rw [List.length_append, List.map_append]; exact HO1.out, (bal HB.out _).trans (row_below3 (HOWN.out.alloc _) HG1.out (Nat.le_refl _) (by have := HB.out.size; simp; omega))⟩
        case measure => simp [intOf]; omega
    · have e1 : k = l.length := by omega
      rw [e1, List.drop_length] at heq
      clear hb
      cases dn
      · simp only [Bool.false_eq_true, if_false, insL] at heq
        have HE := hide heq
        clear heq hown
        go_wp2_with (at_builtin; refine wpList_append_own _ rfl (.tmp 43) (.tmp 45) 59 rfl w.heap.size 3 i0 _ 1 8 Try.underlying59 hi0 hz0 hz1 hz2 rfl (by omega) (.slice A1 out.length n1) (out.length) (out.map ic) rfl (HOWN.out.alloc _) ⟨wr.heap.size, 0, none⟩ 1 1 [ic n] rfl rfl (cell_one_new _ _ _) (by intro u hu; simp at hu; subst hu; rfl) (by simp only [maxLen]; omega) (by omega) (by have := HB.out.size; simp; omega) ?_; intro v1 w1 hown1 hg1 _; obtain ⟨A2, n2, rfl⟩ := row_form3 hown1; have HO1 := hide hown1; have HG1 := hide hg1; clear hown1 hg1)
        go_wp2
        go_ret
        exact ⟨A2, n2, by rw [HE.out, List.length_append]; first | done | rfl, MineL.of_row (by rw [HE.out, List.length_append]; first | done | rfl) (by rw [HE.out, List.map_append]; exact HO1.out), (bal HB.out _).trans (row_below3 (HOWN.out.alloc _) HG1.out (Nat.le_refl _) (by have := HB.out.size; simp; omega))⟩
      · simp only [if_true, List.append_nil] at heq
        have HE := hide heq
        clear heq hown
        go_wp2
        go_ret
        exact ⟨A1, n1, by rw [HE.out]; rfl, MineL.of_row (by rw [HE.out]) (by rw [HE.out]; exact HOWN.out), HB.out⟩
end Go.Proofs.Ytdpdlbonlpdkjab.Iv
