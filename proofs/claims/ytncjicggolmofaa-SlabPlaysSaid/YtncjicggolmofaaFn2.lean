import Derived.Test.YtncjicggolmofaaSm
namespace Go.Proofs.Ytncjicggolmofaa.Sb
open Go Go.RowKit
set_option linter.unusedVariables false
set_option linter.unusedSimpArgs false
theorem ret_s1 {fn : Func} {a : Act} {W : World} {g k : Nat} {o : Int} {v : Value} {Q : Ending → World → Prop} (hr : fn.results = #[.cell k 24]) (h2 : a.tmps.getD k undef = .pointer (some ⟨g, 0, none⟩)) (hd : a.defers = [])
    (hE : Box W g 24 #[.int .i64 o, v]) (hq : Q (.returned (.agg #[.int .i64 o, v])) W) : bodyPost Try.prog fn Q .ret a W := by
  have c0 := hE.cell 0
  have c1 := hE.cell 1
  simp at c0 c1
  simp only [Array.getD_eq_getD_getElem?] at h2
  exact bodyPost_ret (v := .agg #[.int .i64 o, v]) (by simp [results, hr, h2, go_sem, c0, c1]; try rfl) hd hq
theorem ret_s2 {fn : Func} {a : Act} {W : World} {g k m : Nat} {o er : Int} {v : Value} {Q : Ending → World → Prop} (hr : fn.results = #[.cell k 24, .tmp m]) (h2 : a.tmps.getD k undef = .pointer (some ⟨g, 0, none⟩)) (h3 : a.tmps.getD m undef = .int .i64 er) (hd : a.defers = [])
    (hE : Box W g 24 #[.int .i64 o, v]) (hq : Q (.returned (.tuple #[.agg #[.int .i64 o, v], .int .i64 er])) W) : bodyPost Try.prog fn Q .ret a W := by
  have c0 := hE.cell 0
  have c1 := hE.cell 1
  simp at c0 c1
  simp only [Array.getD_eq_getD_getElem?] at h2 h3
  exact bodyPost_ret (v := .tuple #[.agg #[.int .i64 o, v], .int .i64 er]) (by simp [results, hr, h2, h3, go_sem, c0, c1]; try rfl) hd hq
theorem ret_s3 {fn : Func} {a : Act} {W : World} {g k m m2 : Nat} {o er er2 : Int} {v : Value} {Q : Ending → World → Prop} (hr : fn.results = #[.cell k 24, .tmp m, .tmp m2]) (h2 : a.tmps.getD k undef = .pointer (some ⟨g, 0, none⟩)) (h3 : a.tmps.getD m undef = .int .i64 er) (h4 : a.tmps.getD m2 undef = .int .i64 er2) (hd : a.defers = [])
    (hE : Box W g 24 #[.int .i64 o, v]) (hq : Q (.returned (.tuple #[.agg #[.int .i64 o, v], .int .i64 er, .int .i64 er2])) W) : bodyPost Try.prog fn Q .ret a W := by
  have c0 := hE.cell 0
  have c1 := hE.cell 1
  simp at c0 c1
  simp only [Array.getD_eq_getD_getElem?] at h2 h3 h4
  exact bodyPost_ret (v := .tuple #[.agg #[.int .i64 o, v], .int .i64 er, .int .i64 er2]) (by simp [results, hr, h2, h3, h4, go_sem, c0, c1]; try rfl) hd hq
theorem ret_s4 {fn : Func} {a : Act} {W : World} {g k m m2 n c : Nat} {A : Option Addr} {o er2 : Int} {v : Value} {Q : Ending → World → Prop} (hr : fn.results = #[.cell k 24, .tmp m, .tmp m2]) (h2 : a.tmps.getD k undef = .pointer (some ⟨g, 0, none⟩)) (h3 : a.tmps.getD m undef = .slice A n c) (h4 : a.tmps.getD m2 undef = .int .i64 er2) (hd : a.defers = [])
    (hE : Box W g 24 #[.int .i64 o, v]) (hq : Q (.returned (.tuple #[.agg #[.int .i64 o, v], .slice A n c, .int .i64 er2])) W) : bodyPost Try.prog fn Q .ret a W := by
  have c0 := hE.cell 0
  have c1 := hE.cell 1
  simp at c0 c1
  simp only [Array.getD_eq_getD_getElem?] at h2 h3 h4
  exact bodyPost_ret (v := .tuple #[.agg #[.int .i64 o, v], .slice A n c, .int .i64 er2]) (by simp [results, hr, h2, h3, h4, go_sem, c0, c1]; try rfl) hd hq
theorem getD_get {l : Is} {k : Nat} (h : k < l.length) : l.getD k 0 = l[k] := by rw [List.getD_eq_getElem?_getD, List.getElem?_eq_getElem h]; rfl
theorem take_next {l : Is} {i : Nat} (h : i < l.length) : l.take (i + 1) = l.take i ++ [l.getD i 0] := by rw [getD_get h, List.take_succ_eq_append_getElem h]
theorem eq_next {a b : Is} {k : Nat} (ha : k < a.length) (hb : k < b.length) (h : a.take k = b.take k) (he : a.getD k 0 = b.getD k 0) : a.take (k + 1) = b.take (k + 1) := by rw [take_next ha, take_next hb, h, he]
set_option maxHeartbeats 4000000 in
theorem equal_any (A B : Option Addr) (c d : Nat) (a b : Is) (w : World) (h1 : Bi w A a) (h2 : Bi w B b) (hn : a.length ≤ 9223372036854775807) : Calls Try.prog 23 #[.slice A a.length c, .slice B b.length d] w fun e w' => e = .returned (.bool (decide (a = b))) ∧ Below w.heap.size w w' := by
  have H1 := hide h1
  have H2 := hide h2
  have K0 := hide (brefl w)
  clear h1 h2
  by_cases hl : a.length = b.length
  · have HL := hide hl
    rw [← hl]
    have hne : ((a.length : Int) != (a.length : Int)) = false := by simp
    clear hl
    go_enter Try.func23, Try.ntmps23
    go_wp2
    go_loopw [5] (fun i wr => ∃ k : Nat, k ≤ a.length ∧ i = .int .i64 k ∧ Hid (a.take k = b.take k) ∧ Hid (Below w.heap.size w wr)) (fun i _ => a.length - (intOf i).toNat)
    case atStart => exact ⟨0, Nat.zero_le _, rfl, hide rfl, K0⟩
    case round =>
      clear K0
      obtain ⟨k, hk, rfl, N, K⟩ := hrel
      by_cases hlt : k < a.length
      · have hl2 : (k : Int) < (a.length : Int) := by omega
        have hk0 : (0 : Int) ≤ (k : Int) := by omega
        obtain ⟨b1, o1, rfl, _, x1⟩ := H1.out.cells K.out hlt
        obtain ⟨b2, o2, rfl, _, x2⟩ := H2.out.cells K.out (show k < b.length by have := HL.out; omega)
        by_cases he : a.getD k 0 = b.getD k 0
        · have N2 := hide (eq_next hlt (by have := HL.out; omega) N.out he)
          rw [← he] at x2
          clear he N
          generalize a.getD k 0 = x at *
          go_wp2
          go_quiet (fail)
          go_wp2
          go_roundw
          case rel => exact ⟨k + 1, by omega, by go_num, N2, hide (below_drewN K.out _)⟩
          case measure => simp [intOf]; omega
        · have E := hide (show decide (a = b) = false from decide_eq_false (fun e => he (by rw [e])))
          have dn : (a.getD k 0 != b.getD k 0) = true := by simpa using he
          clear he N
          generalize a.getD k 0 = x at *
          generalize b.getD k 0 = y at *
          go_wp2
          go_quiet (fail)
          go_wp2
          go_ret
          exact ⟨ret_bool E.out.symm, below_drewN K.out _⟩
      · obtain rfl : k = a.length := by omega
        have E := hide (show decide (a = b) = true from decide_eq_true (by have e := N.out; rwa [List.take_length, HL.out, List.take_length] at e))
        go_wp2
        go_ret
        exact ⟨ret_bool E.out.symm, K.out⟩
  · have E := hide (show decide (a = b) = false from decide_eq_false (fun e => hl (by rw [e])))
    have hne : ((a.length : Int) != (b.length : Int)) = true := by simp only [bne_iff_ne, ne_eq]; omega
    clear hl
    go_enter Try.func23, Try.ntmps23
    go_wp2
    go_ret
    exact ⟨ret_bool E.out.symm, K0.out⟩
theorem equal_refl (A B : Option Addr) (c d : Nat) (a : Is) (w : World) (h1 : Bi w A a) (h2 : Bi w B a) (hn : a.length ≤ 9223372036854775807) : Calls Try.prog 23 #[.slice A a.length c, .slice B a.length d] w fun e w' => e = .returned (.bool true) ∧ Below w.heap.size w w' := by
  have h := equal_any A B c d a a w h1 h2 hn
  rwa [show decide (a = a) = true from decide_eq_true rfl] at h
set_option maxHeartbeats 2000000 in
theorem has_any (A : Option Addr) (c : Nat) (l : Is) (x : Int) (w : World) (h : Bi w A l) (hn : l.length ≤ 9223372036854775807) : Calls Try.prog 31 #[.slice A l.length c, .int .i64 x] w fun e w' => e = .returned (.bool (decide (x ∈ l))) ∧ w = w' := by
  have H := hide h
  clear h
  go_enter Try.func31, Try.ntmps31
  go_wp2
  go_loopw [5] (fun i wr => ∃ k : Nat, k ≤ l.length ∧ i = .int .i64 k ∧ w = wr ∧ Hid (∀ j, j < k → l.getD j 0 ≠ x)) (fun i _ => l.length - (intOf i).toNat)
  case atStart => exact ⟨0, Nat.zero_le _, rfl, rfl, hide (fun j hj => by omega)⟩
  case round =>
    obtain ⟨k, hk, rfl, rfl, N⟩ := hrel
    by_cases hlt : k < l.length
    · have hl2 : (k : Int) < (l.length : Int) := by omega
      have hk0 : (0 : Int) ≤ (k : Int) := by omega
      obtain ⟨b, o, rfl, hb, xx⟩ := H.out.cells (brefl _) hlt
      by_cases he : l.getD k 0 = x
      · have E := hide (show decide (x ∈ l) = true from decide_eq_true (by rw [← he, getD_get hlt]; exact List.getElem_mem hlt))
        rw [he] at xx
        clear he
        go_wp2
        go_ret
        exact ⟨ret_bool E.out.symm, rfl⟩
      · have N2 := hide (show ∀ j, j < k + 1 → l.getD j 0 ≠ x from fun j hj => by
          by_cases e : j = k
          · rw [e]; exact he
          · exact N.out j (by omega))
        have de : (l.getD k 0 == x) = false := by simpa using he
        clear he N
        generalize l.getD k 0 = y at *
        go_wp2
        go_roundw
        case rel => exact ⟨k + 1, by omega, by go_num, trivial, N2⟩
        case measure => simp [intOf]; omega
    · obtain rfl : k = l.length := by omega
      have E := hide (show decide (x ∈ l) = false from decide_eq_false fun g => by
        obtain ⟨j, hj, e⟩ := List.mem_iff_getElem.1 g
        exact N.out j hj (by rw [getD_get hj]; exact e))
      go_wp2
      go_ret
      exact ⟨ret_bool E.out.symm, rfl⟩
/-- at most 20 slabs, none with more than 40 flags -/
def fw (S : Sc) : Bool := decide (S.sl.length ≤ 20 ∧ ∀ k, k < S.sl.length → (us S k).length ≤ 40)
set_option maxRecDepth 100000 in
set_option maxHeartbeats 4000000 in
theorem few_any (A : Option Addr) (cp : Nat) (S : Sc) (w : World) (hr : RdC w A S.sl) (hn : S.sl.length ≤ 9223372036854775807) : Calls Try.prog 12 #[.agg #[.int .i64 S.ob, .slice A S.sl.length cp], .int .i64 20] w fun e w' => e = .returned (.bool (fw S)) ∧ Below w.heap.size w w' := by
  have X2 := hide (Box.new w 24 #[.int .i64 S.ob, .slice A S.sl.length cp])
  have KF := hide (bal (brefl w) (.cells #[.int .i64 S.ob, .slice A S.sl.length cp] 24))
  obtain ⟨W0, hW0⟩ : ∃ W0, W0 = (w.alloc (.cells #[.int .i64 S.ob, .slice A S.sl.length cp] 24)) := ⟨_, rfl⟩
  rw [← hW0] at X2 KF
  obtain ⟨g2, hg2⟩ : ∃ g2, g2 = w.heap.size := ⟨_, rfl⟩
  rw [← hg2] at X2
  have HR := hide (hr.below KF.out)
  have x1 := X2.out.cell 1
  simp at x1
  clear hr X2
  go_enter Try.func12, Try.ntmps12
  go_upto_region 1 with fail
  rw [← hg2, ← hW0]
  clear hg2 hW0
  go_wp2
  go_loopw [5] (fun i wr => ∃ k : Nat, k ≤ S.sl.length ∧ k ≤ 20 ∧ i = .int .i64 k ∧ W0 = wr ∧ Hid (∀ j, j < k → (us S j).length ≤ 40)) (fun i _ => S.sl.length - (intOf i).toNat)
  case atStart => exact ⟨0, Nat.zero_le _, Nat.zero_le _, rfl, rfl, hide (fun j hj => by omega)⟩
  case round =>
    obtain ⟨k, hk, hk20, rfl, rfl, N⟩ := hrel
    by_cases hlt : k < S.sl.length
    · have hl2 : (k : Int) < (S.sl.length : Int) := by omega
      have hk0 : (0 : Int) ≤ (k : Int) := by omega
      by_cases h20 : k < 20
      · have h202 : (k : Int) < 20 := by omega
        obtain ⟨b, off, vu, rfl, hbl, y0, y1, hu⟩ := HR.out.cells (brefl _) hlt
        obtain ⟨Au, cu, rfl, hcu, hbu⟩ := hu
        change W0.cell? _ = some (.slice Au (us S k).length cu) at y1
        clear y0 hbu hcu hbl
        by_cases h40 : 40 < (us S k).length
        · have h402 : (40 : Int) < ((us S k).length : Int) := by omega
          have E := hide (show fw S = false from decide_eq_false fun g => by have := g.2 k hlt; omega)
          clear h40
          generalize (us S k).length = n at *
          go_wp2
          go_ret
          exact ⟨ret_bool E.out.symm, KF.out⟩
        · have h402 : ¬ (40 : Int) < ((us S k).length : Int) := by omega
          have N2 := hide (show ∀ j, j < k + 1 → (us S j).length ≤ 40 from fun j hj => by
            by_cases e : j = k
            · rw [e]; omega
            · exact N.out j (by omega))
          clear h40 N
          generalize (us S k).length = n at *
          go_wp2
          go_roundw
          case rel => exact ⟨k + 1, by omega, by omega, by go_num, trivial, N2⟩
          case measure => simp [intOf]; omega
      · have E := hide (show fw S = false from decide_eq_false fun g => by have := g.1; omega)
        have h202 : ¬ (k : Int) < 20 := by omega
        have h203 : ¬ (S.sl.length : Int) ≤ 20 := by omega
        clear h20
        go_wp2
        go_ret
        exact ⟨ret_bool E.out.symm, KF.out⟩
    · obtain rfl : k = S.sl.length := by omega
      have E := hide (show fw S = true from decide_eq_true ⟨hk20, N.out⟩)
      have h203 : (S.sl.length : Int) ≤ 20 := by omega
      go_wp2
      go_ret
      exact ⟨ret_bool E.out.symm, KF.out⟩
/-- the error of New -/
def nwE (n : Int) : Int := if 1 ≤ n ∧ n ≤ 32 then 0 else 1
/-- what New answers -/
def nwO (n : Int) : Int := if 1 ≤ n ∧ n ≤ 32 then n else 0
theorem new_any (n : Int) (w : World) : Calls Try.prog 14 #[.int .i64 n] w fun e w' => e = .returned (.tuple #[.agg #[.int .i64 (nwO n), .slice none 0 0], .int .i64 (nwE n)]) ∧ Below w.heap.size w w' := by
  have IN := hide (fun W => isnum_any n W)
  have hE : nwE n = if 1 ≤ n ∧ n ≤ 32 then 0 else 1 := rfl
  have hO : nwO n = if 1 ≤ n ∧ n ≤ 32 then n else 0 := rfl
  by_cases h : 1 ≤ n ∧ n ≤ 32
  · rw [decide_eq_true h] at IN
    rw [if_pos h] at hE hO
    rw [hE, hO]
    have X := hide (Box.new w 24 #[.int .i64 n, .slice none 0 0])
    have K := hide (bal (brefl w) (.cells #[.int .i64 n, .slice none 0 0] 24))
    clear h hE hO
    go_enter Try.func14, Try.ntmps14
    go_wp2_with (go_at_call 33; refine (IN.out _).mono ?_; rintro e w' ⟨rfl, rfl⟩)
    exact ret_s2 Try.results14 rfl rfl rfl X.out ⟨rfl, K.out⟩
  · rw [decide_eq_false h] at IN
    rw [if_neg h] at hE hO
    rw [hE, hO]
    have X := hide (Box.new w 24 #[.int .i64 0, .slice none 0 0])
    have K := hide (bal (brefl w) (.cells #[.int .i64 0, .slice none 0 0] 24))
    clear h hE hO
    go_enter Try.func14, Try.ntmps14
    go_wp2_with (go_at_call 33; refine (IN.out _).mono ?_; rintro e w' ⟨rfl, rfl⟩)
    exact ret_s2 Try.results14 rfl rfl rfl X.out ⟨rfl, K.out⟩
theorem rnew_any (n : Int) (w : World) : Calls Try.prog 15 #[.int .i64 n] w fun e w' => e = .returned (.tuple #[.agg #[.int .i64 (nwO n), .slice none 0 0], .int .i64 (nwE n)]) ∧ Below w.heap.size w w' := by
  have hE : nwE n = if 1 ≤ n ∧ n ≤ 32 then 0 else 1 := rfl
  have hO : nwO n = if 1 ≤ n ∧ n ≤ 32 then n else 0 := rfl
  have X0 := hide (Box.new w 24 #[.int .i64 0, .slice none 0 0])
  have K0 := hide (bal (brefl w) (.cells #[.int .i64 0, .slice none 0 0] 24))
  by_cases h1 : n < 1
  · rw [if_neg (by omega)] at hE hO
    rw [hE, hO]
    clear hE hO
    go_enter Try.func15, Try.ntmps15
    go_wp2
    exact ret_s2 Try.results15 rfl rfl rfl X0.out ⟨rfl, K0.out⟩
  · by_cases h2 : 32 < n
    · rw [if_neg (by omega)] at hE hO
      rw [hE, hO]
      clear hE hO
      go_enter Try.func15, Try.ntmps15
      go_wp2
      exact ret_s2 Try.results15 rfl rfl rfl X0.out ⟨rfl, K0.out⟩
    · rw [if_pos (by omega)] at hE hO
      rw [hE, hO]
      have X := hide (Box.new w 24 #[.int .i64 n, .slice none 0 0])
      have K := hide (bal (brefl w) (.cells #[.int .i64 n, .slice none 0 0] 24))
      clear hE hO
      go_enter Try.func15, Try.ntmps15
      go_wp2
      exact ret_s2 Try.results15 rfl rfl rfl X.out ⟨rfl, K.out⟩
end Go.Proofs.Ytncjicggolmofaa.Sb
