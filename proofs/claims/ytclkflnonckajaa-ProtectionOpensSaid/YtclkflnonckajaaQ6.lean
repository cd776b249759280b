import Derived.Test.YtclkflnonckajaaIns
namespace Go.Proofs.Ytclkflnonckajaa.Ac
open Go Go.RowKit
set_option linter.unusedVariables false
set_option linter.unusedSimpArgs false
theorem cell_ltq {w : World} {b o : Nat} {v : Value} (h : w.cell? ⟨b, o, none⟩ = some v) : b < w.heap.size := by
  rcases Nat.lt_or_ge b w.heap.size with h1 | h1
  · exact h1
  · exfalso
    have h2 : w.heap[b]? = Option.none := Array.getElem?_eq_none h1
    simp [World.cell?, h2] at h
theorem pth_dec {L : List A5} (V : tr L) (h8 : L.length ≤ 8) : ∀ a : Int, -1 ≤ a → a < L.length → (pth L a).Pairwise (· > ·) := by
  refine pth_ind V h8 (P := fun a l => l.Pairwise (· > ·)) List.Pairwise.nil (fun a ha ih => ?_)
  have hp := tr_pa V ha
  exact List.pairwise_cons.2 ⟨fun y hy => by have := pth_mem V h8 _ hp.1 (by omega) _ hy; omega, ih⟩
theorem gd_take {L : List A5} {v : Is} {s : Int} {low : Bool} : ∀ {P : Is} {j : Nat}, P.Pairwise (· > ·) → j < P.length → P.getD j 0 = max s 0 → -1 ≤ s → gdP L v s low P = (P.take j).any (gu L v low)
  | x :: l, 0, _, _, h, hs => by
    have hx : x = max s 0 := h
    show (if 0 < x ∧ x ≠ s then _ else false) = false
    rw [if_neg (by omega)]
  | x :: l, j + 1, hd, hj, h, hs => by
    obtain ⟨h1, h2⟩ := List.pairwise_cons.1 hd
    have hj' : j < l.length := by simpa using hj
    have h' : l.getD j 0 = max s 0 := h
    have hx := h1 _ (getD_mem hj')
    rw [h'] at hx
    show (if 0 < x ∧ x ≠ s then (gu L v low x || gdP L v s low l) else false) = (gu L v low x || (l.take j).any (gu L v low))
    rw [if_pos (by omega), gd_take h2 hj' h' hs]
/-- the floors are small numbers -/
theorem fl_in {L : List A5} (V : Vd L) (low : Bool) {k : Nat} (hk : k < L.length) : 0 ≤ fl L low k ∧ fl L low k ≤ 1048576 := by
  have h := V.rg k hk
  unfold inr at h
  unfold fl
  split <;> omega
set_option maxRecDepth 100000 in
set_option maxHeartbeats 8000000 in
theorem gua_any (g5 g11 g9 : Nat) (A AI : Option Addr) (cp ci : Nat) (L : List A5) (v : Is) (low : Bool) (x : Int) (hx : 0 ≤ x ∧ x < L.length) (V : Vd L) (hok : okV v) (hvl : v.length = L.length) (w : World)
    (X5 : w.cell? ⟨g5, 0, none⟩ = some (.slice A L.length cp)) (X11 : w.cell? ⟨g11, 0, none⟩ = some (.slice AI L.length ci)) (X9 : w.cell? ⟨g9, 0, none⟩ = some (.bool low)) (hr : As w A L) (hi : Bi w AI (rl L.length (tS L v))) :
    Calls Try.prog 77 #[.int .i64 x, .pointer (some ⟨g5, 0, none⟩), .pointer (some ⟨g11, 0, none⟩), .pointer (some ⟨g9, 0, none⟩)] w fun e w' => e = .returned (.bool (gu L v low x)) ∧ Below w.heap.size w w' := by
  obtain ⟨k, rfl⟩ := Int.eq_ofNat_of_zero_le hx.1
  have hk : k < L.length := by omega
  have hk2 : (k : Int) < (L.length : Int) := by omega
  have hk0 : (0 : Int) ≤ (k : Int) := by omega
  obtain ⟨b, off, rfl, hbl, y0, y1, y2, y3, y4⟩ := hr.cells (brefl _) hk
  obtain ⟨b2, off2, rfl, hbl2, z0⟩ := hi.cells (brefl _) (show k < (rl L.length (tS L v)).length by rw [rl_len]; exact hk)
  rw [rl_at hk] at z0
  have b5 : g5 < w.heap.size := cell_ltq X5
  have bd := V.rg k hk
  unfold inr at bd
  have t1 := tS_nonneg (L := L) (v := v) (fun i hi => (hok i (by rw [hvl]; exact hi)).1) k
  have t2 := tS_le (L := L) (v := v) V.len.2 (fun i hi => hok i (by rw [hvl]; exact hi)) k
  have E := hide (show gu L v low (k : Int) = decide (us L k - tS L v k ≤ fl L low k) by unfold gu; rw [Int.toNat_natCast])
  have FL := hide (show fl L low k = if low = true then lo L k else mn L k from rfl)
  have LB := hide (show ∀ q, (w.drewN q).cell? ⟨g5, 0, none⟩ = some (.slice (some ⟨b, off, none⟩) L.length cp) ∧ (w.drewN q).cell? ⟨b, off + k * 5 + 3, none⟩ = some (.int .i64 (lo L k)) ∧ (w.drewN q).cell? ⟨g9, 0, none⟩ = some (.bool low) from fun q => ⟨X5, y3, X9⟩)
  have K := hide (brefl w)
  obtain ⟨⟨⟨u1, u2⟩, m1, m2⟩, ⟨l1, l2⟩, _⟩ := bd
  clear hr hi V hx y0 y3 y4 hok
  generalize us L k = u at *
  generalize mn L k = m at *
  generalize lo L k = l at *
  generalize tS L v k = z at *
  generalize L.length = n at *
  have ew : IntKind.i64.wrap (u - z) = u - z := IntWalk.i64_in _ (by omega)
  cases low with
  | false =>
    rw [FL.out] at E
    simp only [Bool.false_eq_true, if_false] at E
    clear FL
    by_cases hc : u - z ≤ m
    · have E2 := hide (E.out.trans (decide_eq_true hc))
      clear E
      go_enter Try.func77, Try.ntmps77
      go_wp2
      go_quiet (fail)
      generalize hnq : World.drewN w _ = wy
      have hbq : Below w.heap.size w wy := by rw [← hnq]; exact below_drewN (brefl _) _
      have x9 : wy.cell? ⟨g9, 0, none⟩ = some (.bool false) := by rw [← hnq]; exact (LB.out _).2.2
      clear hnq
      go_wp2
      go_ret
      exact ⟨ret_bool E2.out.symm, hbq⟩
    · have E2 := hide (E.out.trans (decide_eq_false hc))
      have hd := decide_eq_false hc
      clear E
      go_enter Try.func77, Try.ntmps77
      go_wp2
      go_quiet (fail)
      generalize hnq : World.drewN w _ = wy
      have hbq : Below w.heap.size w wy := by rw [← hnq]; exact below_drewN (brefl _) _
      have x9 : wy.cell? ⟨g9, 0, none⟩ = some (.bool false) := by rw [← hnq]; exact (LB.out _).2.2
      clear hnq
      go_wp2
      go_ret
      exact ⟨ret_bool E2.out.symm, hbq⟩
  | true =>
    rw [FL.out] at E
    simp only [if_true] at E
    clear FL
    by_cases hc : u - z ≤ l
    · have E2 := hide (E.out.trans (decide_eq_true hc))
      clear E
      go_enter Try.func77, Try.ntmps77
      go_wp2
      go_quiet (fail)
      generalize hnq : World.drewN w _ = wy
      have hbq : Below w.heap.size w wy := by rw [← hnq]; exact below_drewN (brefl _) _
      obtain ⟨x5, yl, x9⟩ : wy.cell? ⟨g5, 0, none⟩ = some (.slice (some ⟨b, off, none⟩) n cp) ∧ wy.cell? ⟨b, off + k * 5 + 3, none⟩ = some (.int .i64 l) ∧ wy.cell? ⟨g9, 0, none⟩ = some (.bool true) := by rw [← hnq]; exact LB.out _
      clear hnq
      go_wp2
      go_ret
      exact ⟨ret_bool E2.out.symm, hbq⟩
    · have E2 := hide (E.out.trans (decide_eq_false hc))
      have hd := decide_eq_false hc
      clear E
      go_enter Try.func77, Try.ntmps77
      go_wp2
      go_quiet (fail)
      generalize hnq : World.drewN w _ = wy
      have hbq : Below w.heap.size w wy := by rw [← hnq]; exact below_drewN (brefl _) _
      obtain ⟨x5, yl, x9⟩ : wy.cell? ⟨g5, 0, none⟩ = some (.slice (some ⟨b, off, none⟩) n cp) ∧ wy.cell? ⟨b, off + k * 5 + 3, none⟩ = some (.int .i64 l) ∧ wy.cell? ⟨g9, 0, none⟩ = some (.bool true) := by rw [← hnq]; exact LB.out _
      clear hnq
      go_wp2
      go_ret
      exact ⟨ret_bool E2.out.symm, hbq⟩
theorem any_snoc_no {f : Int → Bool} {P : Is} {k : Nat} (hk : k < P.length) (h : (P.take k).any f = false) (h2 : f (P.getD k 0) = false) : (P.take (k + 1)).any f = false := by
  rw [take_snocI P hk, List.any_append, h]
  show (false || (f (P.getD k 0) || false)) = false
  rw [h2]; rfl
theorem any_at {f : Int → Bool} {P : Is} {k : Nat} (hk : k < P.length) (h2 : f (P.getD k 0) = true) : P.any f = true := List.any_eq_true.2 ⟨_, getD_mem hk, h2⟩
set_option maxRecDepth 100000 in
set_option maxHeartbeats 4000000 in
theorem gidx_any (AP : Option Addr) (c2 : Nat) (P : Is) (g5 g11 g9 : Nat) (A AI : Option Addr) (cp ci : Nat) (L : List A5) (v : Is) (low : Bool) (hP : ∀ x ∈ P, 0 ≤ x ∧ x < (L.length : Int)) (h9 : P.length ≤ 1000) (V : Vd L) (hok : okV v) (hvl : v.length = L.length) (w : World) (hp : Bi w AP P)
    (X5 : Box w g5 22 #[.slice A L.length cp]) (X11 : Box w g11 26 #[.slice AI L.length ci]) (X9 : Box w g9 4 #[.bool low]) (hr : As w A L) (hi : Bi w AI (rl L.length (tS L v))) :
    Calls Try.prog 67 #[.slice AP P.length c2, .func (.func 77) #[] #[.pointer (some ⟨g5, 0, none⟩), .pointer (some ⟨g11, 0, none⟩), .pointer (some ⟨g9, 0, none⟩)]] w fun e w' => (∃ i : Int, e = .returned (.int .i64 i) ∧ decide (0 ≤ i) = P.any (gu L v low)) ∧ Below w.heap.size w w' := by
  have HP := hide hp
  have HH := hide hP
  have CR := hide (fun (x : Int) (hx : 0 ≤ x ∧ x < L.length) w' (h : Below w.heap.size w w') => gua_any g5 g11 g9 A AI cp ci L v low x hx V hok hvl w' ((X5.below h).cell 0) ((X11.below h).cell 0) ((X9.below h).cell 0) (hr.below h) (hi.below h))
  have eg : ∀ args w, (callFunc 77 args).run Try.prog w = .ok (.enter 77 args) w := Go.Proofs.enters_of Try.func77 (by kernel_rfl) rfl
  have K0 := hide (brefl w)
  clear hp hP X5 X11 X9 hr hi V hok
  go_enter Try.func67, Try.ntmps67
  go_wp2
  go_loopw [5, 8] (fun _ c wr => ∃ k : Nat, k ≤ P.length ∧ c = .int .i64 k ∧ Hid ((P.take k).any (gu L v low) = false) ∧ Hid (Below w.heap.size w wr)) (fun _ c _ => P.length - (intOf c).toNat)
  case atStart => exact ⟨0, Nat.zero_le _, rfl, hide rfl, K0⟩
  case round =>
    clear K0
    obtain ⟨k, hk, rfl, N, K⟩ := hrel
    by_cases hlt : k < P.length
    · have hl2 : (k : Int) < (P.length : Int) := by omega
      have hk0 : (0 : Int) ≤ (k : Int) := by omega
      obtain ⟨b, off, rfl, hbl, y0⟩ := HP.out.cells K.out hlt
      have C := hide (CR.out (P.getD k 0) (HH.out _ (getD_mem hlt)) wr K.out)
      cases hc : gu L v low (P.getD k 0) with
      | true =>
        have E := hide (any_at hlt hc)
        rw [hc] at C
        clear hc N
        generalize P.getD k 0 = z at *
        go_wp2_with fail
        refine C.out.mono ?_
        rintro e w' ⟨rfl, hb⟩
        have KB := hide (btrans K.out hb)
        clear C K y0 hb
        go_wp2
        go_ret
        exact ⟨⟨_, rfl, by rw [E.out]; simp⟩, KB.out⟩
      | false =>
        have N2 := hide (any_snoc_no hlt N.out hc)
        rw [hc] at C
        clear hc N
        generalize P.getD k 0 = z at *
        go_wp2_with fail
        refine C.out.mono ?_
        rintro e w' ⟨rfl, hb⟩
        have KB := hide (btrans K.out hb)
        clear C K y0 hb
        go_wp2
        go_roundw
        case rel => exact ⟨k + 1, by omega, by go_num, N2, KB⟩
        case measure => simp [intOf]; omega
    · obtain rfl : k = P.length := by omega
      rw [List.take_length] at N
      go_wp2
      go_ret
      exact ⟨⟨_, rfl, by rw [N.out]; decide⟩, K.out⟩
theorem gcont_any (AP : Option Addr) (c2 : Nat) (P : Is) (g5 g11 g9 : Nat) (A AI : Option Addr) (cp ci : Nat) (L : List A5) (v : Is) (low : Bool) (hP : ∀ x ∈ P, 0 ≤ x ∧ x < (L.length : Int)) (h9 : P.length ≤ 1000) (V : Vd L) (hok : okV v) (hvl : v.length = L.length) (w : World) (hp : Bi w AP P)
    (X5 : Box w g5 22 #[.slice A L.length cp]) (X11 : Box w g11 26 #[.slice AI L.length ci]) (X9 : Box w g9 4 #[.bool low]) (hr : As w A L) (hi : Bi w AI (rl L.length (tS L v))) :
    Calls Try.prog 76 #[.slice AP P.length c2, .func (.func 77) #[] #[.pointer (some ⟨g5, 0, none⟩), .pointer (some ⟨g11, 0, none⟩), .pointer (some ⟨g9, 0, none⟩)]] w fun e w' => e = .returned (.bool (P.any (gu L v low))) ∧ Below w.heap.size w w' := by
  have H := hide (gidx_any AP c2 P g5 g11 g9 A AI cp ci L v low hP h9 V hok hvl w hp X5 X11 X9 hr hi)
  clear hp hP X5 X11 X9 hr hi V hok
  go_enter Try.func76, Try.ntmps76
  go_wp2_with fail
  refine H.out.mono ?_
  rintro e w1 ⟨⟨i, rfl, hi⟩, hb⟩
  have I := hide hi
  have K := hide hb
  clear hi H hb
  go_wp2
  go_ret
  exact ⟨ret_bool (by rw [← I.out]), K.out⟩
theorem gR_no {L : List A5} {v : Is} {a s : Int} {low : Bool} (h : ¬ (vlv L v ∧ iR L a s = true)) : gR L v a s low = true := if_neg h
theorem gR_ok {L : List A5} {v : Is} {a s : Int} {low : Bool} (h : vlv L v ∧ iR L a s = true) : gR L v a s low = gdP L v s low (pth L a) := if_pos h
theorem iR_ok {L : List A5} {a s : Int} (h : iR L a s = true) : (chE L = 0 ∧ 0 ≤ a ∧ a < L.length) ∧ (s = -1 ∨ s ∈ pth L a) := by
  unfold iR at h
  simp only [Bool.and_eq_true, Bool.or_eq_true, decide_eq_true_eq] at h
  exact h
theorem Bi.take {w : World} {A : Option Addr} {l : Is} (h : Bi w A l) (j : Nat) : Bi w A (l.take j) := fun hne => by
  obtain ⟨b, off, e, hb, hc⟩ := h (by rintro rfl; simp at hne)
  refine ⟨b, off, e, hb, fun k hk => ?_⟩
  rw [List.length_take] at hk
  rw [hc k (by omega), List.getD_eq_getElem?_getD, List.getD_eq_getElem?_getD, List.getElem?_take_of_lt (by omega)]
end Go.Proofs.Ytclkflnonckajaa.Ac
