import Derived.Test.YtdpdlbonlpdkjaaDoorAwake
namespace Go.Proofs.YtdpdlbonlpdkjaaDoor.Bs
open Go Go.RowKit
set_option linter.unusedVariables false
theorem filled_exists {ws : List Nat} (hw : ∀ x ∈ ws, x < 2 ^ 64) (lo : Nat) (on : Bool) (n : Nat) (h : lo + n ≤ 64 * ws.length) : ∃ zs, filled ws zs lo (lo + n) on := by
  induction n with
  | zero => exact ⟨ws, filled_start hw⟩
  | succ n ih =>
    obtain ⟨zs, hz⟩ := ih (by omega)
    exact ⟨_, filled_put (k := lo + n) hz (by omega) (by omega)⟩
theorem filled_valid {ws zs : List Nat} {S lo hi : Nat} {on : Bool} (h : filled ws zs lo hi on) (hi2 : hi ≤ S) (hv : chk (S : Int) ws = 0) : chk (S : Int) zs = 0 := by
  obtain ⟨a, b, c, d⟩ := chk_ok.1 hv
  refine chk_ok.2 ⟨a, b, by rw [h.1]; exact c, fun i hi => ?_⟩
  simp only [Int.toNat_natCast] at hi
  rw [h.2.2 i, if_neg (by omega)]
  exact d i (by simpa using hi)
/-- What a call that answers a set of bits and an error answers. -/
def BitsEnd (sz : Int) (zs : List Nat) (er : Int) (w : World) (e : Ending) (w' : World) : Prop :=
  ∃ A' c', e = .returned (.tuple #[.agg #[.int .i64 sz, .slice A' zs.length c'], .int .i64 er]) ∧ Wd w' A' zs ∧ Below w.heap.size w w'
theorem bitsEnd_err {er : Int} {w w' : World} {e : Ending} (h : e = .returned (.tuple #[.agg #[.int .i64 0, .slice none 0 0], .int .i64 er]) ∧ Below w.heap.size w w') : BitsEnd 0 [] er w e w' :=
  ⟨none, 0, h.1, fun h => absurd rfl h, h.2⟩
theorem fill_both (s f t : Int) (A : Option Addr) (ws : List Nat) (c : Nat) (on : Bool) (hw : ∀ x ∈ ws, x < 2 ^ 64) (hn : ws.length ≤ 9223372036854775807) :
    ∃ (sz : Int) (zs : List Nat) (er : Int), zs.length ≤ 64 ∧
      (∀ W, Wd W A ws → Calls Tryd.prog 21 #[.agg #[.int .i64 s, .slice A ws.length c], .int .i64 f, .int .i64 t, .bool on] W (BitsEnd sz zs er W)) ∧
      (∀ W, Wd W A ws → Calls Tryd.prog 22 #[.agg #[.int .i64 s, .slice A ws.length c], .int .i64 f, .int .i64 t, .bool on] W (BitsEnd sz zs er W)) := by
  by_cases h1 : chk s ws = 0
  · by_cases h2 : 0 ≤ f ∧ f ≤ t ∧ t ≤ s
    · obtain ⟨v1, v2, v3, v4⟩ := valid_len h1
      obtain ⟨S, rfl⟩ : ∃ S : Nat, s = (S : Int) := ⟨s.toNat, by omega⟩
      obtain ⟨lo, rfl⟩ : ∃ S : Nat, f = (S : Int) := ⟨f.toNat, by omega⟩
      obtain ⟨hi, rfl⟩ : ∃ S : Nat, t = (S : Int) := ⟨t.toNat, by omega⟩
      obtain ⟨zs, hz⟩ := filled_exists hw lo on (hi - lo) (by omega)
      rw [show lo + (hi - lo) = hi by omega] at hz
      refine ⟨S, zs, 0, by rw [hz.1]; exact v1, fun W hr => ?_, fun W hr => ?_⟩
      · exact (fill_good S lo hi A ws c on W hr hw h1 (by omega) (by omega)).mono fun e w' ⟨A', c', ys, he, hf, hm, hb⟩ => by
          obtain rfl := filled_one hf hz
          exact ⟨A', c', by rw [he, hf.1], hm.wd, hb⟩
      · exact (rfill_good S lo hi A ws c on W hr hw h1 (by omega) (by omega)).mono fun e w' ⟨A', c', ys, he, hf, hm, hb⟩ => by
          obtain rfl := filled_one hf hz
          exact ⟨A', c', by rw [he, hf.1], hm.wd, hb⟩
    · exact ⟨0, [], 2, by simp, fun W hr => (fill_range s f t A ws c on W hr hw hn h1 h2).mono fun _ _ h => bitsEnd_err h, fun W hr => (rfill_range s f t A ws c on W hr hw h1 h2).mono fun _ _ h => bitsEnd_err h⟩
  · have h3 : (chk s ws == 0) = false := by simpa using h1
    exact ⟨0, [], chk s ws, by simp, fun W hr => (fill_far s f t _ A ws c on W hr hw hn rfl h3).mono fun _ _ h => bitsEnd_err h, fun W hr => (rfill_far s f t _ A ws c on W hr hw rfl h3).mono fun _ _ h => bitsEnd_err h⟩
theorem set_both (s i : Int) (A : Option Addr) (ws : List Nat) (c : Nat) (on : Bool) (hw : ∀ x ∈ ws, x < 2 ^ 64) (hn : ws.length ≤ 9223372036854775807) (hi1 : -9223372036854775808 ≤ i) (hi2 : i ≤ 9223372036854775807) :
    ∃ (sz : Int) (zs : List Nat) (er : Int), zs.length ≤ 64 ∧ (∀ x ∈ zs, x < 2 ^ 64) ∧ (er ≠ 0 ∨ er = 0 ∧ getB sz zs i = on) ∧
      (∀ W, Wd W A ws → Calls Tryd.prog 17 #[.agg #[.int .i64 s, .slice A ws.length c], .int .i64 i, .bool on] W (BitsEnd sz zs er W)) ∧
      (∀ W, Wd W A ws → Calls Tryd.prog 18 #[.agg #[.int .i64 s, .slice A ws.length c], .int .i64 i, .bool on] W (BitsEnd sz zs er W)) := by
  by_cases h1 : chk s ws = 0
  · by_cases h2 : 0 ≤ i ∧ i < s
    · obtain ⟨v1, v2, v3, v4⟩ := valid_len h1
      obtain ⟨S, rfl⟩ : ∃ S : Nat, s = (S : Int) := ⟨s.toNat, by omega⟩
      obtain ⟨I, rfl⟩ : ∃ S : Nat, i = (S : Int) := ⟨i.toNat, by omega⟩
      obtain ⟨zs, hz⟩ := filled_exists hw I on 1 (by omega)
      have hv := filled_valid hz (by omega) h1
      refine ⟨S, zs, 0, by rw [hz.1]; exact v1, hz.2.1, .inr ⟨rfl, ?_⟩, fun W hr => ?_, fun W hr => ?_⟩
      · unfold getB
        rw [decide_eq_true ⟨hv, h2⟩, Int.toNat_natCast, hz.2.2 I, if_pos (by omega)]
        rfl
      · exact (set_good S I A ws c on W hr hw h1 (by omega)).mono fun e w' ⟨A', c', ys, he, hf, hm, hb⟩ => by
          obtain rfl := filled_one hf hz
          exact ⟨A', c', by rw [he, hf.1], hm.wd, hb⟩
      · exact (rset_good S I A ws c on W hr hw h1 (by omega)).mono fun e w' ⟨A', c', ys, he, hf, hm, hb⟩ => by
          obtain rfl := filled_one hf hz
          exact ⟨A', c', by rw [he, hf.1], hm.wd, hb⟩
    · exact ⟨0, [], 2, by simp, by simp, .inl (by omega), fun W hr => (set_range s i A ws c on W hr hw hn h1 hi1 hi2 (by omega)).mono fun _ _ h => bitsEnd_err h, fun W hr => (rset_range s i A ws c on W hr hw h1 (by omega)).mono fun _ _ h => bitsEnd_err h⟩
  · have h3 : (chk s ws == 0) = false := by simpa using h1
    exact ⟨0, [], chk s ws, by simp, by simp, .inl h1, fun W hr => (set_far s i _ A ws c on W hr hw hn rfl h3).mono fun _ _ h => bitsEnd_err h, fun W hr => (rset_far s i _ A ws c on W hr hw rfl h3).mono fun _ _ h => bitsEnd_err h⟩
theorem same_refl (sz : Int) (zs : List Nat) (A B : Option Addr) (c d : Nat) (W : World) (ha : Wd W A zs) (hb : Wd W B zs) (hn : zs.length ≤ 64) :
    Calls Tryd.prog 16 #[.agg #[.int .i64 sz, .slice A zs.length c], .agg #[.int .i64 sz, .slice B zs.length d]] W fun e w' => e = .returned (.bool true) ∧ Below W.heap.size W w' := by
  have h := same_any sz sz A B zs zs c d W ha hb (by omega)
  simp only [sameB, decide_true, Bool.and_self] at h
  exact h
/-- A pair of ints of the call's own in memory. -/
def PairIs (w : World) (g : Nat) (f t : Int) : Prop := w.heap[g]? = some (.cells #[.int .i64 f, .int .i64 t] 33 (0, 0))
theorem PairIs.c0 {w : World} {g : Nat} {f t : Int} (h : PairIs w g f t) : w.cell? ⟨g, 0, none⟩ = some (.int .i64 f) := by unfold PairIs at h; simp [World.cell?, h]
theorem PairIs.c1 {w : World} {g : Nat} {f t : Int} (h : PairIs w g f t) : w.cell? ⟨g, 1, none⟩ = some (.int .i64 t) := by unfold PairIs at h; simp [World.cell?, h]
theorem PairIs.lt {w : World} {g : Nat} {f t : Int} (h : PairIs w g f t) : g < w.heap.size := by
  rcases Nat.lt_or_ge g w.heap.size with h1 | h1
  · exact h1
  · unfold PairIs at h; rw [Array.getElem?_eq_none h1] at h; cases h
theorem PairIs.below {w w' : World} {g : Nat} {f t : Int} (h : PairIs w g f t) (hb : Below w.heap.size w w') : PairIs w' g f t := (hb.block g h.lt).trans h
theorem PairIs.alloc {w : World} {g : Nat} {f t : Int} (h : PairIs w g f t) (o : Obj) : PairIs (w.alloc o) g f t := h.below (bal (brefl _) _)
theorem PairIs.new (w : World) (f t : Int) : PairIs (w.alloc (.cells #[.int .i64 f, .int .i64 t] 33)) w.heap.size f t := by
  unfold PairIs
  show (w.heap.push _)[w.heap.size]? = _
  simp
theorem law_fills (s f t : Int) (on : Bool) (A : Option Addr) (ws : List Nat) (c : Nat) (w : World) (ht : Tab w) (hr : Wd w A ws) (hw : ∀ x ∈ ws, x < 2 ^ 64) (hn : ws.length ≤ 9223372036854775807) :
    Calls Tryd.prog 5 #[.agg #[.int .i64 s, .slice A ws.length c], .agg #[.int .i64 f, .int .i64 t], .bool on] w fun e w' => e = .returned (.bool true) ∧ Below w.heap.size w w' := by
  obtain ⟨sz, zs, er, hz64, hF, hG⟩ := fill_both s f t A ws c on hw hn
  have HT := hide (ht.below (bal (bal (brefl w) (.cells #[.int .i64 s, .slice A ws.length c] 24)) (.cells #[.int .i64 f, .int .i64 t] 33)))
  have HR := hide (hr.below (bal (bal (brefl w) (.cells #[.int .i64 s, .slice A ws.length c] 24)) (.cells #[.int .i64 f, .int .i64 t] 33)))
  have HF := hide hF
  have HG := hide hG
  clear hF hG ht hr hw
  go_enter Tryd.func5, Tryd.ntmps5
  go_wp2_with fail
  refine (awake _ HT.out).mono ?_
  rintro e w1 ⟨rfl, hb1⟩
  have b1 : BoxIs w1 w.heap.size s (.slice A ws.length c) := ((BoxIs.new w s (.slice A ws.length c)).alloc _).below hb1
  have q1 : PairIs w1 (w.heap.size + 1) f t := (by simpa using PairIs.new (w.alloc (.cells #[.int .i64 s, .slice A ws.length c] 24)) f t : PairIs _ (w.heap.size + 1) f t).below hb1
  have r1 := HR.out.below hb1
  have o1 : Below w.heap.size w w1 := btrans (bal (bal (brefl _) _) _) hb1
  have P1 := hide (And.intro o1 (And.intro b1 (And.intro q1 r1)))
  have x0 := b1.c0
  have x1 := b1.c1
  have x2 := q1.c0
  have x3 := q1.c1
  clear hb1 b1 q1 r1 o1
  go_wp2_with fail
  refine (HF.out _ P1.out.2.2.2).mono ?_
  rintro e w2 ⟨A2, c2, rfl, hr2, hb2⟩
  have P2 := hide (And.intro (bal (btrans P1.out.1 hb2) (.cells #[.int .i64 sz, .slice A2 zs.length c2] 24)) (And.intro ((P1.out.2.2.2.below hb2).below (bal (brefl w2) (.cells #[.int .i64 sz, .slice A2 zs.length c2] 24))) (And.intro (hr2.below (bal (brefl w2) (.cells #[.int .i64 sz, .slice A2 zs.length c2] 24))) (BoxIs.new w2 sz (.slice A2 zs.length c2)))))
  have b2 := P1.out.2.1.below hb2
  have q2 := P1.out.2.2.1.below hb2
  have l2 := b2.lt
  have l3 := q2.lt
  have y0 := b2.c0
  have y1 := b2.c1
  have y2 := q2.c0
  have y3 := q2.c1
  clear hb2 hr2 x0 x1 x2 x3 b2 q2
  go_wp2_with fail
  refine (HG.out _ P2.out.2.1).mono ?_
  rintro e w3 ⟨A3, c3, rfl, hr3, hb3⟩
  have P3 := hide (And.intro (bal (btrans P2.out.1 hb3) (.cells #[.int .i64 sz, .slice A3 zs.length c3] 24)) (And.intro ((P2.out.2.2.1.below hb3).below (bal (brefl w3) (.cells #[.int .i64 sz, .slice A3 zs.length c3] 24))) (hr3.below (bal (brefl w3) (.cells #[.int .i64 sz, .slice A3 zs.length c3] 24)))))
  have b3 := P2.out.2.2.2.below hb3
  have l4 := b3.lt
  have z0 := b3.c0
  have z1 := b3.c1
  clear hb3 hr3 y0 y1 y2 y3 b3
  go_wp2_with fail
  refine (same_refl sz zs A2 A3 c2 c3 _ P3.out.2.1 P3.out.2.2 hz64).mono ?_
  rintro e w4 ⟨rfl, hb4⟩
  have P4 := hide (btrans P3.out.1 hb4)
  clear hb4 z0 z1
  go_wp2_with fail
  go_ret
  exact ⟨rfl, P4.out⟩
end Go.Proofs.YtdpdlbonlpdkjaaDoor.Bs
