import Derived.Test.YtdpdlbonlpdkjabRoom
import Derived.Test.YtdpdlbonlpdkjabAwake
namespace Go.Proofs.Ytdpdlbonlpdkjab.Iv
open Go Go.RowKit
set_option linter.unusedVariables false
theorem six_of {α : Type} (a0 a1 a2 a3 a4 a5 : α) : ∃ F : Nat → α, a0 = F 0 ∧ a1 = F 1 ∧ a2 = F 2 ∧ a3 = F 3 ∧ a4 = F 4 ∧ a5 = F 5 :=
  ⟨fun k => if k = 0 then a0 else if k = 1 then a1 else if k = 2 then a2 else if k = 3 then a3 else if k = 4 then a4 else a5, rfl, rfl, rfl, rfl, rfl, rfl⟩
def sixC (An : Nat → Option Addr) (Nn Cn : Nat → Nat) : Array Value := #[.slice (An 0) (Nn 0) (Cn 0), .slice (An 1) (Nn 1) (Cn 1), .slice (An 2) (Nn 2) (Cn 2), .slice (An 3) (Nn 3) (Cn 3), .slice (An 4) (Nn 4) (Cn 4), .slice (An 5) (Nn 5) (Cn 5)]
def Lst (w : World) (g : Nat) (An : Nat → Option Addr) (Nn Cn : Nat → Nat) : Prop := w.heap[g]? = some (.cells (sixC An Nn Cn) 22 (0, 0))
theorem Lst.new (w : World) (An : Nat → Option Addr) (Nn Cn : Nat → Nat) : Lst (w.alloc (.cells (sixC An Nn Cn) 22)) w.heap.size An Nn Cn := heap_alloc_new w _
theorem Lst.lt {w : World} {g : Nat} {An : Nat → Option Addr} {Nn Cn : Nat → Nat} (h : Lst w g An Nn Cn) : g < w.heap.size := by
  rcases Nat.lt_or_ge g w.heap.size with h1 | h1
  · exact h1
  · unfold Lst at h; rw [Array.getElem?_eq_none h1] at h; cases h
theorem Lst.below {w w' : World} {g : Nat} {An : Nat → Option Addr} {Nn Cn : Nat → Nat} (h : Lst w g An Nn Cn) (hb : Below w.heap.size w w') : Lst w' g An Nn Cn := (hb.block g h.lt).trans h
theorem Lst.cell {w : World} {g k : Nat} {An : Nat → Option Addr} {Nn Cn : Nat → Nat} (h : Lst w g An Nn Cn) (hk : k < 6) : w.cell? ⟨g, k, none⟩ = some (.slice (An k) (Nn k) (Cn k)) := by
  unfold Lst at h
  rw [cell_of_row w g _ _ _ _ h]
  rcases (by omega : k = 0 ∨ k = 1 ∨ k = 2 ∨ k = 3 ∨ k = 4 ∨ k = 5) with rfl | rfl | rfl | rfl | rfl | rfl <;> rfl
theorem Lst.far {w : World} {g b i : Nat} {An : Nat → Option Addr} {Nn Cn : Nat → Nat} (h : Lst w g An Nn Cn) (hp : g ≠ b) (v : Value) : Lst (w.setCell ⟨b, i, none⟩ v) g An Nn Cn := (heap_setCell_other w ⟨b, i, none⟩ g v hp).trans h
theorem Lst.ne {w : World} {g b : Nat} {An : Nat → Option Addr} {Nn Cn : Nat → Nat} {cur : Array Value} (h : Lst w g An Nn Cn) (h2 : w.heap[b]? = some (.cells cur 30 (0, 0))) : g ≠ b := by
  rintro rfl
  unfold Lst at h
  rw [h] at h2
  injection h2 with h2
  injection h2 with _ h3
  exact absurd h3 (by decide)
def Rooms (B : Nat) (w : World) (An : Nat → Option Addr) (Nn : Nat → Nat) : Prop := ∀ k, k < 6 → Room B w (An k) (Nn k)
theorem Rooms.below {B : Nat} {w w' : World} {An : Nat → Option Addr} {Nn : Nat → Nat} (h : Rooms B w An Nn) (hb : Below w.heap.size w w') : Rooms B w' An Nn := fun k hk => (h k hk).below hb
theorem Rooms.set {B : Nat} {w : World} {An : Nat → Option Addr} {Nn : Nat → Nat} (h : Rooms B w An Nn) {b i : Nat} (v : Value) : Rooms B (w.setCell ⟨b, i, none⟩ v) An Nn := fun k hk => (h k hk).set v
theorem cur_at {cur : Array Value} {j : Nat} (h : j < cur.size) : ∃ u, cur[j]? = some u := ⟨cur[j], Array.getElem?_eq_getElem h⟩
set_option maxHeartbeats 8000000 in
set_option maxRecDepth 100000 in
theorem keeps_good (A B : Option Addr) (L M : IL) (c d : Nat) (f t : Int) (w : World) (hr : Iv w A L) (hs : Iv w B M) (hl : L.length ≤ 12) (hm : M.length ≤ 12) :
    Calls Try.prog 10 #[.slice A L.length c, .slice B M.length d, .agg #[.int .i64 f, .int .i64 t]] w fun e w' => e = .returned (.bool true) ∧ Below w.heap.size w w' := by
  have hb0 := bal (brefl w) (.cells #[.int .i64 f, .int .i64 t] 30)
  have X := hide (Box2.new w f t)
  have QA := hide (hr.below hb0)
  have QB := hide (hs.below hb0)
  have K := hide hb0
  have HF := hide (fun W => few_is A B L.length M.length c d true W (by omega) (by omega) (by simp [hl, hm]))
  clear hr hs hb0
  go_enter Try.func10, Try.ntmps10
  go_wp2_with fail
  refine (HF.out _).mono ?_
  rintro e w' ⟨rfl, rfl⟩
  go_wp2_with fail
  refine (own_any A L c _ QA.out hl).mono ?_
  rintro e w1 ⟨A1, c1, rfl, hmine, hb⟩
  replace K := hide (btrans K.out hb)
  replace X := hide (X.out.below hb)
  replace QA := hide (QA.out.below hb)
  replace QB := hide (QB.out.below hb)
  have Q1 := hide hmine.iv
  clear hb hmine
  go_wp2_with fail
  refine (own_any B M d _ QB.out hm).mono ?_
  rintro e w2 ⟨A2, c2, rfl, hmine, hb⟩
  replace K := hide (btrans K.out hb)
  replace X := hide (X.out.below hb)
  replace QA := hide (QA.out.below hb)
  replace QB := hide (QB.out.below hb)
  replace Q1 := hide (Q1.out.below hb)
  have Q2 := hide hmine.iv
  have KK := hide (brefl w2)
  clear hb hmine
  go_wp2_with fail
  refine (union_keep A1 A2 L M c1 c2 _ (Q1.out.below KK.out) (Q2.out.below KK.out) hl hm).mono ?_
  rintro e w3 ⟨A3, n3, c3, er3, rfl, hn3, hroom, hb⟩
  have R3 := hide (hroom.mono KK.out.size)
  replace KK := hide (btrans KK.out hb)
  clear hb hroom
  go_wp2_with fail
  refine (inter_keep A1 A2 L M c1 c2 _ (Q1.out.below KK.out) (Q2.out.below KK.out) hl hm).mono ?_
  rintro e w4 ⟨A4, n4, c4, er4, rfl, hn4, hroom, hb⟩
  have R4 := hide (hroom.mono KK.out.size)
  replace R3 := hide (R3.out.below hb)
  replace KK := hide (btrans KK.out hb)
  clear hb hroom
  go_wp2_with fail
  refine (subtract_keep A1 A2 L M c1 c2 _ (Q1.out.below KK.out) (Q2.out.below KK.out) hl hm).mono ?_
  rintro e w5 ⟨A5, n5, c5, er5, rfl, hn5, hroom, hb⟩
  have R5 := hide (hroom.mono KK.out.size)
  replace R3 := hide (R3.out.below hb)
  replace R4 := hide (R4.out.below hb)
  replace KK := hide (btrans KK.out hb)
  clear hb hroom
  have x0 := (X.out.below KK.out).c0
  have x1 := (X.out.below KK.out).c1
  go_wp2_with fail
  refine (add_keep A1 L c1 f t _ (Q1.out.below KK.out) hl).mono ?_
  rintro e w6 ⟨A6, n6, c6, er6, rfl, hn6, hroom, hb⟩
  have R6 := hide (hroom.mono KK.out.size)
  replace R3 := hide (R3.out.below hb)
  replace R4 := hide (R4.out.below hb)
  replace R5 := hide (R5.out.below hb)
  replace KK := hide (btrans KK.out hb)
  clear hb hroom
  clear x0 x1
  have x0 := (X.out.below KK.out).c0
  have x1 := (X.out.below KK.out).c1
  go_wp2_with fail
  refine (remove_keep A1 L c1 f t _ (Q1.out.below KK.out) hl).mono ?_
  rintro e w7 ⟨A7, n7, c7, er7, rfl, hn7, hroom, hb⟩
  have R7 := hide (hroom.mono KK.out.size)
  replace R3 := hide (R3.out.below hb)
  replace R4 := hide (R4.out.below hb)
  replace R5 := hide (R5.out.below hb)
  replace R6 := hide (R6.out.below hb)
  replace KK := hide (btrans KK.out hb)
  clear hb hroom
  clear x0 x1
  have x0 := (X.out.below KK.out).c0
  have x1 := (X.out.below KK.out).c1
  go_wp2_with fail
  refine (gaps_keep A1 L c1 f t _ (Q1.out.below KK.out) hl).mono ?_
  rintro e w8 ⟨A8, n8, c8, er8, rfl, hn8, hroom, hb⟩
  have R8 := hide (hroom.mono KK.out.size)
  replace R3 := hide (R3.out.below hb)
  replace R4 := hide (R4.out.below hb)
  replace R5 := hide (R5.out.below hb)
  replace R6 := hide (R6.out.below hb)
  replace R7 := hide (R7.out.below hb)
  replace KK := hide (btrans KK.out hb)
  clear hb hroom
  clear x0 x1
  have RA := hide (show ∀ k, k < 6 → k = 0 ∨ k = 1 ∨ k = 2 ∨ k = 3 ∨ k = 4 ∨ k = 5 by intro k hk; omega)
  obtain ⟨An, rfl, rfl, rfl, rfl, rfl, rfl⟩ := six_of A3 A4 A5 A6 A7 A8
  obtain ⟨Nn, rfl, rfl, rfl, rfl, rfl, rfl⟩ := six_of n3 n4 n5 n6 n7 n8
  obtain ⟨Cn, rfl, rfl, rfl, rfl, rfl, rfl⟩ := six_of c3 c4 c5 c6 c7 c8
  have RR := hide (show Rooms w2.heap.size (w8.alloc (.cells (sixC An Nn Cn) 22)) An Nn from fun k hk => by
    have hb := bal (brefl w8) (.cells (sixC An Nn Cn) 22)
    rcases RA.out k hk with rfl | rfl | rfl | rfl | rfl | rfl
    · exact R3.out.below hb
    · exact R4.out.below hb
    · exact R5.out.below hb
    · exact R6.out.below hb
    · exact R7.out.below hb
    · exact R8.out.below hb)
  have NN := hide (show ∀ k, k < 6 → Nn k ≤ 2000 from fun k hk => by
    rcases RA.out k hk with rfl | rfl | rfl | rfl | rfl | rfl <;> assumption)
  have LL := hide (Lst.new w8 An Nn Cn)
  have K8 := hide (bal KK.out (.cells (sixC An Nn Cn) 22))
  clear R3 R4 R5 R6 R7 R8 RA KK hn3 hn4 hn5 hn6 hn7 hn8
  go_wp2_with fail
  go_loopw [22, 23] (fun i _ wr => ∃ k : Nat, k ≤ 6 ∧ i = .int .i64 k ∧ Hid (Below w2.heap.size w2 wr) ∧ Hid (Lst wr w8.heap.size An Nn Cn) ∧ Hid (Rooms w2.heap.size wr An Nn)) (fun i _ _ => 6 - (intOf i).toNat)
  case atStart => exact ⟨0, by omega, rfl, K8, LL, RR⟩
  case round =>
    clear K8 LL RR
    obtain ⟨k, hk, rfl, K8, LL, RR⟩ := hrel
    by_cases hlt : k < 6
    · have k0 : (0 : Int) ≤ (k : Int) := by omega
      have k6 : (k : Int) < 6 := by omega
      have hN := NN.out k hlt
      have HK := hide hlt
      obtain ⟨wo, rfl⟩ : ∃ wo : World, wo = wr := ⟨_, rfl⟩
      go_wp2_with fail
      go_loopw [23] (fun j wr => ∃ m : Nat, m ≤ Nn k ∧ j = .int .i64 m ∧ Hid (Below w2.heap.size w2 wr) ∧ Hid (Lst wr w8.heap.size An Nn Cn) ∧ Hid (Rooms w2.heap.size wr An Nn)) (fun j _ => Nn k - (intOf j).toNat)
      case atStart => exact ⟨0, by omega, rfl, K8, LL, RR⟩
      case round =>
        clear K8 LL RR
        obtain ⟨m, hm2, rfl, K8, LL, RR⟩ := hrel
        by_cases hlt2 : m < Nn k
        · obtain ⟨g, cur, hA, hg, hh, ht⟩ := RR.out k HK.out (by omega)
          have hcell := Lst.cell LL.out HK.out
          rw [hA] at hcell
          obtain ⟨u0, hu0⟩ := cur_at (cur := cur) (j := m * 2) (by omega)
          obtain ⟨u1, hu1⟩ := cur_at (cur := cur) (j := m * 2 + 1) (by omega)
          have e0 := (cell_of_row wr g (m * 2) cur 30 (0, 0) hh).trans hu0
          have e1 := (cell_of_row wr g (m * 2 + 1) cur 30 (0, 0) hh).trans hu1
          have q0 := frozen_of_row wr g (m * 2) cur 30 hh
          have q1 := frozen_of_row wr g (m * 2 + 1) cur 30 hh
          have NE := hide (Lst.ne LL.out hh)
          have HG := hide hg
          have m0 : (0 : Int) ≤ (m : Int) := by omega
          generalize Nn k = N at *
          clear hA hh hu0 hu1 ht hg
          go_wp2
          go_roundw
          case rel => exact ⟨m + 1, by omega, by go_num, hide (bset (bset K8.out HG.out _) HG.out _), hide ((LL.out.far NE.out _).far NE.out _), hide ((RR.out.set _).set _)⟩
          case measure => simp [intOf]; omega
        · have hcell := Lst.cell LL.out HK.out
          have hmN : ((m : Int) < (Nn k : Int)) = False := by simp; omega
          go_wp2_with fail
          refine (same_is A1 A L c1 c _ (Q1.out.below K8.out) (QA.out.below K8.out) (by omega)).mono ?_
          rintro e w9 ⟨rfl, hb9⟩
          have K9 := hide (btrans K8.out hb9)
          have L9 := hide (LL.out.below hb9)
          have R9 := hide (RR.out.below hb9)
          clear hb9 hcell
          go_wp2_with fail
          refine (same_is A2 B M c2 d _ (Q2.out.below K9.out) (QB.out.below K9.out) (by omega)).mono ?_
          rintro e w10 ⟨rfl, hb9⟩
          have K10 := hide (btrans K9.out hb9)
          have L10 := hide (L9.out.below hb9)
          have R10 := hide (R9.out.below hb9)
          clear hb9
          go_wp2
          go_roundw
          case rel => exact ⟨k + 1, by omega, by go_num, K10, L10, R10⟩
          case measure => simp [intOf]; omega
    · obtain rfl : k = 6 := by omega
      go_wp2_with fail
      refine (awake _).mono ?_
      rintro e w11 ⟨rfl, hb9⟩
      have K11 := hide (btrans (btrans K.out K8.out) hb9)
      clear hb9
      go_wp2_with fail
      go_ret
      exact ⟨rfl, K11.out⟩
set_option maxRecDepth 100000 in
theorem law_keeps (A B : Option Addr) (L M : IL) (c d : Nat) (f t : Int) (w : World) (hr : Iv w A L) (hs : Iv w B M) (hn : L.length ≤ 9223372036854775807) (hm : M.length ≤ 9223372036854775807) :
    Calls Try.prog 10 #[.slice A L.length c, .slice B M.length d, .agg #[.int .i64 f, .int .i64 t]] w fun e w' => e = .returned (.bool true) ∧ Below w.heap.size w w' := by
  by_cases h : L.length ≤ 12 ∧ M.length ≤ 12
  · exact keeps_good A B L M c d f t w hr hs h.1 h.2
  · have HF := hide (fun W => few_is A B L.length M.length c d false W hn hm (by
      rcases (by omega : ¬ L.length ≤ 12 ∨ ¬ M.length ≤ 12) with h1 | h1
      · rw [decide_eq_false h1]; rfl
      · rw [decide_eq_false h1, Bool.and_false]))
    have K := hide (bal (brefl w) (.cells #[.int .i64 f, .int .i64 t] 30))
    clear h hr hs hn hm
    go_enter Try.func10, Try.ntmps10
    go_wp2_with fail
    refine (HF.out _).mono ?_
    rintro e w' ⟨rfl, rfl⟩
    go_wp2_with fail
    refine (awake _).mono ?_
    rintro e w1 ⟨rfl, hb⟩
    replace K := hide (btrans K.out hb)
    clear hb
    go_wp2_with fail
    go_ret
    exact ⟨rfl, K.out⟩
end Go.Proofs.Ytdpdlbonlpdkjab.Iv
