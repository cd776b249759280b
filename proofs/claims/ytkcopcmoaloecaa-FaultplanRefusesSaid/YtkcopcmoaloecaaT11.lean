import Derived.Test.YtkcopcmoaloecaaT5
import Derived.Test.YtkcopcmoaloecaaT7
namespace Go.Proofs.Ytkcopcmoaloecaa.Fp
open Go Go.RowKit
set_option linter.unusedVariables false
set_option linter.unusedSimpArgs false
/-- the functions of the rules -/
def fn (k : Nat) : Nat := match k with
  | 0 => 33 | 1 => 35 | 2 => 36 | 3 => 38 | 4 => 39 | 5 => 41 | 6 => 42 | 7 => 43 | 8 => 44 | 9 => 31 | 10 => 45 | 11 => 46 | 12 => 47 | 13 => 48 | 14 => 49 | _ => 50
def rcells (mi : Int) (k : Nat) : List Value := [.func (.func (fn k)) #[] #[], .int .i64 (rp k mi).ac, .int .i64 (rp k mi).er, .int .i64 (rp k mi).wa, .int .i64 (rp k mi).ke, .int .i64 (rp k mi).us]
/-- the rules as cells -/
def ruC (mi : Int) : Array Value := ((List.range 96).map fun j => (rcells mi (j / 6)).getD (j % 6) undef).toArray
theorem lt16 {k : Nat} (h : k < 16) : k = 0 ∨ k = 1 ∨ k = 2 ∨ k = 3 ∨ k = 4 ∨ k = 5 ∨ k = 6 ∨ k = 7 ∨ k = 8 ∨ k = 9 ∨ k = 10 ∨ k = 11 ∨ k = 12 ∨ k = 13 ∨ k = 14 ∨ k = 15 := by omega
theorem ruC_at (mi : Int) {k i : Nat} (h : k < 16) (hi : i < 6) : (ruC mi)[k * 6 + i]? = (rcells mi k)[i]? := by
  unfold ruC
  rw [List.getElem?_toArray, List.getElem?_map, List.getElem?_range (by omega), Option.map_some, show (k * 6 + i) / 6 = k by omega, show (k * 6 + i) % 6 = i by omega, List.getD_eq_getElem?_getD, List.getElem?_eq_getElem (show i < (rcells mi k).length from hi)]
  rfl
theorem rules_cells {w : World} {g : Nat} {mi : Int} (h : Box w g 38 (ruC mi)) {k : Nat} (hk : k < 16) :
    w.cell? ⟨g, k * 6, none⟩ = some (.func (.func (fn k)) #[] #[]) ∧ w.cell? ⟨g, k * 6 + 1, none⟩ = some (.int .i64 (rp k mi).ac) ∧ w.cell? ⟨g, k * 6 + 2, none⟩ = some (.int .i64 (rp k mi).er) ∧ w.cell? ⟨g, k * 6 + 3, none⟩ = some (.int .i64 (rp k mi).wa) ∧ w.cell? ⟨g, k * 6 + 4, none⟩ = some (.int .i64 (rp k mi).ke) ∧ w.cell? ⟨g, k * 6 + 5, none⟩ = some (.int .i64 (rp k mi).us) :=
  ⟨(Box.cell h _).trans (ruC_at mi (i := 0) hk (by omega)), (Box.cell h _).trans (ruC_at mi (i := 1) hk (by omega)), (Box.cell h _).trans (ruC_at mi (i := 2) hk (by omega)), (Box.cell h _).trans (ruC_at mi (i := 3) hk (by omega)), (Box.cell h _).trans (ruC_at mi (i := 4) hk (by omega)), (Box.cell h _).trans (ruC_at mi (i := 5) hk (by omega))⟩
def RuP (mi : Int) (w : World) (e : Ending) (w' : World) : Prop := ∃ g, e = .returned (.slice (some ⟨g, 0, none⟩) 16 16) ∧ Box w' g 38 (ruC mi) ∧ Below w.heap.size w w'
set_option maxRecDepth 100000 in
set_option maxHeartbeats 16000000 in
theorem rules_any (mi : Int) (w : World) : Calls Try.prog 21 #[.int .i64 mi] w (RuP mi w) := by
  have K := hide (brefl w)
  have R1 := hide (fun w => refuse_any 13 w)
  have R2 := hide (fun w => refuse_any 12 w)
  have R3 := hide (fun w => refuse_any 14 w)
  have W4 := hide (fun w => wait_any 4 w)
  have W3 := hide (fun w => wait_any 3 w)
  have W5 := hide (fun w => wait_any 5 w)
  go_enter Try.func21, Try.ntmps21
  go_wp2_with fail
  refine (R1.out _).mono ?_
  rintro e w1 ⟨rfl, hb⟩
  replace K := hide (btrans K.out hb)
  clear hb
  go_wp2_with fail
  refine (R2.out _).mono ?_
  rintro e w2 ⟨rfl, hb⟩
  replace K := hide (btrans K.out hb)
  clear hb
  go_wp2_with fail
  refine (R3.out _).mono ?_
  rintro e w3 ⟨rfl, hb⟩
  replace K := hide (btrans K.out hb)
  clear hb
  go_wp2_with fail
  refine (W4.out _).mono ?_
  rintro e w4 ⟨rfl, hb⟩
  replace K := hide (btrans K.out hb)
  clear hb
  go_wp2_with fail
  refine (W3.out _).mono ?_
  rintro e w5 ⟨rfl, hb⟩
  replace K := hide (btrans K.out hb)
  clear hb
  go_wp2_with fail
  refine (W5.out _).mono ?_
  rintro e w6 ⟨rfl, hb⟩
  replace K := hide (btrans K.out hb)
  clear hb
  go_wp2_with fail
  go_ret
  exact ⟨_, rfl, Box.new w6 38 (ruC mi), bal K.out _⟩
set_option maxHeartbeats 4000000 in
theorem app_0 (wr rg : Bool) (pr : Int) (sh fi be bu : Bool) (en : Int) (wb tr ow on ca ba di fu : Bool) (mi : Int) (p : P5) (g : Nat) (w : World) (hX : CB w g ⟨wr, rg, pr, sh, fi, be, bu, en, wb, tr, ow, on, ca, ba, di, fu, mi⟩) : Calls Try.prog 23 #[.agg #[.func (.func 33) #[] #[], .int .i64 p.ac, .int .i64 p.er, .int .i64 p.wa, .int .i64 p.ke, .int .i64 p.us], .pointer (some ⟨g, 0, none⟩)] w fun e w' => e = .returned (.bool (rl 0 ⟨wr, rg, pr, sh, fi, be, bu, en, wb, tr, ow, on, ca, ba, di, fu, mi⟩)) ∧ Below w.heap.size w w' := by
  have K := hide (bal (brefl w) (.cells #[.func (.func 33) #[] #[], .int .i64 p.ac, .int .i64 p.er, .int .i64 p.wa, .int .i64 p.ke, .int .i64 p.us] 38))
  have X := hide (Box.more hX (.cells #[.func (.func 33) #[] #[], .int .i64 p.ac, .int .i64 p.er, .int .i64 p.wa, .int .i64 p.ke, .int .i64 p.us] 38))
  have CC := hide (show ∀ w, Calls Try.prog 33 #[.agg #[.bool wr, .bool rg, .int .i64 pr, .bool sh, .bool fi, .bool be, .bool bu, .int .i64 en, .bool wb, .bool tr, .bool ow, .bool on, .bool ca, .bool ba, .bool di, .bool fu, .int .i64 mi]] w fun e w' => e = .returned (.bool (rl 0 ⟨wr, rg, pr, sh, fi, be, bu, en, wb, tr, ow, on, ca, ba, di, fu, mi⟩)) ∧ Below w.heap.size w w' from fun w => r0_any wr rg pr sh fi be bu en wb tr ow on ca ba di fu mi w)
  generalize rl 0 ⟨wr, rg, pr, sh, fi, be, bu, en, wb, tr, ow, on, ca, ba, di, fu, mi⟩ = q at *
  go_enter Try.func23, Try.ntmps23
  go_wp2_with (refine wpList_load_row rfl 23 _ rfl g rfl 23 _ (0, 0) _ X.out Try.underlying23 rfl (by kernel_rfl) ?_)
  refine (CC.out _).mono ?_
  rintro e w1 ⟨rfl, hb⟩
  replace K := hide (btrans K.out hb)
  clear hb
  go_wp2
  go_ret
  exact ⟨rfl, K.out⟩
set_option maxHeartbeats 4000000 in
theorem app_1 (wr rg : Bool) (pr : Int) (sh fi be bu : Bool) (en : Int) (wb tr ow on ca ba di fu : Bool) (mi : Int) (p : P5) (g : Nat) (w : World) (hX : CB w g ⟨wr, rg, pr, sh, fi, be, bu, en, wb, tr, ow, on, ca, ba, di, fu, mi⟩) : Calls Try.prog 23 #[.agg #[.func (.func 35) #[] #[], .int .i64 p.ac, .int .i64 p.er, .int .i64 p.wa, .int .i64 p.ke, .int .i64 p.us], .pointer (some ⟨g, 0, none⟩)] w fun e w' => e = .returned (.bool (rl 1 ⟨wr, rg, pr, sh, fi, be, bu, en, wb, tr, ow, on, ca, ba, di, fu, mi⟩)) ∧ Below w.heap.size w w' := by
  have K := hide (bal (brefl w) (.cells #[.func (.func 35) #[] #[], .int .i64 p.ac, .int .i64 p.er, .int .i64 p.wa, .int .i64 p.ke, .int .i64 p.us] 38))
  have X := hide (Box.more hX (.cells #[.func (.func 35) #[] #[], .int .i64 p.ac, .int .i64 p.er, .int .i64 p.wa, .int .i64 p.ke, .int .i64 p.us] 38))
  have CC := hide (show ∀ w, Calls Try.prog 35 #[.agg #[.bool wr, .bool rg, .int .i64 pr, .bool sh, .bool fi, .bool be, .bool bu, .int .i64 en, .bool wb, .bool tr, .bool ow, .bool on, .bool ca, .bool ba, .bool di, .bool fu, .int .i64 mi]] w fun e w' => e = .returned (.bool (rl 1 ⟨wr, rg, pr, sh, fi, be, bu, en, wb, tr, ow, on, ca, ba, di, fu, mi⟩)) ∧ Below w.heap.size w w' from fun w => r1_any wr rg pr sh fi be bu en wb tr ow on ca ba di fu mi w)
  generalize rl 1 ⟨wr, rg, pr, sh, fi, be, bu, en, wb, tr, ow, on, ca, ba, di, fu, mi⟩ = q at *
  go_enter Try.func23, Try.ntmps23
  go_wp2_with (refine wpList_load_row rfl 23 _ rfl g rfl 23 _ (0, 0) _ X.out Try.underlying23 rfl (by kernel_rfl) ?_)
  refine (CC.out _).mono ?_
  rintro e w1 ⟨rfl, hb⟩
  replace K := hide (btrans K.out hb)
  clear hb
  go_wp2
  go_ret
  exact ⟨rfl, K.out⟩
set_option maxHeartbeats 4000000 in
theorem app_2 (wr rg : Bool) (pr : Int) (sh fi be bu : Bool) (en : Int) (wb tr ow on ca ba di fu : Bool) (mi : Int) (p : P5) (g : Nat) (w : World) (hX : CB w g ⟨wr, rg, pr, sh, fi, be, bu, en, wb, tr, ow, on, ca, ba, di, fu, mi⟩) : Calls Try.prog 23 #[.agg #[.func (.func 36) #[] #[], .int .i64 p.ac, .int .i64 p.er, .int .i64 p.wa, .int .i64 p.ke, .int .i64 p.us], .pointer (some ⟨g, 0, none⟩)] w fun e w' => e = .returned (.bool (rl 2 ⟨wr, rg, pr, sh, fi, be, bu, en, wb, tr, ow, on, ca, ba, di, fu, mi⟩)) ∧ Below w.heap.size w w' := by
  have K := hide (bal (brefl w) (.cells #[.func (.func 36) #[] #[], .int .i64 p.ac, .int .i64 p.er, .int .i64 p.wa, .int .i64 p.ke, .int .i64 p.us] 38))
  have X := hide (Box.more hX (.cells #[.func (.func 36) #[] #[], .int .i64 p.ac, .int .i64 p.er, .int .i64 p.wa, .int .i64 p.ke, .int .i64 p.us] 38))
  have CC := hide (show ∀ w, Calls Try.prog 36 #[.agg #[.bool wr, .bool rg, .int .i64 pr, .bool sh, .bool fi, .bool be, .bool bu, .int .i64 en, .bool wb, .bool tr, .bool ow, .bool on, .bool ca, .bool ba, .bool di, .bool fu, .int .i64 mi]] w fun e w' => e = .returned (.bool (rl 2 ⟨wr, rg, pr, sh, fi, be, bu, en, wb, tr, ow, on, ca, ba, di, fu, mi⟩)) ∧ Below w.heap.size w w' from fun w => r2_any wr rg pr sh fi be bu en wb tr ow on ca ba di fu mi w)
  generalize rl 2 ⟨wr, rg, pr, sh, fi, be, bu, en, wb, tr, ow, on, ca, ba, di, fu, mi⟩ = q at *
  go_enter Try.func23, Try.ntmps23
  go_wp2_with (refine wpList_load_row rfl 23 _ rfl g rfl 23 _ (0, 0) _ X.out Try.underlying23 rfl (by kernel_rfl) ?_)
  refine (CC.out _).mono ?_
  rintro e w1 ⟨rfl, hb⟩
  replace K := hide (btrans K.out hb)
  clear hb
  go_wp2
  go_ret
  exact ⟨rfl, K.out⟩
set_option maxHeartbeats 4000000 in
theorem app_3 (wr rg : Bool) (pr : Int) (sh fi be bu : Bool) (en : Int) (wb tr ow on ca ba di fu : Bool) (mi : Int) (p : P5) (g : Nat) (w : World) (hX : CB w g ⟨wr, rg, pr, sh, fi, be, bu, en, wb, tr, ow, on, ca, ba, di, fu, mi⟩) : Calls Try.prog 23 #[.agg #[.func (.func 38) #[] #[], .int .i64 p.ac, .int .i64 p.er, .int .i64 p.wa, .int .i64 p.ke, .int .i64 p.us], .pointer (some ⟨g, 0, none⟩)] w fun e w' => e = .returned (.bool (rl 3 ⟨wr, rg, pr, sh, fi, be, bu, en, wb, tr, ow, on, ca, ba, di, fu, mi⟩)) ∧ Below w.heap.size w w' := by
  have K := hide (bal (brefl w) (.cells #[.func (.func 38) #[] #[], .int .i64 p.ac, .int .i64 p.er, .int .i64 p.wa, .int .i64 p.ke, .int .i64 p.us] 38))
  have X := hide (Box.more hX (.cells #[.func (.func 38) #[] #[], .int .i64 p.ac, .int .i64 p.er, .int .i64 p.wa, .int .i64 p.ke, .int .i64 p.us] 38))
  have CC := hide (show ∀ w, Calls Try.prog 38 #[.agg #[.bool wr, .bool rg, .int .i64 pr, .bool sh, .bool fi, .bool be, .bool bu, .int .i64 en, .bool wb, .bool tr, .bool ow, .bool on, .bool ca, .bool ba, .bool di, .bool fu, .int .i64 mi]] w fun e w' => e = .returned (.bool (rl 3 ⟨wr, rg, pr, sh, fi, be, bu, en, wb, tr, ow, on, ca, ba, di, fu, mi⟩)) ∧ Below w.heap.size w w' from fun w => r3_any wr rg pr sh fi be bu en wb tr ow on ca ba di fu mi w)
  generalize rl 3 ⟨wr, rg, pr, sh, fi, be, bu, en, wb, tr, ow, on, ca, ba, di, fu, mi⟩ = q at *
  go_enter Try.func23, Try.ntmps23
  go_wp2_with (refine wpList_load_row rfl 23 _ rfl g rfl 23 _ (0, 0) _ X.out Try.underlying23 rfl (by kernel_rfl) ?_)
  refine (CC.out _).mono ?_
  rintro e w1 ⟨rfl, hb⟩
  replace K := hide (btrans K.out hb)
  clear hb
  go_wp2
  go_ret
  exact ⟨rfl, K.out⟩
set_option maxHeartbeats 4000000 in
theorem app_4 (wr rg : Bool) (pr : Int) (sh fi be bu : Bool) (en : Int) (wb tr ow on ca ba di fu : Bool) (mi : Int) (p : P5) (g : Nat) (w : World) (hX : CB w g ⟨wr, rg, pr, sh, fi, be, bu, en, wb, tr, ow, on, ca, ba, di, fu, mi⟩) : Calls Try.prog 23 #[.agg #[.func (.func 39) #[] #[], .int .i64 p.ac, .int .i64 p.er, .int .i64 p.wa, .int .i64 p.ke, .int .i64 p.us], .pointer (some ⟨g, 0, none⟩)] w fun e w' => e = .returned (.bool (rl 4 ⟨wr, rg, pr, sh, fi, be, bu, en, wb, tr, ow, on, ca, ba, di, fu, mi⟩)) ∧ Below w.heap.size w w' := by
  have K := hide (bal (brefl w) (.cells #[.func (.func 39) #[] #[], .int .i64 p.ac, .int .i64 p.er, .int .i64 p.wa, .int .i64 p.ke, .int .i64 p.us] 38))
  have X := hide (Box.more hX (.cells #[.func (.func 39) #[] #[], .int .i64 p.ac, .int .i64 p.er, .int .i64 p.wa, .int .i64 p.ke, .int .i64 p.us] 38))
  have CC := hide (show ∀ w, Calls Try.prog 39 #[.agg #[.bool wr, .bool rg, .int .i64 pr, .bool sh, .bool fi, .bool be, .bool bu, .int .i64 en, .bool wb, .bool tr, .bool ow, .bool on, .bool ca, .bool ba, .bool di, .bool fu, .int .i64 mi]] w fun e w' => e = .returned (.bool (rl 4 ⟨wr, rg, pr, sh, fi, be, bu, en, wb, tr, ow, on, ca, ba, di, fu, mi⟩)) ∧ Below w.heap.size w w' from fun w => r4_any wr rg pr sh fi be bu en wb tr ow on ca ba di fu mi w)
  generalize rl 4 ⟨wr, rg, pr, sh, fi, be, bu, en, wb, tr, ow, on, ca, ba, di, fu, mi⟩ = q at *
  go_enter Try.func23, Try.ntmps23
  go_wp2_with (refine wpList_load_row rfl 23 _ rfl g rfl 23 _ (0, 0) _ X.out Try.underlying23 rfl (by kernel_rfl) ?_)
  refine (CC.out _).mono ?_
  rintro e w1 ⟨rfl, hb⟩
  replace K := hide (btrans K.out hb)
  clear hb
  go_wp2
  go_ret
  exact ⟨rfl, K.out⟩
set_option maxHeartbeats 4000000 in
theorem app_5 (wr rg : Bool) (pr : Int) (sh fi be bu : Bool) (en : Int) (wb tr ow on ca ba di fu : Bool) (mi : Int) (p : P5) (g : Nat) (w : World) (hX : CB w g ⟨wr, rg, pr, sh, fi, be, bu, en, wb, tr, ow, on, ca, ba, di, fu, mi⟩) : Calls Try.prog 23 #[.agg #[.func (.func 41) #[] #[], .int .i64 p.ac, .int .i64 p.er, .int .i64 p.wa, .int .i64 p.ke, .int .i64 p.us], .pointer (some ⟨g, 0, none⟩)] w fun e w' => e = .returned (.bool (rl 5 ⟨wr, rg, pr, sh, fi, be, bu, en, wb, tr, ow, on, ca, ba, di, fu, mi⟩)) ∧ Below w.heap.size w w' := by
  have K := hide (bal (brefl w) (.cells #[.func (.func 41) #[] #[], .int .i64 p.ac, .int .i64 p.er, .int .i64 p.wa, .int .i64 p.ke, .int .i64 p.us] 38))
  have X := hide (Box.more hX (.cells #[.func (.func 41) #[] #[], .int .i64 p.ac, .int .i64 p.er, .int .i64 p.wa, .int .i64 p.ke, .int .i64 p.us] 38))
  have CC := hide (show ∀ w, Calls Try.prog 41 #[.agg #[.bool wr, .bool rg, .int .i64 pr, .bool sh, .bool fi, .bool be, .bool bu, .int .i64 en, .bool wb, .bool tr, .bool ow, .bool on, .bool ca, .bool ba, .bool di, .bool fu, .int .i64 mi]] w fun e w' => e = .returned (.bool (rl 5 ⟨wr, rg, pr, sh, fi, be, bu, en, wb, tr, ow, on, ca, ba, di, fu, mi⟩)) ∧ Below w.heap.size w w' from fun w => r5_any wr rg pr sh fi be bu en wb tr ow on ca ba di fu mi w)
  generalize rl 5 ⟨wr, rg, pr, sh, fi, be, bu, en, wb, tr, ow, on, ca, ba, di, fu, mi⟩ = q at *
  go_enter Try.func23, Try.ntmps23
  go_wp2_with (refine wpList_load_row rfl 23 _ rfl g rfl 23 _ (0, 0) _ X.out Try.underlying23 rfl (by kernel_rfl) ?_)
  refine (CC.out _).mono ?_
  rintro e w1 ⟨rfl, hb⟩
  replace K := hide (btrans K.out hb)
  clear hb
  go_wp2
  go_ret
  exact ⟨rfl, K.out⟩
set_option maxHeartbeats 4000000 in
theorem app_6 (wr rg : Bool) (pr : Int) (sh fi be bu : Bool) (en : Int) (wb tr ow on ca ba di fu : Bool) (mi : Int) (p : P5) (g : Nat) (w : World) (hX : CB w g ⟨wr, rg, pr, sh, fi, be, bu, en, wb, tr, ow, on, ca, ba, di, fu, mi⟩) : Calls Try.prog 23 #[.agg #[.func (.func 42) #[] #[], .int .i64 p.ac, .int .i64 p.er, .int .i64 p.wa, .int .i64 p.ke, .int .i64 p.us], .pointer (some ⟨g, 0, none⟩)] w fun e w' => e = .returned (.bool (rl 6 ⟨wr, rg, pr, sh, fi, be, bu, en, wb, tr, ow, on, ca, ba, di, fu, mi⟩)) ∧ Below w.heap.size w w' := by
  have K := hide (bal (brefl w) (.cells #[.func (.func 42) #[] #[], .int .i64 p.ac, .int .i64 p.er, .int .i64 p.wa, .int .i64 p.ke, .int .i64 p.us] 38))
  have X := hide (Box.more hX (.cells #[.func (.func 42) #[] #[], .int .i64 p.ac, .int .i64 p.er, .int .i64 p.wa, .int .i64 p.ke, .int .i64 p.us] 38))
  have CC := hide (show ∀ w, Calls Try.prog 42 #[.agg #[.bool wr, .bool rg, .int .i64 pr, .bool sh, .bool fi, .bool be, .bool bu, .int .i64 en, .bool wb, .bool tr, .bool ow, .bool on, .bool ca, .bool ba, .bool di, .bool fu, .int .i64 mi]] w fun e w' => e = .returned (.bool (rl 6 ⟨wr, rg, pr, sh, fi, be, bu, en, wb, tr, ow, on, ca, ba, di, fu, mi⟩)) ∧ Below w.heap.size w w' from fun w => r6_any wr rg pr sh fi be bu en wb tr ow on ca ba di fu mi w)
  generalize rl 6 ⟨wr, rg, pr, sh, fi, be, bu, en, wb, tr, ow, on, ca, ba, di, fu, mi⟩ = q at *
  go_enter Try.func23, Try.ntmps23
  go_wp2_with (refine wpList_load_row rfl 23 _ rfl g rfl 23 _ (0, 0) _ X.out Try.underlying23 rfl (by kernel_rfl) ?_)
  refine (CC.out _).mono ?_
  rintro e w1 ⟨rfl, hb⟩
  replace K := hide (btrans K.out hb)
  clear hb
  go_wp2
  go_ret
  exact ⟨rfl, K.out⟩
set_option maxHeartbeats 4000000 in
theorem app_7 (wr rg : Bool) (pr : Int) (sh fi be bu : Bool) (en : Int) (wb tr ow on ca ba di fu : Bool) (mi : Int) (p : P5) (g : Nat) (w : World) (hX : CB w g ⟨wr, rg, pr, sh, fi, be, bu, en, wb, tr, ow, on, ca, ba, di, fu, mi⟩) : Calls Try.prog 23 #[.agg #[.func (.func 43) #[] #[], .int .i64 p.ac, .int .i64 p.er, .int .i64 p.wa, .int .i64 p.ke, .int .i64 p.us], .pointer (some ⟨g, 0, none⟩)] w fun e w' => e = .returned (.bool (rl 7 ⟨wr, rg, pr, sh, fi, be, bu, en, wb, tr, ow, on, ca, ba, di, fu, mi⟩)) ∧ Below w.heap.size w w' := by
  have K := hide (bal (brefl w) (.cells #[.func (.func 43) #[] #[], .int .i64 p.ac, .int .i64 p.er, .int .i64 p.wa, .int .i64 p.ke, .int .i64 p.us] 38))
  have X := hide (Box.more hX (.cells #[.func (.func 43) #[] #[], .int .i64 p.ac, .int .i64 p.er, .int .i64 p.wa, .int .i64 p.ke, .int .i64 p.us] 38))
  have CC := hide (show ∀ w, Calls Try.prog 43 #[.agg #[.bool wr, .bool rg, .int .i64 pr, .bool sh, .bool fi, .bool be, .bool bu, .int .i64 en, .bool wb, .bool tr, .bool ow, .bool on, .bool ca, .bool ba, .bool di, .bool fu, .int .i64 mi]] w fun e w' => e = .returned (.bool (rl 7 ⟨wr, rg, pr, sh, fi, be, bu, en, wb, tr, ow, on, ca, ba, di, fu, mi⟩)) ∧ Below w.heap.size w w' from fun w => r7_any wr rg pr sh fi be bu en wb tr ow on ca ba di fu mi w)
  generalize rl 7 ⟨wr, rg, pr, sh, fi, be, bu, en, wb, tr, ow, on, ca, ba, di, fu, mi⟩ = q at *
  go_enter Try.func23, Try.ntmps23
  go_wp2_with (refine wpList_load_row rfl 23 _ rfl g rfl 23 _ (0, 0) _ X.out Try.underlying23 rfl (by kernel_rfl) ?_)
  refine (CC.out _).mono ?_
  rintro e w1 ⟨rfl, hb⟩
  replace K := hide (btrans K.out hb)
  clear hb
  go_wp2
  go_ret
  exact ⟨rfl, K.out⟩
set_option maxHeartbeats 4000000 in
theorem app_8 (wr rg : Bool) (pr : Int) (sh fi be bu : Bool) (en : Int) (wb tr ow on ca ba di fu : Bool) (mi : Int) (p : P5) (g : Nat) (w : World) (hX : CB w g ⟨wr, rg, pr, sh, fi, be, bu, en, wb, tr, ow, on, ca, ba, di, fu, mi⟩) : Calls Try.prog 23 #[.agg #[.func (.func 44) #[] #[], .int .i64 p.ac, .int .i64 p.er, .int .i64 p.wa, .int .i64 p.ke, .int .i64 p.us], .pointer (some ⟨g, 0, none⟩)] w fun e w' => e = .returned (.bool (rl 8 ⟨wr, rg, pr, sh, fi, be, bu, en, wb, tr, ow, on, ca, ba, di, fu, mi⟩)) ∧ Below w.heap.size w w' := by
  have K := hide (bal (brefl w) (.cells #[.func (.func 44) #[] #[], .int .i64 p.ac, .int .i64 p.er, .int .i64 p.wa, .int .i64 p.ke, .int .i64 p.us] 38))
  have X := hide (Box.more hX (.cells #[.func (.func 44) #[] #[], .int .i64 p.ac, .int .i64 p.er, .int .i64 p.wa, .int .i64 p.ke, .int .i64 p.us] 38))
  have CC := hide (show ∀ w, Calls Try.prog 44 #[.agg #[.bool wr, .bool rg, .int .i64 pr, .bool sh, .bool fi, .bool be, .bool bu, .int .i64 en, .bool wb, .bool tr, .bool ow, .bool on, .bool ca, .bool ba, .bool di, .bool fu, .int .i64 mi]] w fun e w' => e = .returned (.bool (rl 8 ⟨wr, rg, pr, sh, fi, be, bu, en, wb, tr, ow, on, ca, ba, di, fu, mi⟩)) ∧ Below w.heap.size w w' from fun w => r8_any wr rg pr sh fi be bu en wb tr ow on ca ba di fu mi w)
  generalize rl 8 ⟨wr, rg, pr, sh, fi, be, bu, en, wb, tr, ow, on, ca, ba, di, fu, mi⟩ = q at *
  go_enter Try.func23, Try.ntmps23
  go_wp2_with (refine wpList_load_row rfl 23 _ rfl g rfl 23 _ (0, 0) _ X.out Try.underlying23 rfl (by kernel_rfl) ?_)
  refine (CC.out _).mono ?_
  rintro e w1 ⟨rfl, hb⟩
  replace K := hide (btrans K.out hb)
  clear hb
  go_wp2
  go_ret
  exact ⟨rfl, K.out⟩
set_option maxHeartbeats 4000000 in
theorem app_9 (wr rg : Bool) (pr : Int) (sh fi be bu : Bool) (en : Int) (wb tr ow on ca ba di fu : Bool) (mi : Int) (p : P5) (g : Nat) (w : World) (hX : CB w g ⟨wr, rg, pr, sh, fi, be, bu, en, wb, tr, ow, on, ca, ba, di, fu, mi⟩) : Calls Try.prog 23 #[.agg #[.func (.func 31) #[] #[], .int .i64 p.ac, .int .i64 p.er, .int .i64 p.wa, .int .i64 p.ke, .int .i64 p.us], .pointer (some ⟨g, 0, none⟩)] w fun e w' => e = .returned (.bool (rl 9 ⟨wr, rg, pr, sh, fi, be, bu, en, wb, tr, ow, on, ca, ba, di, fu, mi⟩)) ∧ Below w.heap.size w w' := by
  have K := hide (bal (brefl w) (.cells #[.func (.func 31) #[] #[], .int .i64 p.ac, .int .i64 p.er, .int .i64 p.wa, .int .i64 p.ke, .int .i64 p.us] 38))
  have X := hide (Box.more hX (.cells #[.func (.func 31) #[] #[], .int .i64 p.ac, .int .i64 p.er, .int .i64 p.wa, .int .i64 p.ke, .int .i64 p.us] 38))
  have CC := hide (show ∀ w, Calls Try.prog 31 #[.agg #[.bool wr, .bool rg, .int .i64 pr, .bool sh, .bool fi, .bool be, .bool bu, .int .i64 en, .bool wb, .bool tr, .bool ow, .bool on, .bool ca, .bool ba, .bool di, .bool fu, .int .i64 mi]] w fun e w' => e = .returned (.bool (rl 9 ⟨wr, rg, pr, sh, fi, be, bu, en, wb, tr, ow, on, ca, ba, di, fu, mi⟩)) ∧ Below w.heap.size w w' from fun w => pg_any wr rg pr sh fi be bu en wb tr ow on ca ba di fu mi w)
  generalize rl 9 ⟨wr, rg, pr, sh, fi, be, bu, en, wb, tr, ow, on, ca, ba, di, fu, mi⟩ = q at *
  go_enter Try.func23, Try.ntmps23
  go_wp2_with (refine wpList_load_row rfl 23 _ rfl g rfl 23 _ (0, 0) _ X.out Try.underlying23 rfl (by kernel_rfl) ?_)
  refine (CC.out _).mono ?_
  rintro e w1 ⟨rfl, hb⟩
  replace K := hide (btrans K.out hb)
  clear hb
  go_wp2
  go_ret
  exact ⟨rfl, K.out⟩
set_option maxHeartbeats 4000000 in
theorem app_10 (wr rg : Bool) (pr : Int) (sh fi be bu : Bool) (en : Int) (wb tr ow on ca ba di fu : Bool) (mi : Int) (p : P5) (g : Nat) (w : World) (hX : CB w g ⟨wr, rg, pr, sh, fi, be, bu, en, wb, tr, ow, on, ca, ba, di, fu, mi⟩) : Calls Try.prog 23 #[.agg #[.func (.func 45) #[] #[], .int .i64 p.ac, .int .i64 p.er, .int .i64 p.wa, .int .i64 p.ke, .int .i64 p.us], .pointer (some ⟨g, 0, none⟩)] w fun e w' => e = .returned (.bool (rl 10 ⟨wr, rg, pr, sh, fi, be, bu, en, wb, tr, ow, on, ca, ba, di, fu, mi⟩)) ∧ Below w.heap.size w w' := by
  have K := hide (bal (brefl w) (.cells #[.func (.func 45) #[] #[], .int .i64 p.ac, .int .i64 p.er, .int .i64 p.wa, .int .i64 p.ke, .int .i64 p.us] 38))
  have X := hide (Box.more hX (.cells #[.func (.func 45) #[] #[], .int .i64 p.ac, .int .i64 p.er, .int .i64 p.wa, .int .i64 p.ke, .int .i64 p.us] 38))
  have CC := hide (show ∀ w, Calls Try.prog 45 #[.agg #[.bool wr, .bool rg, .int .i64 pr, .bool sh, .bool fi, .bool be, .bool bu, .int .i64 en, .bool wb, .bool tr, .bool ow, .bool on, .bool ca, .bool ba, .bool di, .bool fu, .int .i64 mi]] w fun e w' => e = .returned (.bool (rl 10 ⟨wr, rg, pr, sh, fi, be, bu, en, wb, tr, ow, on, ca, ba, di, fu, mi⟩)) ∧ Below w.heap.size w w' from fun w => r10_any wr rg pr sh fi be bu en wb tr ow on ca ba di fu mi w)
  generalize rl 10 ⟨wr, rg, pr, sh, fi, be, bu, en, wb, tr, ow, on, ca, ba, di, fu, mi⟩ = q at *
  go_enter Try.func23, Try.ntmps23
  go_wp2_with (refine wpList_load_row rfl 23 _ rfl g rfl 23 _ (0, 0) _ X.out Try.underlying23 rfl (by kernel_rfl) ?_)
  refine (CC.out _).mono ?_
  rintro e w1 ⟨rfl, hb⟩
  replace K := hide (btrans K.out hb)
  clear hb
  go_wp2
  go_ret
  exact ⟨rfl, K.out⟩
set_option maxHeartbeats 4000000 in
theorem app_11 (wr rg : Bool) (pr : Int) (sh fi be bu : Bool) (en : Int) (wb tr ow on ca ba di fu : Bool) (mi : Int) (p : P5) (g : Nat) (w : World) (hX : CB w g ⟨wr, rg, pr, sh, fi, be, bu, en, wb, tr, ow, on, ca, ba, di, fu, mi⟩) : Calls Try.prog 23 #[.agg #[.func (.func 46) #[] #[], .int .i64 p.ac, .int .i64 p.er, .int .i64 p.wa, .int .i64 p.ke, .int .i64 p.us], .pointer (some ⟨g, 0, none⟩)] w fun e w' => e = .returned (.bool (rl 11 ⟨wr, rg, pr, sh, fi, be, bu, en, wb, tr, ow, on, ca, ba, di, fu, mi⟩)) ∧ Below w.heap.size w w' := by
  have K := hide (bal (brefl w) (.cells #[.func (.func 46) #[] #[], .int .i64 p.ac, .int .i64 p.er, .int .i64 p.wa, .int .i64 p.ke, .int .i64 p.us] 38))
  have X := hide (Box.more hX (.cells #[.func (.func 46) #[] #[], .int .i64 p.ac, .int .i64 p.er, .int .i64 p.wa, .int .i64 p.ke, .int .i64 p.us] 38))
  have CC := hide (show ∀ w, Calls Try.prog 46 #[.agg #[.bool wr, .bool rg, .int .i64 pr, .bool sh, .bool fi, .bool be, .bool bu, .int .i64 en, .bool wb, .bool tr, .bool ow, .bool on, .bool ca, .bool ba, .bool di, .bool fu, .int .i64 mi]] w fun e w' => e = .returned (.bool (rl 11 ⟨wr, rg, pr, sh, fi, be, bu, en, wb, tr, ow, on, ca, ba, di, fu, mi⟩)) ∧ Below w.heap.size w w' from fun w => sw_any wr rg pr sh fi be bu en wb tr ow on ca ba di fu mi w)
  generalize rl 11 ⟨wr, rg, pr, sh, fi, be, bu, en, wb, tr, ow, on, ca, ba, di, fu, mi⟩ = q at *
  go_enter Try.func23, Try.ntmps23
  go_wp2_with (refine wpList_load_row rfl 23 _ rfl g rfl 23 _ (0, 0) _ X.out Try.underlying23 rfl (by kernel_rfl) ?_)
  refine (CC.out _).mono ?_
  rintro e w1 ⟨rfl, hb⟩
  replace K := hide (btrans K.out hb)
  clear hb
  go_wp2
  go_ret
  exact ⟨rfl, K.out⟩
set_option maxHeartbeats 4000000 in
theorem app_12 (wr rg : Bool) (pr : Int) (sh fi be bu : Bool) (en : Int) (wb tr ow on ca ba di fu : Bool) (mi : Int) (p : P5) (g : Nat) (w : World) (hX : CB w g ⟨wr, rg, pr, sh, fi, be, bu, en, wb, tr, ow, on, ca, ba, di, fu, mi⟩) : Calls Try.prog 23 #[.agg #[.func (.func 47) #[] #[], .int .i64 p.ac, .int .i64 p.er, .int .i64 p.wa, .int .i64 p.ke, .int .i64 p.us], .pointer (some ⟨g, 0, none⟩)] w fun e w' => e = .returned (.bool (rl 12 ⟨wr, rg, pr, sh, fi, be, bu, en, wb, tr, ow, on, ca, ba, di, fu, mi⟩)) ∧ Below w.heap.size w w' := by
  have K := hide (bal (brefl w) (.cells #[.func (.func 47) #[] #[], .int .i64 p.ac, .int .i64 p.er, .int .i64 p.wa, .int .i64 p.ke, .int .i64 p.us] 38))
  have X := hide (Box.more hX (.cells #[.func (.func 47) #[] #[], .int .i64 p.ac, .int .i64 p.er, .int .i64 p.wa, .int .i64 p.ke, .int .i64 p.us] 38))
  have CC := hide (show ∀ w, Calls Try.prog 47 #[.agg #[.bool wr, .bool rg, .int .i64 pr, .bool sh, .bool fi, .bool be, .bool bu, .int .i64 en, .bool wb, .bool tr, .bool ow, .bool on, .bool ca, .bool ba, .bool di, .bool fu, .int .i64 mi]] w fun e w' => e = .returned (.bool (rl 12 ⟨wr, rg, pr, sh, fi, be, bu, en, wb, tr, ow, on, ca, ba, di, fu, mi⟩)) ∧ Below w.heap.size w w' from fun w => r12_any wr rg pr sh fi be bu en wb tr ow on ca ba di fu mi w)
  generalize rl 12 ⟨wr, rg, pr, sh, fi, be, bu, en, wb, tr, ow, on, ca, ba, di, fu, mi⟩ = q at *
  go_enter Try.func23, Try.ntmps23
  go_wp2_with (refine wpList_load_row rfl 23 _ rfl g rfl 23 _ (0, 0) _ X.out Try.underlying23 rfl (by kernel_rfl) ?_)
  refine (CC.out _).mono ?_
  rintro e w1 ⟨rfl, hb⟩
  replace K := hide (btrans K.out hb)
  clear hb
  go_wp2
  go_ret
  exact ⟨rfl, K.out⟩
set_option maxHeartbeats 4000000 in
theorem app_13 (wr rg : Bool) (pr : Int) (sh fi be bu : Bool) (en : Int) (wb tr ow on ca ba di fu : Bool) (mi : Int) (p : P5) (g : Nat) (w : World) (hX : CB w g ⟨wr, rg, pr, sh, fi, be, bu, en, wb, tr, ow, on, ca, ba, di, fu, mi⟩) : Calls Try.prog 23 #[.agg #[.func (.func 48) #[] #[], .int .i64 p.ac, .int .i64 p.er, .int .i64 p.wa, .int .i64 p.ke, .int .i64 p.us], .pointer (some ⟨g, 0, none⟩)] w fun e w' => e = .returned (.bool (rl 13 ⟨wr, rg, pr, sh, fi, be, bu, en, wb, tr, ow, on, ca, ba, di, fu, mi⟩)) ∧ Below w.heap.size w w' := by
  have K := hide (bal (brefl w) (.cells #[.func (.func 48) #[] #[], .int .i64 p.ac, .int .i64 p.er, .int .i64 p.wa, .int .i64 p.ke, .int .i64 p.us] 38))
  have X := hide (Box.more hX (.cells #[.func (.func 48) #[] #[], .int .i64 p.ac, .int .i64 p.er, .int .i64 p.wa, .int .i64 p.ke, .int .i64 p.us] 38))
  have CC := hide (show ∀ w, Calls Try.prog 48 #[.agg #[.bool wr, .bool rg, .int .i64 pr, .bool sh, .bool fi, .bool be, .bool bu, .int .i64 en, .bool wb, .bool tr, .bool ow, .bool on, .bool ca, .bool ba, .bool di, .bool fu, .int .i64 mi]] w fun e w' => e = .returned (.bool (rl 13 ⟨wr, rg, pr, sh, fi, be, bu, en, wb, tr, ow, on, ca, ba, di, fu, mi⟩)) ∧ Below w.heap.size w w' from fun w => r13_any wr rg pr sh fi be bu en wb tr ow on ca ba di fu mi w)
  generalize rl 13 ⟨wr, rg, pr, sh, fi, be, bu, en, wb, tr, ow, on, ca, ba, di, fu, mi⟩ = q at *
  go_enter Try.func23, Try.ntmps23
  go_wp2_with (refine wpList_load_row rfl 23 _ rfl g rfl 23 _ (0, 0) _ X.out Try.underlying23 rfl (by kernel_rfl) ?_)
  refine (CC.out _).mono ?_
  rintro e w1 ⟨rfl, hb⟩
  replace K := hide (btrans K.out hb)
  clear hb
  go_wp2
  go_ret
  exact ⟨rfl, K.out⟩
set_option maxHeartbeats 4000000 in
theorem app_14 (wr rg : Bool) (pr : Int) (sh fi be bu : Bool) (en : Int) (wb tr ow on ca ba di fu : Bool) (mi : Int) (p : P5) (g : Nat) (w : World) (hX : CB w g ⟨wr, rg, pr, sh, fi, be, bu, en, wb, tr, ow, on, ca, ba, di, fu, mi⟩) : Calls Try.prog 23 #[.agg #[.func (.func 49) #[] #[], .int .i64 p.ac, .int .i64 p.er, .int .i64 p.wa, .int .i64 p.ke, .int .i64 p.us], .pointer (some ⟨g, 0, none⟩)] w fun e w' => e = .returned (.bool (rl 14 ⟨wr, rg, pr, sh, fi, be, bu, en, wb, tr, ow, on, ca, ba, di, fu, mi⟩)) ∧ Below w.heap.size w w' := by
  have K := hide (bal (brefl w) (.cells #[.func (.func 49) #[] #[], .int .i64 p.ac, .int .i64 p.er, .int .i64 p.wa, .int .i64 p.ke, .int .i64 p.us] 38))
  have X := hide (Box.more hX (.cells #[.func (.func 49) #[] #[], .int .i64 p.ac, .int .i64 p.er, .int .i64 p.wa, .int .i64 p.ke, .int .i64 p.us] 38))
  have CC := hide (show ∀ w, Calls Try.prog 49 #[.agg #[.bool wr, .bool rg, .int .i64 pr, .bool sh, .bool fi, .bool be, .bool bu, .int .i64 en, .bool wb, .bool tr, .bool ow, .bool on, .bool ca, .bool ba, .bool di, .bool fu, .int .i64 mi]] w fun e w' => e = .returned (.bool (rl 14 ⟨wr, rg, pr, sh, fi, be, bu, en, wb, tr, ow, on, ca, ba, di, fu, mi⟩)) ∧ Below w.heap.size w w' from fun w => r14_any wr rg pr sh fi be bu en wb tr ow on ca ba di fu mi w)
  generalize rl 14 ⟨wr, rg, pr, sh, fi, be, bu, en, wb, tr, ow, on, ca, ba, di, fu, mi⟩ = q at *
  go_enter Try.func23, Try.ntmps23
  go_wp2_with (refine wpList_load_row rfl 23 _ rfl g rfl 23 _ (0, 0) _ X.out Try.underlying23 rfl (by kernel_rfl) ?_)
  refine (CC.out _).mono ?_
  rintro e w1 ⟨rfl, hb⟩
  replace K := hide (btrans K.out hb)
  clear hb
  go_wp2
  go_ret
  exact ⟨rfl, K.out⟩
set_option maxHeartbeats 4000000 in
theorem app_15 (wr rg : Bool) (pr : Int) (sh fi be bu : Bool) (en : Int) (wb tr ow on ca ba di fu : Bool) (mi : Int) (p : P5) (g : Nat) (w : World) (hX : CB w g ⟨wr, rg, pr, sh, fi, be, bu, en, wb, tr, ow, on, ca, ba, di, fu, mi⟩) : Calls Try.prog 23 #[.agg #[.func (.func 50) #[] #[], .int .i64 p.ac, .int .i64 p.er, .int .i64 p.wa, .int .i64 p.ke, .int .i64 p.us], .pointer (some ⟨g, 0, none⟩)] w fun e w' => e = .returned (.bool (rl 15 ⟨wr, rg, pr, sh, fi, be, bu, en, wb, tr, ow, on, ca, ba, di, fu, mi⟩)) ∧ Below w.heap.size w w' := by
  have K := hide (bal (brefl w) (.cells #[.func (.func 50) #[] #[], .int .i64 p.ac, .int .i64 p.er, .int .i64 p.wa, .int .i64 p.ke, .int .i64 p.us] 38))
  have X := hide (Box.more hX (.cells #[.func (.func 50) #[] #[], .int .i64 p.ac, .int .i64 p.er, .int .i64 p.wa, .int .i64 p.ke, .int .i64 p.us] 38))
  have CC := hide (show ∀ w, Calls Try.prog 50 #[.agg #[.bool wr, .bool rg, .int .i64 pr, .bool sh, .bool fi, .bool be, .bool bu, .int .i64 en, .bool wb, .bool tr, .bool ow, .bool on, .bool ca, .bool ba, .bool di, .bool fu, .int .i64 mi]] w fun e w' => e = .returned (.bool (rl 15 ⟨wr, rg, pr, sh, fi, be, bu, en, wb, tr, ow, on, ca, ba, di, fu, mi⟩)) ∧ Below w.heap.size w w' from fun w => r15_any wr rg pr sh fi be bu en wb tr ow on ca ba di fu mi w)
  generalize rl 15 ⟨wr, rg, pr, sh, fi, be, bu, en, wb, tr, ow, on, ca, ba, di, fu, mi⟩ = q at *
  go_enter Try.func23, Try.ntmps23
  go_wp2_with (refine wpList_load_row rfl 23 _ rfl g rfl 23 _ (0, 0) _ X.out Try.underlying23 rfl (by kernel_rfl) ?_)
  refine (CC.out _).mono ?_
  rintro e w1 ⟨rfl, hb⟩
  replace K := hide (btrans K.out hb)
  clear hb
  go_wp2
  go_ret
  exact ⟨rfl, K.out⟩
theorem app_any {k : Nat} (hk : k < 16) (c : Fc) (p : P5) (g : Nat) (w : World) (hX : CB w g c) : Calls Try.prog 23 #[.agg #[.func (.func (fn k)) #[] #[], .int .i64 p.ac, .int .i64 p.er, .int .i64 p.wa, .int .i64 p.ke, .int .i64 p.us], .pointer (some ⟨g, 0, none⟩)] w fun e w' => e = .returned (.bool (rl k c)) ∧ Below w.heap.size w w' := by
  obtain ⟨wr, rg, pr, sh, fi, be, bu, en, wb, tr, ow, on, ca, ba, di, fu, mi⟩ := c
  rcases lt16 hk with rfl | rfl | rfl | rfl | rfl | rfl | rfl | rfl | rfl | rfl | rfl | rfl | rfl | rfl | rfl | rfl
  · exact app_0 wr rg pr sh fi be bu en wb tr ow on ca ba di fu mi p g w hX
  · exact app_1 wr rg pr sh fi be bu en wb tr ow on ca ba di fu mi p g w hX
  · exact app_2 wr rg pr sh fi be bu en wb tr ow on ca ba di fu mi p g w hX
  · exact app_3 wr rg pr sh fi be bu en wb tr ow on ca ba di fu mi p g w hX
  · exact app_4 wr rg pr sh fi be bu en wb tr ow on ca ba di fu mi p g w hX
  · exact app_5 wr rg pr sh fi be bu en wb tr ow on ca ba di fu mi p g w hX
  · exact app_6 wr rg pr sh fi be bu en wb tr ow on ca ba di fu mi p g w hX
  · exact app_7 wr rg pr sh fi be bu en wb tr ow on ca ba di fu mi p g w hX
  · exact app_8 wr rg pr sh fi be bu en wb tr ow on ca ba di fu mi p g w hX
  · exact app_9 wr rg pr sh fi be bu en wb tr ow on ca ba di fu mi p g w hX
  · exact app_10 wr rg pr sh fi be bu en wb tr ow on ca ba di fu mi p g w hX
  · exact app_11 wr rg pr sh fi be bu en wb tr ow on ca ba di fu mi p g w hX
  · exact app_12 wr rg pr sh fi be bu en wb tr ow on ca ba di fu mi p g w hX
  · exact app_13 wr rg pr sh fi be bu en wb tr ow on ca ba di fu mi p g w hX
  · exact app_14 wr rg pr sh fi be bu en wb tr ow on ca ba di fu mi p g w hX
  · exact app_15 wr rg pr sh fi be bu en wb tr ow on ca ba di fu mi p g w hX
end Go.Proofs.Ytkcopcmoaloecaa.Fp
