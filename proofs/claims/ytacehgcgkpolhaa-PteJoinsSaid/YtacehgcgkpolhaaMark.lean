import Derived.Test.YtacehgcgkpolhaaKind
namespace Go.Proofs.Ytacehgcgkpolhaa.Pt
open Go Go.RowKit
set_option linter.unusedVariables false
def Two (f : Nat) (args : Array Value) (a e : Int) : Prop := ∀ w, Calls Try.prog f args w fun en w' => en = .returned (.tuple #[.int .u64 a, .int .i64 e]) ∧ Below w.heap.size w w'
theorem W_eq {W : Int} (h : good W = true) : W = word0 (uk W) (un W) (f3 W) (f4 W) (f5 W) (f6 W) := (good_iff.1 h).2.symm
theorem good_err {W : Int} (h : good W = true) : err (uk W) (un W) (f3 W) (f4 W) (f5 W) (f6 W) = 0 := (good_iff.1 h).1
theorem or16_word {W : Int} (h : good W = true) (h0 : 0 ≤ W) (h1 : W < 18446744073709551616) : bits .or .u64 W 16 = word0 (uk W) (un W) (f3 W) true (f5 W) (f6 W) := by
  have e := W_eq h
  have b := b2_f4 W
  rw [or16 W h0 h1]
  unfold word0 at e ⊢
  have t : b2 true = 1 := rfl
  rw [t]
  omega
theorem or48_word {W : Int} (h : good W = true) (h0 : 0 ≤ W) (h1 : W < 18446744073709551616) : bits .or .u64 W 48 = word0 (uk W) (un W) (f3 W) true true (f6 W) := by
  have e := W_eq h
  have b := b2_f4 W
  have c := b2_f5 W
  rw [or48 W h0 h1]
  unfold word0 at e ⊢
  have t : b2 true = 1 := rfl
  rw [t]
  omega
theorem or3216_word {W : Int} (h : good W = true) (h0 : 0 ≤ W) (h1 : W < 18446744073709551616) : bits .or .u64 (bits .or .u64 W 32) 16 = word0 (uk W) (un W) (f3 W) true true (f6 W) := by
  have e := W_eq h
  have b := b2_f4 W
  have c := b2_f5 W
  have g := good_bd h
  rw [or32 W h0 h1, or16 _ (by omega) (by omega)]
  unfold word0 at e ⊢
  have t : b2 true = 1 := rfl
  rw [t]
  omega
theorem not16_word {W : Int} (h : good W = true) (h0 : 0 ≤ W) (h1 : W < 18446744073709551616) : bits .andNot .u64 W 16 = word0 (uk W) (un W) (f3 W) false (f5 W) (f6 W) := by
  have e := W_eq h
  have b := b2_f4 W
  rw [not16 W h0 h1]
  unfold word0 at e ⊢
  have t : b2 false = 0 := rfl
  rw [t]
  omega
theorem not8_word {W : Int} (h : good W = true) (h0 : 0 ≤ W) (h1 : W < 18446744073709551616) : bits .andNot .u64 W 8 = word0 (uk W) (un W) false (f4 W) (f5 W) (f6 W) := by
  have e := W_eq h
  have b := b2_f3 W
  rw [not8 W h0 h1]
  unfold word0 at e ⊢
  have t : b2 false = 0 := rfl
  rw [t]
  omega
theorem ints_cell (w : World) (cs : Array Value) (t k : Nat) : (w.alloc (.cells cs t)).cell? ⟨w.heap.size, k, none⟩ = cs[k]? := by
  have e : (w.alloc (.cells cs t)).heap[w.heap.size]? = some (.cells cs t (0, 0)) := by
    show (w.heap.push _)[w.heap.size]? = _
    simp
  simp only [World.cell?, e]
  cases cs[k]? <;> rfl
theorem dk1_bad (W : Int) (w : World) (h0 : 0 ≤ W) (h1 : W < 18446744073709551616) (h : good W = false) :
    Calls Try.prog 34 #[.int .u64 W, .slice (some ⟨w.heap.size, 0, none⟩) 1 1] (w.alloc (.cells #[.int .i64 1] 3)) fun e w' => e = .returned (.tuple #[.agg #[.int .i64 0, .int .i64 0, .bool false, .bool false, .bool false, .bool false], .int .i64 3]) ∧ Below w.heap.size w w' :=
  (dk_bad W w.heap.size [1] (w.alloc (.cells #[.int .i64 1] 3)) h0 h1 (by simp) (by simp) (fun k hk => by
    rw [ints_cell]
    match k, hk with
    | 0, _ => rfl
    ) h).mono fun e w' ⟨he, hb⟩ => ⟨he, btrans (bal (brefl _) _) hb⟩
theorem dk1_in (W : Int) (w : World) (h0 : 0 ≤ W) (h1 : W < 18446744073709551616) (h : good W = true) (hm : uk W ∈ ([1] : List Int)) :
    Calls Try.prog 34 #[.int .u64 W, .slice (some ⟨w.heap.size, 0, none⟩) 1 1] (w.alloc (.cells #[.int .i64 1] 3)) fun e w' => e = .returned (.tuple #[.agg #[.int .i64 (uk W), .int .i64 (un W), .bool (f3 W), .bool (f4 W), .bool (f5 W), .bool (f6 W)], .int .i64 0]) ∧ Below w.heap.size w w' :=
  (dk_in W w.heap.size [1] (w.alloc (.cells #[.int .i64 1] 3)) h0 h1 (by simp) (by simp) (fun k hk => by
    rw [ints_cell]
    match k, hk with
    | 0, _ => rfl
    ) h hm).mono fun e w' ⟨he, hb⟩ => ⟨he, btrans (bal (brefl _) _) hb⟩
theorem dk1_out (W : Int) (w : World) (h0 : 0 ≤ W) (h1 : W < 18446744073709551616) (h : good W = true) (hm : uk W ∉ ([1] : List Int)) :
    Calls Try.prog 34 #[.int .u64 W, .slice (some ⟨w.heap.size, 0, none⟩) 1 1] (w.alloc (.cells #[.int .i64 1] 3)) fun e w' => e = .returned (.tuple #[.agg #[.int .i64 0, .int .i64 0, .bool false, .bool false, .bool false, .bool false], .int .i64 11]) ∧ Below w.heap.size w w' :=
  (dk_out W w.heap.size [1] (w.alloc (.cells #[.int .i64 1] 3)) h0 h1 (by simp) (by simp) (fun k hk => by
    rw [ints_cell]
    match k, hk with
    | 0, _ => rfl
    ) h hm).mono fun e w' ⟨he, hb⟩ => ⟨he, btrans (bal (brefl _) _) hb⟩
theorem dk2_bad (W : Int) (w : World) (h0 : 0 ≤ W) (h1 : W < 18446744073709551616) (h : good W = false) :
    Calls Try.prog 34 #[.int .u64 W, .slice (some ⟨w.heap.size, 0, none⟩) 2 2] (w.alloc (.cells #[.int .i64 1, .int .i64 3] 3)) fun e w' => e = .returned (.tuple #[.agg #[.int .i64 0, .int .i64 0, .bool false, .bool false, .bool false, .bool false], .int .i64 3]) ∧ Below w.heap.size w w' :=
  (dk_bad W w.heap.size [1, 3] (w.alloc (.cells #[.int .i64 1, .int .i64 3] 3)) h0 h1 (by simp) (by simp) (fun k hk => by
    rw [ints_cell]
    match k, hk with
    | 0, _ => rfl
    | 1, _ => rfl
    ) h).mono fun e w' ⟨he, hb⟩ => ⟨he, btrans (bal (brefl _) _) hb⟩
theorem dk2_in (W : Int) (w : World) (h0 : 0 ≤ W) (h1 : W < 18446744073709551616) (h : good W = true) (hm : uk W ∈ ([1, 3] : List Int)) :
    Calls Try.prog 34 #[.int .u64 W, .slice (some ⟨w.heap.size, 0, none⟩) 2 2] (w.alloc (.cells #[.int .i64 1, .int .i64 3] 3)) fun e w' => e = .returned (.tuple #[.agg #[.int .i64 (uk W), .int .i64 (un W), .bool (f3 W), .bool (f4 W), .bool (f5 W), .bool (f6 W)], .int .i64 0]) ∧ Below w.heap.size w w' :=
  (dk_in W w.heap.size [1, 3] (w.alloc (.cells #[.int .i64 1, .int .i64 3] 3)) h0 h1 (by simp) (by simp) (fun k hk => by
    rw [ints_cell]
    match k, hk with
    | 0, _ => rfl
    | 1, _ => rfl
    ) h hm).mono fun e w' ⟨he, hb⟩ => ⟨he, btrans (bal (brefl _) _) hb⟩
theorem dk2_out (W : Int) (w : World) (h0 : 0 ≤ W) (h1 : W < 18446744073709551616) (h : good W = true) (hm : uk W ∉ ([1, 3] : List Int)) :
    Calls Try.prog 34 #[.int .u64 W, .slice (some ⟨w.heap.size, 0, none⟩) 2 2] (w.alloc (.cells #[.int .i64 1, .int .i64 3] 3)) fun e w' => e = .returned (.tuple #[.agg #[.int .i64 0, .int .i64 0, .bool false, .bool false, .bool false, .bool false], .int .i64 11]) ∧ Below w.heap.size w w' :=
  (dk_out W w.heap.size [1, 3] (w.alloc (.cells #[.int .i64 1, .int .i64 3] 3)) h0 h1 (by simp) (by simp) (fun k hk => by
    rw [ints_cell]
    match k, hk with
    | 0, _ => rfl
    | 1, _ => rfl
    ) h hm).mono fun e w' ⟨he, hb⟩ => ⟨he, btrans (bal (brefl _) _) hb⟩
set_option maxHeartbeats 1000000 in
theorem mark_bad (W : Int) (h0 : 0 ≤ W) (h1 : W < 18446744073709551616) (b : Bool) (h : good W = false) : Two 17 #[.int .u64 W, .bool b] 0 3 := by
  intro w
  have HH := hide h
  clear h
  go_enter Try.func17, Try.ntmps17
  go_wp2_with fail
  refine (dk1_bad W w h0 h1 HH.out).mono ?_
  rintro e w1 ⟨rfl, hb1⟩
  have K := hide hb1
  have X := hide (Ent.new w1 0 0 false false false false)
  clear hb1
  obtain ⟨x0, x1, x2, x3, x4, x5⟩ := Ent.cells X.out
  obtain ⟨q0, q1, q2, q3, q4, q5⟩ := Ent.free X.out
  go_wp2_with fail
  go_ret2
  exact ⟨rfl, bal K.out _⟩
set_option maxHeartbeats 1000000 in
theorem mark_kind (W : Int) (h0 : 0 ≤ W) (h1 : W < 18446744073709551616) (b : Bool) (h : good W = true) (hm : uk W ∉ ([1] : List Int)) : Two 17 #[.int .u64 W, .bool b] 0 11 := by
  intro w
  have HH := hide h
  have HM := hide hm
  clear h hm
  go_enter Try.func17, Try.ntmps17
  go_wp2_with fail
  refine (dk1_out W w h0 h1 HH.out HM.out).mono ?_
  rintro e w1 ⟨rfl, hb1⟩
  have K := hide hb1
  have X := hide (Ent.new w1 0 0 false false false false)
  clear hb1
  obtain ⟨x0, x1, x2, x3, x4, x5⟩ := Ent.cells X.out
  obtain ⟨q0, q1, q2, q3, q4, q5⟩ := Ent.free X.out
  go_wp2_with fail
  go_ret2
  exact ⟨rfl, bal K.out _⟩
set_option maxHeartbeats 1000000 in
theorem mark_access (W : Int) (h0 : 0 ≤ W) (h1 : W < 18446744073709551616) (h : good W = true) (hm : uk W ∈ ([1] : List Int)) (hw : f3 W = false) : Two 17 #[.int .u64 W, .bool true] 0 12 := by
  intro w
  have HH := hide h
  have HM := hide hm
  clear h hm
  go_enter Try.func17, Try.ntmps17
  go_wp2_with fail
  refine (dk1_in W w h0 h1 HH.out HM.out).mono ?_
  rintro e w1 ⟨rfl, hb1⟩
  have K := hide hb1
  have X := hide (Ent.new w1 (uk W) (un W) (f3 W) (f4 W) (f5 W) (f6 W))
  clear hb1
  obtain ⟨x0, x1, x2, x3, x4, x5⟩ := Ent.cells X.out
  obtain ⟨q0, q1, q2, q3, q4, q5⟩ := Ent.free X.out
  go_wp2_with fail
  go_ret2
  exact ⟨rfl, bal K.out _⟩
set_option maxHeartbeats 1000000 in
theorem mark_write (W : Int) (h0 : 0 ≤ W) (h1 : W < 18446744073709551616) (h : good W = true) (hm : uk W ∈ ([1] : List Int)) (hw : f3 W = true) : Two 17 #[.int .u64 W, .bool true] (word0 (uk W) (un W) (f3 W) true true (f6 W)) 0 := by
  intro w
  have HH := hide h
  have HM := hide hm
  clear h hm
  have HF := hide hw
  go_enter Try.func17, Try.ntmps17
  go_wp2_with fail
  refine (dk1_in W w h0 h1 HH.out HM.out).mono ?_
  rintro e w1 ⟨rfl, hb1⟩
  have K := hide hb1
  have X := hide (Ent.new w1 (uk W) (un W) (f3 W) (f4 W) (f5 W) (f6 W))
  clear hb1
  obtain ⟨x0, x1, x2, x3, x4, x5⟩ := Ent.cells X.out
  obtain ⟨q0, q1, q2, q3, q4, q5⟩ := Ent.free X.out
  go_wp2_with fail
  go_ret2
  exact ⟨ret_pair (or3216_word HH.out h0 h1) rfl, bal K.out _⟩
set_option maxHeartbeats 1000000 in
theorem mark_read (W : Int) (h0 : 0 ≤ W) (h1 : W < 18446744073709551616) (h : good W = true) (hm : uk W ∈ ([1] : List Int)) : Two 17 #[.int .u64 W, .bool false] (word0 (uk W) (un W) (f3 W) true (f5 W) (f6 W)) 0 := by
  intro w
  have HH := hide h
  have HM := hide hm
  clear h hm
  go_enter Try.func17, Try.ntmps17
  go_wp2_with fail
  refine (dk1_in W w h0 h1 HH.out HM.out).mono ?_
  rintro e w1 ⟨rfl, hb1⟩
  have K := hide hb1
  have X := hide (Ent.new w1 (uk W) (un W) (f3 W) (f4 W) (f5 W) (f6 W))
  clear hb1
  obtain ⟨x0, x1, x2, x3, x4, x5⟩ := Ent.cells X.out
  obtain ⟨q0, q1, q2, q3, q4, q5⟩ := Ent.free X.out
  go_wp2_with fail
  go_ret2
  exact ⟨ret_pair (or16_word HH.out h0 h1) rfl, bal K.out _⟩
set_option maxHeartbeats 1000000 in
theorem old_bad (W : Int) (h0 : 0 ≤ W) (h1 : W < 18446744073709551616) (h : good W = false) : Two 19 #[.int .u64 W] 0 3 := by
  intro w
  have HH := hide h
  clear h
  go_enter Try.func19, Try.ntmps19
  go_wp2_with fail
  refine (dk1_bad W w h0 h1 HH.out).mono ?_
  rintro e w1 ⟨rfl, hb1⟩
  have K := hide hb1
  have X := hide (Ent.new w1 0 0 false false false false)
  clear hb1
  obtain ⟨x0, x1, x2, x3, x4, x5⟩ := Ent.cells X.out
  obtain ⟨q0, q1, q2, q3, q4, q5⟩ := Ent.free X.out
  go_wp2_with fail
  go_ret2
  exact ⟨rfl, bal K.out _⟩
set_option maxHeartbeats 1000000 in
theorem old_kind (W : Int) (h0 : 0 ≤ W) (h1 : W < 18446744073709551616) (h : good W = true) (hm : uk W ∉ ([1] : List Int)) : Two 19 #[.int .u64 W] 0 11 := by
  intro w
  have HH := hide h
  have HM := hide hm
  clear h hm
  go_enter Try.func19, Try.ntmps19
  go_wp2_with fail
  refine (dk1_out W w h0 h1 HH.out HM.out).mono ?_
  rintro e w1 ⟨rfl, hb1⟩
  have K := hide hb1
  have X := hide (Ent.new w1 0 0 false false false false)
  clear hb1
  obtain ⟨x0, x1, x2, x3, x4, x5⟩ := Ent.cells X.out
  obtain ⟨q0, q1, q2, q3, q4, q5⟩ := Ent.free X.out
  go_wp2_with fail
  go_ret2
  exact ⟨rfl, bal K.out _⟩
set_option maxHeartbeats 1000000 in
theorem old_ok (W : Int) (h0 : 0 ≤ W) (h1 : W < 18446744073709551616) (h : good W = true) (hm : uk W ∈ ([1] : List Int)) : Two 19 #[.int .u64 W] (word0 (uk W) (un W) (f3 W) false (f5 W) (f6 W)) 0 := by
  intro w
  have HH := hide h
  have HM := hide hm
  clear h hm
  go_enter Try.func19, Try.ntmps19
  go_wp2_with fail
  refine (dk1_in W w h0 h1 HH.out HM.out).mono ?_
  rintro e w1 ⟨rfl, hb1⟩
  have K := hide hb1
  have X := hide (Ent.new w1 (uk W) (un W) (f3 W) (f4 W) (f5 W) (f6 W))
  clear hb1
  obtain ⟨x0, x1, x2, x3, x4, x5⟩ := Ent.cells X.out
  obtain ⟨q0, q1, q2, q3, q4, q5⟩ := Ent.free X.out
  go_wp2_with fail
  go_ret2
  exact ⟨ret_pair (not16_word HH.out h0 h1) rfl, bal K.out _⟩
set_option maxHeartbeats 1000000 in
theorem prot_bad (W : Int) (h0 : 0 ≤ W) (h1 : W < 18446744073709551616) (h : good W = false) : Two 21 #[.int .u64 W] 0 3 := by
  intro w
  have HH := hide h
  clear h
  go_enter Try.func21, Try.ntmps21
  go_wp2_with fail
  refine (dk2_bad W w h0 h1 HH.out).mono ?_
  rintro e w1 ⟨rfl, hb1⟩
  have K := hide hb1
  have X := hide (Ent.new w1 0 0 false false false false)
  clear hb1
  obtain ⟨x0, x1, x2, x3, x4, x5⟩ := Ent.cells X.out
  obtain ⟨q0, q1, q2, q3, q4, q5⟩ := Ent.free X.out
  go_wp2_with fail
  go_ret2
  exact ⟨rfl, bal K.out _⟩
set_option maxHeartbeats 1000000 in
theorem prot_kind (W : Int) (h0 : 0 ≤ W) (h1 : W < 18446744073709551616) (h : good W = true) (hm : uk W ∉ ([1, 3] : List Int)) : Two 21 #[.int .u64 W] 0 11 := by
  intro w
  have HH := hide h
  have HM := hide hm
  clear h hm
  go_enter Try.func21, Try.ntmps21
  go_wp2_with fail
  refine (dk2_out W w h0 h1 HH.out HM.out).mono ?_
  rintro e w1 ⟨rfl, hb1⟩
  have K := hide hb1
  have X := hide (Ent.new w1 0 0 false false false false)
  clear hb1
  obtain ⟨x0, x1, x2, x3, x4, x5⟩ := Ent.cells X.out
  obtain ⟨q0, q1, q2, q3, q4, q5⟩ := Ent.free X.out
  go_wp2_with fail
  go_ret2
  exact ⟨rfl, bal K.out _⟩
set_option maxHeartbeats 1000000 in
theorem prot_ok (W : Int) (h0 : 0 ≤ W) (h1 : W < 18446744073709551616) (h : good W = true) (hm : uk W ∈ ([1, 3] : List Int)) : Two 21 #[.int .u64 W] (word0 (uk W) (un W) false (f4 W) (f5 W) (f6 W)) 0 := by
  intro w
  have HH := hide h
  have HM := hide hm
  clear h hm
  go_enter Try.func21, Try.ntmps21
  go_wp2_with fail
  refine (dk2_in W w h0 h1 HH.out HM.out).mono ?_
  rintro e w1 ⟨rfl, hb1⟩
  have K := hide hb1
  have X := hide (Ent.new w1 (uk W) (un W) (f3 W) (f4 W) (f5 W) (f6 W))
  clear hb1
  obtain ⟨x0, x1, x2, x3, x4, x5⟩ := Ent.cells X.out
  obtain ⟨q0, q1, q2, q3, q4, q5⟩ := Ent.free X.out
  go_wp2_with fail
  go_ret2
  exact ⟨ret_pair (not8_word HH.out h0 h1) rfl, bal K.out _⟩
end Go.Proofs.Ytacehgcgkpolhaa.Pt
