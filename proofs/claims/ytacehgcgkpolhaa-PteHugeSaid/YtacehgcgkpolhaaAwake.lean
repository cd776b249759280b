import Derived.Test.YtacehgcgkpolhaaRMark
namespace Go.Proofs.Ytacehgcgkpolhaa.Pt
open Go Go.RowKit
set_option linter.unusedVariables false
theorem Two.as {f : Nat} {args : Array Value} {a b e d : Int} (h : Two f args a e) (h1 : a = b) (h2 : e = d) : Two f args b d := by rw [← h1, ← h2]; exact h
theorem enc_two (k n : Int) (wr ac di hu : Bool) : Two 12 #[.agg #[.int .i64 k, .int .i64 n, .bool wr, .bool ac, .bool di, .bool hu]] (word k n wr ac di hu) (err k n wr ac di hu) := fun w => (enc_any k n wr ac di hu w).mono fun e w' h => h
theorem renc_two (k n : Int) (wr ac di hu : Bool) : Two 13 #[.agg #[.int .i64 k, .int .i64 n, .bool wr, .bool ac, .bool di, .bool hu]] (word k n wr ac di hu) (err k n wr ac di hu) := fun w => (renc_any k n wr ac di hu w).mono fun e w' h => h
theorem aw1 : Two 12 #[.agg #[.int .i64 1, .int .i64 5, .bool true, .bool true, .bool false, .bool false]] 1305 0 := (enc_two _ _ _ _ _ _).as (by decide) (by decide)
theorem aw2 : Two 12 #[.agg #[.int .i64 2, .int .i64 3, .bool false, .bool false, .bool false, .bool false]] 770 0 := (enc_two _ _ _ _ _ _).as (by decide) (by decide)
theorem aw3 : Two 12 #[.agg #[.int .i64 1, .int .i64 16, .bool true, .bool false, .bool true, .bool true]] 4201 0 := (enc_two _ _ _ _ _ _).as (by decide) (by decide)
theorem aw4 : Two 23 #[.int .u64 4201, .int .i64 3] 4905 0 := (part_ok 4201 3 (by decide) (by decide) (by decide) (by decide) (by decide) (by decide)).as (by decide) rfl
theorem aw5 : Two 17 #[.int .u64 1305, .bool true] 1337 0 := (mark_write 1305 (by decide) (by decide) (by decide) (by decide) (by decide)).as (by decide) rfl
theorem aw6 : Two 21 #[.int .u64 1305] 1297 0 := (prot_ok 1305 (by decide) (by decide) (by decide) (by decide)).as (by decide) rfl
theorem aw7 : Two 17 #[.int .u64 1297, .bool true] 0 12 := mark_access 1297 (by decide) (by decide) (by decide) (by decide) (by decide)
theorem aw8 (w : World) : Calls Try.prog 15 #[.int .u64 128] w fun e w' => e = .returned (.tuple #[.agg #[.int .i64 0, .int .i64 0, .bool false, .bool false, .bool false, .bool false], .int .i64 3]) ∧ Below w.heap.size w w' := dec_bad 128 w (by decide) (by decide) (by decide)
theorem aw9 : Two 17 #[.int .u64 770, .bool false] 0 11 := mark_kind 770 (by decide) (by decide) false (by decide) (by decide)
set_option maxRecDepth 100000 in
set_option maxHeartbeats 1000000 in
theorem awake (w : World) : Calls Try.prog 14 #[] w fun e w' => e = .returned (.bool true) ∧ Below w.heap.size w w' := by
  go_enter Try.func14, Try.ntmps14
  go_wp2_with fail
  refine (aw1 _).mono ?_
  rintro e w1 ⟨rfl, hb1⟩
  have K := hide hb1
  clear hb1
  go_wp2_with fail
  refine (aw2 _).mono ?_
  rintro e w2 ⟨rfl, hb1⟩
  replace K := hide (btrans K.out hb1)
  clear hb1
  go_wp2_with fail
  refine (aw3 _).mono ?_
  rintro e w3 ⟨rfl, hb1⟩
  replace K := hide (btrans K.out hb1)
  clear hb1
  go_wp2_with fail
  refine (aw4 _).mono ?_
  rintro e w4 ⟨rfl, hb1⟩
  replace K := hide (btrans K.out hb1)
  clear hb1
  go_wp2_with fail
  refine (aw5 _).mono ?_
  rintro e w5 ⟨rfl, hb1⟩
  replace K := hide (btrans K.out hb1)
  clear hb1
  go_wp2_with fail
  refine (aw6 _).mono ?_
  rintro e w6 ⟨rfl, hb1⟩
  replace K := hide (btrans K.out hb1)
  clear hb1
  go_wp2_with fail
  refine (aw7 _).mono ?_
  rintro e w7 ⟨rfl, hb1⟩
  replace K := hide (btrans K.out hb1)
  clear hb1
  go_wp2_with fail
  refine (aw8 _).mono ?_
  rintro e w8 ⟨rfl, hb1⟩
  replace K := hide (btrans K.out hb1)
  clear hb1
  go_wp2_with fail
  refine (aw9 _).mono ?_
  rintro e w9 ⟨rfl, hb1⟩
  replace K := hide (btrans K.out hb1)
  clear hb1
  go_wp2_with fail
  go_ret
  exact ⟨rfl, K.out⟩
end Go.Proofs.Ytacehgcgkpolhaa.Pt
