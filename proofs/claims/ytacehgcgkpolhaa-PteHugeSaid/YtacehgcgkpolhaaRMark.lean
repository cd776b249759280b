import Derived.Test.YtacehgcgkpolhaaMark
namespace Go.Proofs.Ytacehgcgkpolhaa.Pt
open Go Go.RowKit
set_option linter.unusedVariables false
theorem enc_ok {f : Nat} {k n : Int} {wr ac di hu : Bool} {w : World} (h : err k n wr ac di hu = 0) (hc : Calls Try.prog f #[.agg #[.int .i64 k, .int .i64 n, .bool wr, .bool ac, .bool di, .bool hu]] w (Enc k n wr ac di hu w)) :
    Calls Try.prog f #[.agg #[.int .i64 k, .int .i64 n, .bool wr, .bool ac, .bool di, .bool hu]] w fun e w' => e = .returned (.tuple #[.int .u64 (word0 k n wr ac di hu), .int .i64 0]) ∧ Below w.heap.size w w' := by
  refine hc.mono fun e w' ⟨he, hb⟩ => ⟨?_, hb⟩
  rw [he, h]
  unfold word
  rw [if_pos h]
theorem err_old {W : Int} (h : good W = true) (hk : uk W = 1) : err (uk W) (un W) (f3 W) false (f5 W) (f6 W) = 0 := by
  have e := good_err h
  rw [hk] at e ⊢
  exact err_page e
theorem err_prot {W : Int} (h : good W = true) (hk : uk W = 1 ∨ uk W = 3) : err (uk W) (un W) false (f4 W) (f5 W) (f6 W) = 0 := by
  have e := good_err h
  rcases hk with hk | hk
  · rw [hk] at e ⊢
    exact err_page e
  · rw [hk] at e ⊢
    exact err_move e
theorem huge_kind {W : Int} (h : good W = true) (hh : f6 W = true) : uk W = 1 := by
  obtain ⟨_, _, _, _, h4⟩ := err_bd (good_err h)
  rw [hh] at h4
  exact suits_huge h4
theorem huge_num {W : Int} (h : good W = true) (hh : f6 W = true) : 0 ≤ un W ∧ un W ≤ 4294967288 := by
  obtain ⟨_, _, h2, h3, h4⟩ := err_bd (good_err h)
  rw [hh, huge_kind h hh] at h3
  exact ⟨h2, h3⟩
theorem err_part {W i : Int} (h : good W = true) (hh : f6 W = true) (h0 : 0 ≤ i) (h1 : i < 8) : err (uk W) (un W + i) (f3 W) (f4 W) (f5 W) false = 0 := by
  obtain ⟨a, b⟩ := huge_num h hh
  rw [huge_kind h hh]
  exact err_mk (by omega) (by omega) (by omega) (by show _ ≤ 4294967295; omega) (suits_page _ _ _ _ _)
set_option maxHeartbeats 1000000 in
theorem rmark_bad (W : Int) (h0 : 0 ≤ W) (h1 : W < 18446744073709551616) (b : Bool) (h : good W = false) : Two 18 #[.int .u64 W, .bool b] 0 3 := by
  intro w
  have HH := hide h
  clear h
  go_enter Try.func18, Try.ntmps18
  go_wp2_with fail
  refine (rdec_bad W w h0 h1 HH.out).mono ?_
  rintro e w1 ⟨rfl, hb1⟩
  have K := hide hb1
  have X := hide (Ent.new w1 0 0 false false false false)
  clear hb1
  obtain ⟨x0, x1, x2, x3, x4, x5⟩ := Ent.cells X.out
  obtain ⟨q0, q1, q2, q3, q4, q5⟩ := Ent.free X.out
  go_wp2_with fail
  go_ret2
  exact ⟨rfl, bal K.out _⟩
set_option maxHeartbeats 1000000 in
theorem rmark_kind (W : Int) (h0 : 0 ≤ W) (h1 : W < 18446744073709551616) (b : Bool) (h : good W = true) (hk : uk W ≠ 1) : Two 18 #[.int .u64 W, .bool b] 0 11 := by
  intro w
  have HH := hide h
  have hk1 : (uk W != 1) = true := by simpa using hk
  have hk2 : (uk W == 1) = false := by simpa using hk
  clear h hk
  go_enter Try.func18, Try.ntmps18
  go_wp2_with fail
  refine (rdec_good W w h0 h1 HH.out).mono ?_
  rintro e w1 ⟨rfl, hb1⟩
  have K := hide hb1
  have X := hide (Ent.new w1 (uk W) (un W) (f3 W) (f4 W) (f5 W) (f6 W))
  clear hb1
  obtain ⟨x0, x1, x2, x3, x4, x5⟩ := Ent.cells X.out
  obtain ⟨q0, q1, q2, q3, q4, q5⟩ := Ent.free X.out
  go_wp2_with fail
  go_ret2
  exact ⟨rfl, bal K.out _⟩
set_option maxHeartbeats 1000000 in
theorem rmark_access (W : Int) (h0 : 0 ≤ W) (h1 : W < 18446744073709551616) (h : good W = true) (hk : uk W = 1) (hw : f3 W = false) : Two 18 #[.int .u64 W, .bool true] 0 12 := by
  intro w
  have HH := hide h
  have HK := hide hk
  have hk1 : (uk W != 1) = false := by simpa using hk
  have hk2 : (uk W == 1) = true := by simpa using hk
  clear h hk
  go_enter Try.func18, Try.ntmps18
  go_wp2_with fail
  refine (rdec_good W w h0 h1 HH.out).mono ?_
  rintro e w1 ⟨rfl, hb1⟩
  have K := hide hb1
  have X := hide (Ent.new w1 (uk W) (un W) (f3 W) (f4 W) (f5 W) (f6 W))
  clear hb1
  obtain ⟨x0, x1, x2, x3, x4, x5⟩ := Ent.cells X.out
  obtain ⟨q0, q1, q2, q3, q4, q5⟩ := Ent.free X.out
  go_wp2_with fail
  go_ret2
  exact ⟨rfl, bal K.out _⟩
set_option maxHeartbeats 1000000 in
theorem rmark_write (W : Int) (h0 : 0 ≤ W) (h1 : W < 18446744073709551616) (h : good W = true) (hk : uk W = 1) (hw : f3 W = true) : Two 18 #[.int .u64 W, .bool true] (word0 (uk W) (un W) (f3 W) true true (f6 W)) 0 := by
  intro w
  have HH := hide h
  have HK := hide hk
  have hk1 : (uk W != 1) = false := by simpa using hk
  have hk2 : (uk W == 1) = true := by simpa using hk
  clear h hk
  go_enter Try.func18, Try.ntmps18
  go_wp2_with fail
  refine (rdec_good W w h0 h1 HH.out).mono ?_
  rintro e w1 ⟨rfl, hb1⟩
  have K := hide hb1
  have X := hide (Ent.new w1 (uk W) (un W) (f3 W) (f4 W) (f5 W) (f6 W))
  clear hb1
  obtain ⟨x0, x1, x2, x3, x4, x5⟩ := Ent.cells X.out
  obtain ⟨q0, q1, q2, q3, q4, q5⟩ := Ent.free X.out
  go_wp2_with fail
  go_ret2
  exact ⟨ret_pair (or48_word HH.out h0 h1) rfl, bal K.out _⟩
set_option maxHeartbeats 1000000 in
theorem rmark_read (W : Int) (h0 : 0 ≤ W) (h1 : W < 18446744073709551616) (h : good W = true) (hk : uk W = 1) : Two 18 #[.int .u64 W, .bool false] (word0 (uk W) (un W) (f3 W) true (f5 W) (f6 W)) 0 := by
  intro w
  have HH := hide h
  have HK := hide hk
  have hk1 : (uk W != 1) = false := by simpa using hk
  have hk2 : (uk W == 1) = true := by simpa using hk
  clear h hk
  go_enter Try.func18, Try.ntmps18
  go_wp2_with fail
  refine (rdec_good W w h0 h1 HH.out).mono ?_
  rintro e w1 ⟨rfl, hb1⟩
  have K := hide hb1
  have X := hide (Ent.new w1 (uk W) (un W) (f3 W) (f4 W) (f5 W) (f6 W))
  clear hb1
  obtain ⟨x0, x1, x2, x3, x4, x5⟩ := Ent.cells X.out
  obtain ⟨q0, q1, q2, q3, q4, q5⟩ := Ent.free X.out
  go_wp2_with fail
  go_ret2
  exact ⟨ret_pair (or16_word HH.out h0 h1) rfl, bal K.out _⟩
set_option maxHeartbeats 1000000 in
theorem rold_bad (W : Int) (h0 : 0 ≤ W) (h1 : W < 18446744073709551616) (h : good W = false) : Two 20 #[.int .u64 W] 0 3 := by
  intro w
  have HH := hide h
  clear h
  go_enter Try.func20, Try.ntmps20
  go_wp2_with fail
  refine (rdec_bad W w h0 h1 HH.out).mono ?_
  rintro e w1 ⟨rfl, hb1⟩
  have K := hide hb1
  have X := hide (Ent.new w1 0 0 false false false false)
  clear hb1
  obtain ⟨x0, x1, x2, x3, x4, x5⟩ := Ent.cells X.out
  obtain ⟨q0, q1, q2, q3, q4, q5⟩ := Ent.free X.out
  go_wp2_with fail
  go_ret2
  exact ⟨rfl, bal K.out _⟩
set_option maxHeartbeats 1000000 in
theorem rold_kind (W : Int) (h0 : 0 ≤ W) (h1 : W < 18446744073709551616) (h : good W = true) (hk : uk W ≠ 1) : Two 20 #[.int .u64 W] 0 11 := by
  intro w
  have HH := hide h
  have hk1 : (uk W != 1) = true := by simpa using hk
  have hk2 : (uk W == 1) = false := by simpa using hk
  clear h hk
  go_enter Try.func20, Try.ntmps20
  go_wp2_with fail
  refine (rdec_good W w h0 h1 HH.out).mono ?_
  rintro e w1 ⟨rfl, hb1⟩
  have K := hide hb1
  have X := hide (Ent.new w1 (uk W) (un W) (f3 W) (f4 W) (f5 W) (f6 W))
  clear hb1
  obtain ⟨x0, x1, x2, x3, x4, x5⟩ := Ent.cells X.out
  obtain ⟨q0, q1, q2, q3, q4, q5⟩ := Ent.free X.out
  go_wp2_with fail
  go_ret2
  exact ⟨rfl, bal K.out _⟩
set_option maxHeartbeats 1000000 in
theorem rold_ok (W : Int) (h0 : 0 ≤ W) (h1 : W < 18446744073709551616) (h : good W = true) (hk : uk W = 1) : Two 20 #[.int .u64 W] (word0 (uk W) (un W) (f3 W) false (f5 W) (f6 W)) 0 := by
  intro w
  have HH := hide h
  have HK := hide hk
  have hk1 : (uk W != 1) = false := by simpa using hk
  have hk2 : (uk W == 1) = true := by simpa using hk
  clear h hk
  go_enter Try.func20, Try.ntmps20
  go_wp2_with fail
  refine (rdec_good W w h0 h1 HH.out).mono ?_
  rintro e w1 ⟨rfl, hb1⟩
  have K := hide hb1
  have X := hide (Ent.new w1 (uk W) (un W) (f3 W) (f4 W) (f5 W) (f6 W))
  clear hb1
  obtain ⟨x0, x1, x2, x3, x4, x5⟩ := Ent.cells X.out
  obtain ⟨q0, q1, q2, q3, q4, q5⟩ := Ent.free X.out
  go_wp2_with fail
  refine (enc_ok (err_old HH.out HK.out) (renc_any _ _ _ _ _ _ _)).mono ?_
  rintro e w2 ⟨rfl, hb2⟩
  have K2 := hide (btrans (bal K.out _) hb2)
  clear hb2 x0 x1 x2 x3 x4 x5 q0 q1 q2 q3 q4 q5
  go_wp2_with fail
  go_ret2
  exact ⟨rfl, K2.out⟩
set_option maxHeartbeats 1000000 in
theorem rprot_bad (W : Int) (h0 : 0 ≤ W) (h1 : W < 18446744073709551616) (h : good W = false) : Two 22 #[.int .u64 W] 0 3 := by
  intro w
  have HH := hide h
  clear h
  go_enter Try.func22, Try.ntmps22
  go_wp2_with fail
  refine (rdec_bad W w h0 h1 HH.out).mono ?_
  rintro e w1 ⟨rfl, hb1⟩
  have K := hide hb1
  have X := hide (Ent.new w1 0 0 false false false false)
  clear hb1
  obtain ⟨x0, x1, x2, x3, x4, x5⟩ := Ent.cells X.out
  obtain ⟨q0, q1, q2, q3, q4, q5⟩ := Ent.free X.out
  go_wp2_with fail
  go_ret2
  exact ⟨rfl, bal K.out _⟩
set_option maxHeartbeats 1000000 in
theorem rprot_kind (W : Int) (h0 : 0 ≤ W) (h1 : W < 18446744073709551616) (h : good W = true) (hk : ¬ (uk W = 1 ∨ uk W = 3)) : Two 22 #[.int .u64 W] 0 11 := by
  intro w
  have HH := hide h
  have hk1 : (uk W != 1) = true := by simp; omega
  have hk3 : (uk W != 3) = true := by simp; omega
  clear h hk
  go_enter Try.func22, Try.ntmps22
  go_wp2_with fail
  refine (rdec_good W w h0 h1 HH.out).mono ?_
  rintro e w1 ⟨rfl, hb1⟩
  have K := hide hb1
  have X := hide (Ent.new w1 (uk W) (un W) (f3 W) (f4 W) (f5 W) (f6 W))
  clear hb1
  obtain ⟨x0, x1, x2, x3, x4, x5⟩ := Ent.cells X.out
  obtain ⟨q0, q1, q2, q3, q4, q5⟩ := Ent.free X.out
  go_wp2_with fail
  go_ret2
  exact ⟨rfl, bal K.out _⟩
set_option maxHeartbeats 1000000 in
theorem rprot_page (W : Int) (h0 : 0 ≤ W) (h1 : W < 18446744073709551616) (h : good W = true) (hk : uk W = 1) : Two 22 #[.int .u64 W] (word0 (uk W) (un W) false (f4 W) (f5 W) (f6 W)) 0 := by
  intro w
  have HH := hide h
  have HK := hide hk
  have hk1 : (uk W != 1) = false := by simpa using hk
  have hk2 : (uk W == 1) = true := by simpa using hk
  clear h hk
  go_enter Try.func22, Try.ntmps22
  go_wp2_with fail
  refine (rdec_good W w h0 h1 HH.out).mono ?_
  rintro e w1 ⟨rfl, hb1⟩
  have K := hide hb1
  have X := hide (Ent.new w1 (uk W) (un W) (f3 W) (f4 W) (f5 W) (f6 W))
  clear hb1
  obtain ⟨x0, x1, x2, x3, x4, x5⟩ := Ent.cells X.out
  obtain ⟨q0, q1, q2, q3, q4, q5⟩ := Ent.free X.out
  go_wp2_with fail
  refine (enc_ok (err_prot HH.out (.inl HK.out)) (renc_any _ _ _ _ _ _ _)).mono ?_
  rintro e w2 ⟨rfl, hb2⟩
  have K2 := hide (btrans (bal K.out _) hb2)
  clear hb2 x0 x1 x2 x3 x4 x5 q0 q1 q2 q3 q4 q5
  go_wp2_with fail
  go_ret2
  exact ⟨rfl, K2.out⟩
set_option maxHeartbeats 1000000 in
theorem rprot_move (W : Int) (h0 : 0 ≤ W) (h1 : W < 18446744073709551616) (h : good W = true) (hk : uk W = 3) : Two 22 #[.int .u64 W] (word0 (uk W) (un W) false (f4 W) (f5 W) (f6 W)) 0 := by
  intro w
  have HH := hide h
  have HK := hide hk
  have hk1 : (uk W != 1) = true := by simp [hk]
  have hk3 : (uk W != 3) = false := by simp [hk]
  clear h hk
  go_enter Try.func22, Try.ntmps22
  go_wp2_with fail
  refine (rdec_good W w h0 h1 HH.out).mono ?_
  rintro e w1 ⟨rfl, hb1⟩
  have K := hide hb1
  have X := hide (Ent.new w1 (uk W) (un W) (f3 W) (f4 W) (f5 W) (f6 W))
  clear hb1
  obtain ⟨x0, x1, x2, x3, x4, x5⟩ := Ent.cells X.out
  obtain ⟨q0, q1, q2, q3, q4, q5⟩ := Ent.free X.out
  go_wp2_with fail
  refine (enc_ok (err_prot HH.out (.inr HK.out)) (renc_any _ _ _ _ _ _ _)).mono ?_
  rintro e w2 ⟨rfl, hb2⟩
  have K2 := hide (btrans (bal K.out _) hb2)
  clear hb2 x0 x1 x2 x3 x4 x5 q0 q1 q2 q3 q4 q5
  go_wp2_with fail
  go_ret2
  exact ⟨rfl, K2.out⟩
set_option maxHeartbeats 1000000 in
theorem part_bad (W i : Int) (h0 : 0 ≤ W) (h1 : W < 18446744073709551616) (h : good W = false) : Two 23 #[.int .u64 W, .int .i64 i] 0 3 := by
  intro w
  have HH := hide h
  clear h
  go_enter Try.func23, Try.ntmps23
  go_wp2_with fail
  refine (dec_bad W w h0 h1 HH.out).mono ?_
  rintro e w1 ⟨rfl, hb1⟩
  have K := hide hb1
  have X := hide (Ent.new w1 0 0 false false false false)
  clear hb1
  obtain ⟨x0, x1, x2, x3, x4, x5⟩ := Ent.cells X.out
  obtain ⟨q0, q1, q2, q3, q4, q5⟩ := Ent.free X.out
  go_wp2_with fail
  go_ret2
  exact ⟨rfl, bal K.out _⟩
set_option maxHeartbeats 1000000 in
theorem part_state (W i : Int) (h0 : 0 ≤ W) (h1 : W < 18446744073709551616) (h : good W = true) (hu : f6 W = false) : Two 23 #[.int .u64 W, .int .i64 i] 0 11 := by
  intro w
  have HH := hide h
  clear h
  go_enter Try.func23, Try.ntmps23
  go_wp2_with fail
  refine (dec_good W w h0 h1 HH.out).mono ?_
  rintro e w1 ⟨rfl, hb1⟩
  have K := hide hb1
  have X := hide (Ent.new w1 (uk W) (un W) (f3 W) (f4 W) (f5 W) (f6 W))
  clear hb1
  obtain ⟨x0, x1, x2, x3, x4, x5⟩ := Ent.cells X.out
  obtain ⟨q0, q1, q2, q3, q4, q5⟩ := Ent.free X.out
  go_wp2_with fail
  go_ret2
  exact ⟨rfl, bal K.out _⟩
set_option maxHeartbeats 1000000 in
theorem part_low (W i : Int) (h0 : 0 ≤ W) (h1 : W < 18446744073709551616) (h : good W = true) (hu : f6 W = true) (hi : i < 0) : Two 23 #[.int .u64 W, .int .i64 i] 0 2 := by
  intro w
  have HH := hide h
  have hk1 : (uk W != 1) = false := by simp [huge_kind h hu]
  have HU := hide hu
  clear h
  go_enter Try.func23, Try.ntmps23
  go_wp2_with fail
  refine (dec_good W w h0 h1 HH.out).mono ?_
  rintro e w1 ⟨rfl, hb1⟩
  have K := hide hb1
  have X := hide (Ent.new w1 (uk W) (un W) (f3 W) (f4 W) (f5 W) (f6 W))
  clear hb1
  obtain ⟨x0, x1, x2, x3, x4, x5⟩ := Ent.cells X.out
  obtain ⟨q0, q1, q2, q3, q4, q5⟩ := Ent.free X.out
  go_wp2_with fail
  go_ret2
  exact ⟨rfl, bal K.out _⟩
set_option maxHeartbeats 1000000 in
theorem part_high (W i : Int) (h0 : 0 ≤ W) (h1 : W < 18446744073709551616) (h : good W = true) (hu : f6 W = true) (hi : 8 ≤ i) : Two 23 #[.int .u64 W, .int .i64 i] 0 2 := by
  intro w
  have HH := hide h
  have hk1 : (uk W != 1) = false := by simp [huge_kind h hu]
  have HU := hide hu
  have hi2 : ¬ i < 0 := by omega
  clear h
  go_enter Try.func23, Try.ntmps23
  go_wp2_with fail
  refine (dec_good W w h0 h1 HH.out).mono ?_
  rintro e w1 ⟨rfl, hb1⟩
  have K := hide hb1
  have X := hide (Ent.new w1 (uk W) (un W) (f3 W) (f4 W) (f5 W) (f6 W))
  clear hb1
  obtain ⟨x0, x1, x2, x3, x4, x5⟩ := Ent.cells X.out
  obtain ⟨q0, q1, q2, q3, q4, q5⟩ := Ent.free X.out
  go_wp2_with fail
  go_ret2
  exact ⟨rfl, bal K.out _⟩
set_option maxHeartbeats 1000000 in
theorem part_ok (W i : Int) (h0 : 0 ≤ W) (h1 : W < 18446744073709551616) (h : good W = true) (hu : f6 W = true) (hi0 : 0 ≤ i) (hi1 : i < 8) : Two 23 #[.int .u64 W, .int .i64 i] (word0 (uk W) (un W + i) (f3 W) (f4 W) (f5 W) false) 0 := by
  intro w
  have HH := hide h
  have hk1 : (uk W != 1) = false := by simp [huge_kind h hu]
  have HU := hide hu
  obtain ⟨n0, n1⟩ := huge_num h hu
  clear h
  go_enter Try.func23, Try.ntmps23
  go_wp2_with fail
  refine (dec_good W w h0 h1 HH.out).mono ?_
  rintro e w1 ⟨rfl, hb1⟩
  have K := hide hb1
  have X := hide (Ent.new w1 (uk W) (un W) (f3 W) (f4 W) (f5 W) (f6 W))
  clear hb1
  obtain ⟨x0, x1, x2, x3, x4, x5⟩ := Ent.cells X.out
  obtain ⟨q0, q1, q2, q3, q4, q5⟩ := Ent.free X.out
  go_wp2_with fail
  refine (enc_ok (err_part HH.out HU.out hi0 hi1) (enc_any _ _ _ _ _ _ _)).mono ?_
  rintro e w2 ⟨rfl, hb2⟩
  have K2 := hide (btrans (bal K.out _) hb2)
  clear hb2 x0 x1 x2 x3 x4 x5 q0 q1 q2 q3 q4 q5
  go_wp2_with fail
  go_ret2
  exact ⟨rfl, K2.out⟩
set_option maxHeartbeats 1000000 in
theorem rpart_bad (W i : Int) (h0 : 0 ≤ W) (h1 : W < 18446744073709551616) (h : good W = false) : Two 24 #[.int .u64 W, .int .i64 i] 0 3 := by
  intro w
  have HH := hide h
  clear h
  go_enter Try.func24, Try.ntmps24
  go_wp2_with fail
  refine (rdec_bad W w h0 h1 HH.out).mono ?_
  rintro e w1 ⟨rfl, hb1⟩
  have K := hide hb1
  have X := hide (Ent.new w1 0 0 false false false false)
  clear hb1
  obtain ⟨x0, x1, x2, x3, x4, x5⟩ := Ent.cells X.out
  obtain ⟨q0, q1, q2, q3, q4, q5⟩ := Ent.free X.out
  go_wp2_with fail
  go_ret2
  exact ⟨rfl, bal K.out _⟩
set_option maxHeartbeats 1000000 in
theorem rpart_state1 (W i : Int) (h0 : 0 ≤ W) (h1 : W < 18446744073709551616) (h : good W = true) (hu : f6 W = false) (hk : uk W = 1) : Two 24 #[.int .u64 W, .int .i64 i] 0 11 := by
  intro w
  have HH := hide h
  have HK := hide hk
  have hk1 : (uk W != 1) = false := by simpa using hk
  have hk2 : (uk W == 1) = true := by simpa using hk
  clear h hk
  go_enter Try.func24, Try.ntmps24
  go_wp2_with fail
  refine (rdec_good W w h0 h1 HH.out).mono ?_
  rintro e w1 ⟨rfl, hb1⟩
  have K := hide hb1
  have X := hide (Ent.new w1 (uk W) (un W) (f3 W) (f4 W) (f5 W) (f6 W))
  clear hb1
  obtain ⟨x0, x1, x2, x3, x4, x5⟩ := Ent.cells X.out
  obtain ⟨q0, q1, q2, q3, q4, q5⟩ := Ent.free X.out
  go_wp2_with fail
  go_ret2
  exact ⟨rfl, bal K.out _⟩
set_option maxHeartbeats 1000000 in
theorem rpart_state2 (W i : Int) (h0 : 0 ≤ W) (h1 : W < 18446744073709551616) (h : good W = true) (hu : f6 W = false) (hk : uk W ≠ 1) : Two 24 #[.int .u64 W, .int .i64 i] 0 11 := by
  intro w
  have HH := hide h
  have hk1 : (uk W != 1) = true := by simpa using hk
  have hk2 : (uk W == 1) = false := by simpa using hk
  clear h hk
  go_enter Try.func24, Try.ntmps24
  go_wp2_with fail
  refine (rdec_good W w h0 h1 HH.out).mono ?_
  rintro e w1 ⟨rfl, hb1⟩
  have K := hide hb1
  have X := hide (Ent.new w1 (uk W) (un W) (f3 W) (f4 W) (f5 W) (f6 W))
  clear hb1
  obtain ⟨x0, x1, x2, x3, x4, x5⟩ := Ent.cells X.out
  obtain ⟨q0, q1, q2, q3, q4, q5⟩ := Ent.free X.out
  go_wp2_with fail
  go_ret2
  exact ⟨rfl, bal K.out _⟩
theorem rpart_state (W i : Int) (h0 : 0 ≤ W) (h1 : W < 18446744073709551616) (h : good W = true) (hu : f6 W = false) : Two 24 #[.int .u64 W, .int .i64 i] 0 11 := by
  rcases Classical.em (uk W = 1) with hk | hk
  · exact rpart_state1 W i h0 h1 h hu hk
  · exact rpart_state2 W i h0 h1 h hu hk
set_option maxHeartbeats 1000000 in
theorem rpart_low (W i : Int) (h0 : 0 ≤ W) (h1 : W < 18446744073709551616) (h : good W = true) (hu : f6 W = true) (hi : i < 0) : Two 24 #[.int .u64 W, .int .i64 i] 0 2 := by
  intro w
  have HH := hide h
  have hk1 : (uk W != 1) = false := by simp [huge_kind h hu]
  have HU := hide hu
  clear h
  go_enter Try.func24, Try.ntmps24
  go_wp2_with fail
  refine (rdec_good W w h0 h1 HH.out).mono ?_
  rintro e w1 ⟨rfl, hb1⟩
  have K := hide hb1
  have X := hide (Ent.new w1 (uk W) (un W) (f3 W) (f4 W) (f5 W) (f6 W))
  clear hb1
  obtain ⟨x0, x1, x2, x3, x4, x5⟩ := Ent.cells X.out
  obtain ⟨q0, q1, q2, q3, q4, q5⟩ := Ent.free X.out
  go_wp2_with fail
  go_ret2
  exact ⟨rfl, bal K.out _⟩
set_option maxHeartbeats 1000000 in
theorem rpart_high (W i : Int) (h0 : 0 ≤ W) (h1 : W < 18446744073709551616) (h : good W = true) (hu : f6 W = true) (hi : 8 ≤ i) : Two 24 #[.int .u64 W, .int .i64 i] 0 2 := by
  intro w
  have HH := hide h
  have hk1 : (uk W != 1) = false := by simp [huge_kind h hu]
  have HU := hide hu
  have hi2 : ¬ i < 0 := by omega
  clear h
  go_enter Try.func24, Try.ntmps24
  go_wp2_with fail
  refine (rdec_good W w h0 h1 HH.out).mono ?_
  rintro e w1 ⟨rfl, hb1⟩
  have K := hide hb1
  have X := hide (Ent.new w1 (uk W) (un W) (f3 W) (f4 W) (f5 W) (f6 W))
  clear hb1
  obtain ⟨x0, x1, x2, x3, x4, x5⟩ := Ent.cells X.out
  obtain ⟨q0, q1, q2, q3, q4, q5⟩ := Ent.free X.out
  go_wp2_with fail
  go_ret2
  exact ⟨rfl, bal K.out _⟩
set_option maxHeartbeats 1000000 in
theorem rpart_ok (W i : Int) (h0 : 0 ≤ W) (h1 : W < 18446744073709551616) (h : good W = true) (hu : f6 W = true) (hi0 : 0 ≤ i) (hi1 : i < 8) : Two 24 #[.int .u64 W, .int .i64 i] (word0 (uk W) (un W + i) (f3 W) (f4 W) (f5 W) false) 0 := by
  intro w
  have HH := hide h
  have hk1 : (uk W != 1) = false := by simp [huge_kind h hu]
  have HU := hide hu
  obtain ⟨n0, n1⟩ := huge_num h hu
  clear h
  go_enter Try.func24, Try.ntmps24
  go_wp2_with fail
  refine (rdec_good W w h0 h1 HH.out).mono ?_
  rintro e w1 ⟨rfl, hb1⟩
  have K := hide hb1
  have X := hide (Ent.new w1 (uk W) (un W) (f3 W) (f4 W) (f5 W) (f6 W))
  clear hb1
  obtain ⟨x0, x1, x2, x3, x4, x5⟩ := Ent.cells X.out
  obtain ⟨q0, q1, q2, q3, q4, q5⟩ := Ent.free X.out
  go_wp2_with fail
  refine (enc_ok (err_part HH.out HU.out hi0 hi1) (renc_any _ _ _ _ _ _ _)).mono ?_
  rintro e w2 ⟨rfl, hb2⟩
  have K2 := hide (btrans (bal K.out _) hb2)
  clear hb2 x0 x1 x2 x3 x4 x5 q0 q1 q2 q3 q4 q5
  go_wp2_with fail
  go_ret2
  exact ⟨rfl, K2.out⟩
end Go.Proofs.Ytacehgcgkpolhaa.Pt
