import Derived.Test.YtncdilkcblakhaaF2
namespace Go.Proofs.Ytncdilkcblakhaa.In
open Go Go.RowKit
set_option linter.unusedVariables false
set_option linter.unusedSimpArgs false
def eB (s m : Int) : By := if eE s m = 0 then blk s m else []
/-- what Encode answers -/
def EnR (s m : Int) (w : World) (e : Ending) (w' : World) : Prop := ∃ A c, e = .returned (.tuple #[.slice A (eB s m).length c, .int .i64 (eE s m)]) ∧ OwB w.heap.size w' (.slice A (eB s m).length c) (eB s m) ∧ Below w.heap.size w w'
theorem fin_list (s m x y z : Int) (hy : y = m % 256) (hz : z = m / 256) (hx : x = ckb s m) : ((((c32.set 4 s).set 5 y).set 6 z).set 7 x) = blk s m := by
  subst hx hy hz; rfl
theorem en_no {s m : Int} {w w' : World} (h : eE s m ≠ 0) (hb : Below w.heap.size w w') : EnR s m w (.returned (.tuple #[.slice none 0 0, .int .i64 (eE s m)])) w' := by
  have e : eB s m = [] := if_neg h
  refine ⟨none, 0, ?_, ?_, hb⟩
  · rw [e]; rfl
  · rw [e]; exact OwB.nil _ _
theorem Below.setRow' {w w' : World} {g : Nat} (hb : Below w.heap.size w w') (hg : w.heap.size ≤ g) (cs : Array Value) : Below w.heap.size w (w'.setRow g cs) := below_setRow hb hg cs
theorem Bk.row {w : World} {g : Nat} {l : By} (h : Bk w g l) (l2 : By) : Bk (w.setRow g ((l2.map bc).toArray)) g l2 := setRow_heap w g _ _ 5 (0, 0) h
set_option maxRecDepth 100000 in
set_option maxHeartbeats 4000000 in
theorem enc_any (s m : Int) (w : World) : Calls Try.prog 14 #[.int .i64 s, .int .i64 m] w (EnR s m w) := by
  have C1 := hide (fun w => issize_any s w)
  by_cases h12 : 0 ≤ s ∧ s ≤ 16
  · have C2 := hide (fun w => ismask_any m s w h12)
    rw [decide_eq_true h12] at C1
    by_cases h34 : 0 ≤ m ∧ m < 2 ^ s.toNat
    · rw [decide_eq_true h34] at C2
      have E0 := eE_of h12 h34
      have EB : eB s m = blk s m := if_pos E0
      have bd := eE_bd E0
      have MK := fun w => makeB w
      have u1 : IntKind.u8.wrap s = s := by rw [IntKind.wrap_u8']; omega
      have u2 : IntKind.u8.wrap m = m % 256 := IntKind.wrap_u8' m
      have u3 : IntKind.u8.wrap (m / 256) = m / 256 := by rw [IntKind.wrap_u8']; omega
      have EN := hide (show EnR s m w = fun e w' => ∃ A c, e = .returned (.tuple #[.slice A 32 c, .int .i64 0]) ∧ OwB w.heap.size w' (.slice A 32 c) (blk s m) ∧ Below w.heap.size w w' by
        funext e w'; unfold EnR; rw [EB, E0, blk_len])
      rw [EN.out]
      have HBY := hide (blk_byt E0)
      clear h34 E0 EN EB
      go_enter Try.func14, Try.ntmps14
      go_wp2_with fail
      refine (C1.out _).mono ?_
      rintro e w' ⟨rfl, rfl⟩
      go_wp2_with fail
      refine (C2.out _).mono ?_
      rintro e w' ⟨rfl, rfl⟩
      have X := hide (bk_new w)
      have K := hide (bal (brefl w) (.cells Z32 5))
      have CP := copy_run X.out
      clear C1 C2
      go_upto_region 6 with fail
      obtain ⟨g, hg⟩ : ∃ g, g = w.heap.size := ⟨_, rfl⟩
      have HG := hide (show w.heap.size ≤ g by omega)
      rw [← hg] at X CP ⊢
      clear hg
      generalize w.alloc (.cells Z32 5) = w1 at *
      go_upto_region 7 with fail
      replace K := hide (Below.setRow' K.out HG.out ((c32.map bc).toArray))
      replace X := hide (X.out.row c32)
      clear CP
      generalize w1.setRow g ((c32.map bc).toArray) = w2 at *
      have x4 := X.out.cell (i := 4) (by decide)
      have f4 := X.out.frozen 4
      have hgw := Box.lt X.out
      go_upto_region 8 with fail
      replace K := hide (bset K.out (p := ⟨g, 4, none⟩) HG.out (.int .u8 s))
      replace X := hide (X.out.put 4 s)
      clear x4 f4 hgw
      generalize w2.setCell ⟨g, 4, none⟩ (.int .u8 s) = w3 at *
      have x5 := X.out.cell (i := 5) (by simp [c32])
      have f5 := X.out.frozen 5
      have x6 := X.out.cell (i := 6) (by simp [c32])
      have f6 := X.out.frozen 6
      have hgw := Box.lt X.out
      go_upto_region 9 with fail
      replace K := hide (bset (bset K.out (p := ⟨g, 5, none⟩) HG.out (.int .u8 (m % 256))) (p := ⟨g, 6, none⟩) HG.out (.int .u8 (m / 256)))
      replace X := hide ((X.out.put 5 (m % 256)).put 6 (m / 256))
      clear x5 f5 x6 f6 hgw
      generalize (w3.setCell ⟨g, 5, none⟩ (.int .u8 (m % 256))).setCell ⟨g, 6, none⟩ (.int .u8 (m / 256)) = w4 at *
      have C3 := hide (check_any (some ⟨g, 0, none⟩) 32 [73, 78, 79, 68, s, m % 256, m / 256] w4 (X.out.bs 7) (by simp) (by
        intro x hx
        simp only [List.mem_cons, List.not_mem_nil, or_false] at hx
        omega))
      have x7 := X.out.cell (i := 7) (by simp [c32])
      have f7 := X.out.frozen 7
      have hgw := Box.lt X.out
      have SMX : sm [73, 78, 79, 68, s, m % 256, m / 256] 7 % 251 = ckb s m := by
        simp only [sm, ckb, List.take, List.sum_cons, List.sum_nil]
        congr 1
        omega
      change Hid (Calls Try.prog 38 #[.slice (some ⟨g, 0, none⟩) 7 32] w4 fun e w' => e = .returned (.int .u8 (sm [73, 78, 79, 68, s, m % 256, m / 256] 7 % 251)) ∧ w4 = w') at C3
      rw [SMX] at C3
      clear SMX
      go_wp2_with (go_at_call 38; refine C3.out.mono ?_; rintro e w' ⟨rfl, rfl⟩)
      replace K := hide (bset K.out (p := ⟨g, 7, none⟩) HG.out (.int .u8 (ckb s m)))
      replace X := hide (X.out.put 7 (ckb s m))
      clear x7 f7 hgw C3
      rw [fin_list s m _ _ _ rfl rfl rfl] at X
      go_ret2
      refine ⟨_, _, rfl, ?_, K.out⟩
      have := X.out.own HG.out (by rw [blk_len]; omega)
      rwa [blk_len] at this
    · rw [decide_eq_false h34] at C2
      have E0 : eE s m = 3 := by unfold eE; rw [if_neg (by omega), if_pos h34]
      have EN := hide (fun w' (hb : Below w.heap.size w w') => en_no (s := s) (m := m) (by rw [E0]; omega) hb)
      rw [E0] at EN
      clear h34 E0
      go_enter Try.func14, Try.ntmps14
      go_wp2_with fail
      refine (C1.out _).mono ?_
      rintro e w' ⟨rfl, rfl⟩
      go_wp2_with fail
      refine (C2.out _).mono ?_
      rintro e w' ⟨rfl, rfl⟩
      go_wp2
      go_ret2
      exact EN.out _ (brefl _)
  · rw [decide_eq_false h12] at C1
    have E0 : eE s m = 2 := by unfold eE; rw [if_pos h12]
    have EN := hide (fun w' (hb : Below w.heap.size w w') => en_no (s := s) (m := m) (by rw [E0]; omega) hb)
    rw [E0] at EN
    clear h12 E0
    go_enter Try.func14, Try.ntmps14
    go_wp2_with fail
    refine (C1.out _).mono ?_
    rintro e w' ⟨rfl, rfl⟩
    go_wp2
    go_ret2
    exact EN.out _ (brefl _)
end Go.Proofs.Ytncdilkcblakhaa.In
