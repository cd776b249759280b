import Derived.Test.YtnegigcjeoenmaaRd4
namespace Go.Proofs.Ytnegigcjeoenmaa.Dv
open Go Go.RowKit
set_option linter.unusedVariables false
theorem quE_at {n : Nat} {nx : Int} {L : List Rq} {k : Nat} (hk : k < L.length) (h : ∀ j, j < k → q1E n nx L j = 0) (hb : q1E n nx L k ≠ 0) : quE n nx L = q1E n nx L k := firstBad_at hk h hb
theorem quE_ok {n : Nat} {nx : Int} {L : List Rq} (h : ∀ j, j < L.length → q1E n nx L j = 0) : quE n nx L = 0 := firstBad_none h
theorem q1E_id {n : Nat} {nx : Int} {L : List Rq} {j : Nat} (h : q1E n nx L j = 0) : 0 ≤ (qAt L j).1 := by
  unfold q1E at h
  by_cases c : rqE n (qAt L j) = 0
  · rw [if_pos c] at h
    by_cases d : (qAt L j).1 < 0 ∨ nx ≤ (qAt L j).1 ∨ (0 < j ∧ (qAt L j).1 ≤ (qAt L (j - 1)).1)
    · rw [if_pos d] at h; simp at h
    · omega
  · rw [if_neg c] at h; exact absurd h c
/-- the number of the request before the k-th, -1 before the first -/
def befQ (L : List Rq) (k : Nat) : Int := if k = 0 then -1 else (qAt L (k - 1)).1
theorem q1E_bef {n : Nat} {nx : Int} {L : List Rq} {k : Nat} (h : ∀ j, j < k → q1E n nx L j = 0) (hr : rqE n (qAt L k) = 0) :
    q1E n nx L k = if (qAt L k).1 ≤ befQ L k ∨ nx ≤ (qAt L k).1 then 10 else 0 := by
  unfold q1E befQ
  rw [if_pos hr]
  by_cases e : k = 0
  · subst e
    simp only [if_true]
    by_cases c : (qAt L 0).1 < 0 ∨ nx ≤ (qAt L 0).1
    · rw [if_pos (by omega), if_pos (by omega)]
    · rw [if_neg (by omega), if_neg (by omega)]
  · have := q1E_id (h (k - 1) (by omega))
    rw [if_neg e]
    by_cases c : (qAt L k).1 ≤ (qAt L (k - 1)).1 ∨ nx ≤ (qAt L k).1
    · rw [if_pos (by omega), if_pos (by omega)]
    · rw [if_neg (by omega), if_neg (by omega)]
set_option maxHeartbeats 4000000 in
theorem chkqu_any (dep nxt : Int) (Ab : Option Addr) (nb cb : Nat) (Ac : Option Addr) (nc cc : Nat) (A : Option Addr) (L : List Rq) (c : Nat) (w : World) (hr : RdQ w A L) (hn : L.length ≤ 9223372036854775807) :
    Calls Try.prog 41 #[dv dep nxt Ab nb cb Ac nc cc A L.length c] w fun e w' => e = .returned (.int .i64 (if dep < (L.length : Int) then 8 else quE nb nxt L)) ∧ Below w.heap.size w w' := by
  have X := hide (Box.new w 28 #[.int .i64 dep, .int .i64 nxt, .slice Ab nb cb, .slice Ac nc cc, .slice A L.length c])
  have K0 := hide (bal (brefl w) (.cells #[.int .i64 dep, .int .i64 nxt, .slice Ab nb cb, .slice Ac nc cc, .slice A L.length c] 28))
  have HR := hide (hr.below K0.out)
  have RQ := hide (fun i k b A' l c' w => chkrq_any dep nxt Ab nb cb Ac nc cc A L.length c i k b A' l c' w)
  clear hr
  by_cases hf : dep < (L.length : Int)
  · rw [if_pos hf]
    clear RQ HR X
    go_enter Try.func41, Try.ntmps41
    go_wp2
    go_ret
    exact ⟨rfl, K0.out⟩
  rw [if_neg hf]
  go_enter Try.func41, Try.ntmps41
  go_wp2
  obtain ⟨wb, hwb⟩ : ∃ wb, wb = w.alloc (.cells #[.int .i64 dep, .int .i64 nxt, .slice Ab nb cb, .slice Ac nc cc, .slice A L.length c] 28) := ⟨_, rfl⟩
  rw [← hwb] at X K0 HR ⊢
  clear hwb
  go_loopw [3, 5, 6, 16] (fun p _ _ i wr => ∃ k : Nat, k ≤ L.length ∧ i = .int .i64 k ∧ p = .int .i64 (befQ L k) ∧ Hid (∀ j, j < k → q1E nb nxt L j = 0) ∧ Hid (Below wb.heap.size wb wr)) (fun _ _ _ i _ => L.length - (intOf i).toNat)
  case atStart => exact ⟨0, Nat.zero_le _, rfl, rfl, hide fun j hj => absurd hj (Nat.not_lt_zero _), hide (brefl _)⟩
  case round =>
    obtain ⟨k, hk, rfl, rfl, HA, K⟩ := hrel
    by_cases hlt : k < L.length
    · obtain ⟨b, off, v, rfl, hbl, c0, c1, c2, c3, A1, d1, rfl, _, _⟩ := HR.out.cells K.out hlt
      have N1 := hide (fun h => quE_at hlt HA.out h)
      have NX := hide (show befQ L (k + 1) = (qAt L k).1 by unfold befQ; rw [if_neg (by omega)]; rfl)
      have NG := hide (show q1E nb nxt L k = 0 → ∀ j, j < k + 1 → q1E nb nxt L j = 0 from fun h j hj => by
        by_cases e : j = k
        · rw [e]; exact h
        · exact HA.out j (by omega))
      have QB := hide (fun h => q1E_bef (n := nb) (nx := nxt) (L := L) (k := k) HA.out h)
      have QR := hide (show rqE nb (qAt L k) ≠ 0 → q1E nb nxt L k = rqE nb (qAt L k) from fun h => by unfold q1E; rw [if_neg h])
      have RR := hide (show rqE nb (qAt L k) = reqE nb (qAt L k).2.1 (qAt L k).2.2.1 (qAt L k).2.2.2.length from rfl)
      obtain ⟨⟨z0, z1, z2, z3⟩, hz⟩ : ∃ q, q = qAt L k := ⟨_, rfl⟩
      rw [← hz] at c0 c1 c2 c3 NX QB QR RR
      simp only at c0 c1 c2 c3
      have XB := hide ((X.out.below K.out).more (.cells #[.int .i64 z0, .int .i64 z1, .int .i64 z2, .slice A1 z3.length d1] 39))
      have YB := hide (Box.new wr 39 #[.int .i64 z0, .int .i64 z1, .int .i64 z2, .slice A1 z3.length d1])
      have KA := hide (bal K.out (.cells #[.int .i64 z0, .int .i64 z1, .int .i64 z2, .slice A1 z3.length d1] 39))
      have hlw := Nat.lt_of_lt_of_le X.out.lt K.out.size
      obtain ⟨er, her⟩ : ∃ er, er = reqE nb z1 z2 z3.length := ⟨_, rfl⟩
      have C := hide (fun w => RQ.out z0 z1 z2 A1 z3 d1 w)
      rw [← her] at C
      have HER := hide her
      generalize befQ L k = bq at *
      obtain ⟨q0, q1⟩ : wr.cell? ⟨w.heap.size, 0, none⟩ = some (.int .i64 dep) ∧ wr.cell? ⟨w.heap.size, 1, none⟩ = some (.int .i64 nxt) := ⟨(X.out.below K.out).cell 0, (X.out.below K.out).cell 1⟩
      have q2 : wr.cell? ⟨w.heap.size, 2, none⟩ = some (.slice Ab nb cb) := (X.out.below K.out).cell 2
      have q3 : wr.cell? ⟨w.heap.size, 3, none⟩ = some (.slice Ac nc cc) := (X.out.below K.out).cell 3
      have q4 : wr.cell? ⟨w.heap.size, 4, none⟩ = some (.slice (some ⟨b, off, none⟩) L.length c) := (X.out.below K.out).cell 4
      clear hz her
      by_cases he : er = 0
      · subst he
        have R0 := hide (show rqE nb (z0, z1, z2, z3) = 0 by rw [RR.out]; exact HER.out.symm)
        have QQ := hide (QB.out R0.out)
        clear QB QR RR
        by_cases hd1 : z0 ≤ bq
        · have E := hide (show quE nb nxt L = 10 by rw [N1.out (by rw [QQ.out, if_pos (.inl hd1)]; decide), QQ.out, if_pos (.inl hd1)])
          have hdd : decide (z0 ≤ bq) = true := decide_eq_true hd1
          clear N1 NG QQ NX
          go_wp2_with fail
          refine (C.out _).mono ?_
          rintro e w1 ⟨rfl, hb⟩
          have K1 := hide hb
          have y0 := (YB.out.below hb).cell 0
          simp at y0
          clear hb
          go_wp2
          go_ret
          exact ⟨ret_int E.out.symm, btrans K0.out (btrans KA.out K1.out)⟩
        · have hdd : decide (z0 ≤ bq) = false := decide_eq_false hd1
          by_cases hd2 : nxt ≤ z0
          · have E := hide (show quE nb nxt L = 10 by rw [N1.out (by rw [QQ.out, if_pos (.inr hd2)]; decide), QQ.out, if_pos (.inr hd2)])
            have hde : decide (nxt ≤ z0) = true := decide_eq_true hd2
            clear N1 NG QQ NX
            go_wp2_with fail
            refine (C.out _).mono ?_
            rintro e w1 ⟨rfl, hb⟩
            have K1 := hide hb
            have y0 := (YB.out.below hb).cell 0
            have x1 := (XB.out.below hb).cell 1
            simp at y0 x1
            clear hb
            go_wp2
            go_ret
            exact ⟨ret_int E.out.symm, btrans K0.out (btrans KA.out K1.out)⟩
          · have hde : decide (nxt ≤ z0) = false := decide_eq_false hd2
            have E := hide (NG.out (by rw [QQ.out, if_neg (by omega)]))
            clear N1 NG QQ
            go_wp2_with fail
            refine (C.out _).mono ?_
            rintro e w1 ⟨rfl, hb⟩
            have K1 := hide hb
            have y0 := (YB.out.below hb).cell 0
            have x1 := (XB.out.below hb).cell 1
            simp at y0 x1
            clear hb
            go_wp2
            go_roundw
            case rel => exact ⟨k + 1, by omega, by go_num, by rw [NX.out], E, hide (btrans KA.out K1.out)⟩
            case measure => simp [intOf]; omega
      · have E := hide (show quE nb nxt L = er by
          have e1 : q1E nb nxt L k = er := (QR.out (by rw [RR.out]; rw [HER.out] at he; exact he)).trans (RR.out.trans HER.out.symm)
          rw [N1.out (by rw [e1]; exact he), e1])
        have hd : (er != 0) = true := by simpa using he
        clear N1 NG NX QB QR RR HER he
        go_wp2_with fail
        refine (C.out _).mono ?_
        rintro e w1 ⟨rfl, hb⟩
        have K1 := hide hb
        clear hb
        go_wp2
        go_ret
        exact ⟨ret_int E.out.symm, btrans K0.out (btrans KA.out K1.out)⟩
    · have E := hide (quE_ok (n := nb) (nx := nxt) (L := L) fun j hj => HA.out j (by omega))
      go_wp2
      go_ret
      exact ⟨ret_int E.out.symm, btrans K0.out K.out⟩
end Go.Proofs.Ytnegigcjeoenmaa.Dv
