import Derived.Test.YtimclgmajhhheaaG2
namespace Go.Proofs.Ytimclgmajhhheaa.Gr
open Go Go.RowKit Ac
set_option linter.unusedVariables false
set_option linter.unusedSimpArgs false
theorem info77 : (Try.prog.info? 77).map (fun i => i.zero) = some (some (.agg (Array.replicate 8 (.bool false)))) := by kernel_rfl
theorem zero77 (w : World) : (zeroValue 77).run Try.prog w = .ok (.agg (Array.replicate 8 (.bool false))) w := by
  have h := info77
  rw [Option.map_eq_some_iff] at h
  obtain ⟨i, hi, hz⟩ := h
  simp [zeroValue, typeInfo, hi, hz]
/-- which processes have asks among the first k -/
def SnB (w : World) (g : Nat) (Q : List A4) (k : Nat) : Prop := w.rowIs g 77 8 (fun j => .bool (!decide (freeP Q k (j : Int))))
theorem SnB.below {w w' : World} {g k : Nat} {Q : List A4} (h : SnB w g Q k) (hb : Below w.heap.size w w') : SnB w' g Q k := World.rowIs.of_block h (hb.block g (World.rowIs.lt h))
theorem SnB.made (w : World) (Q : List A4) : SnB (w.alloc (.cells (Array.replicate 8 (.bool false)) 77)) w.heap.size Q 0 := by
  have h := World.rowIs_alloc w (Array.replicate 8 (.bool false)) 77 (fun j => .bool (!decide (freeP Q 0 (j : Int)))) (fun i hi => by
    have hi' : i < 8 := by simpa using hi
    rw [Array.getElem?_replicate, if_pos hi', decide_eq_true (show freeP Q 0 (i : Int) from fun k hk => by omega)]; rfl)
  unfold SnB
  simpa using h
theorem SnB.on {w : World} {g k n : Nat} {Q : List A4} (h : SnB w g Q k) (hp : (qAt Q k).pc = (n : Int)) : SnB (w.setCell ⟨g, n, none⟩ (.bool true)) g Q (k + 1) := (World.rowIs.set h n (.bool true)).congr fun i hi => by
  have e : freeP Q (k + 1) (i : Int) ↔ freeP Q k (i : Int) ∧ i ≠ n := ⟨fun g => ⟨fun j hj => g j (by omega), fun c => g k (by omega) (by rw [hp, c])⟩, fun g j hj => if c : j = k then (by rw [c, hp]; have := g.2; omega) else g.1 j (by omega)⟩
  by_cases c : i = n
  · rw [if_pos c, decide_eq_false (fun g => (e.1 g).2 c)]; rfl
  · rw [if_neg c]
    by_cases f : freeP Q k (i : Int)
    · rw [decide_eq_true f, decide_eq_true (e.2 ⟨f, c⟩)]
    · rw [decide_eq_false f, decide_eq_false (fun g => f (e.1 g).1)]
set_option maxRecDepth 100000 in
set_option maxHeartbeats 8000000 in
theorem qcheck_any (A : Option Addr) (cp : Nat) (Q : List A4) (w : World) (hr : Qs w A Q) (hn : Q.length ≤ 9223372036854775807) : Calls Try.prog 19 #[.slice A Q.length cp] w (fun e w' => e = .returned (.int .i64 (ckQ Q)) ∧ Below w.heap.size w w') := by
  have HR := hide hr
  have BC := hide (bad_cont A cp Q w hr hn)
  have K := hide (brefl w)
  clear hr
  by_cases ha : aok Q
  rotate_left 1
  · rw [ckQ_2 ha]
    rw [decide_eq_false ha] at BC
    clear ha
    go_enter Try.func19, Try.ntmps19
    go_wp2_with fail
    refine (BC.out).mono ?_
    rintro e w2 ⟨rfl, hb⟩
    replace K := hide (btrans K.out hb)
    clear hb
    go_wp2
    go_ret
    exact ⟨rfl, K.out⟩
  have OK := hide ha
  have E7 := hide (fun h => ckQ_7 ha h)
  have E0 := hide (fun h => ckQ_0 ha h)
  rw [decide_eq_true ha] at BC
  obtain ⟨ce, hce⟩ : ∃ c, c = ckQ Q := ⟨_, rfl⟩
  rw [← hce] at E7 E0 ⊢
  clear ha hce
  go_enter Try.func19, Try.ntmps19
  go_wp2_with fail
  refine (BC.out).mono ?_
  rintro e w2 ⟨rfl, hb⟩
  replace K := hide (btrans K.out hb)
  clear hb
  go_upto_region 3 with fail
  obtain ⟨zz, hzz⟩ : ∃ zz : Array Value, zz = Array.replicate 8 (.bool false) := ⟨_, rfl⟩
  have z77 : ∀ w, (zeroValue 77).run Try.prog w = .ok (.agg zz) w := fun w => by rw [hzz]; exact zero77 w
  obtain ⟨b3, hb3⟩ : ∃ g, g = w2.heap.size := ⟨_, rfl⟩
  have X := hide (show SnB (w2.alloc (.cells zz 77)) b3 Q 0 by rw [hzz, hb3]; exact SnB.made w2 Q)
  have M := bal (brefl w2) (.cells zz 77)
  have HB3 := hide (show w.heap.size ≤ b3 by rw [hb3]; exact K.out.size)
  replace K := hide (btrans K.out M)
  clear M hzz
  go_upto_region 4 with fail
  rw [← hb3]
  generalize w2.alloc (.cells zz 77) = w3 at *
  clear z77 hb3
  go_wp2
  go_loopw [10] (fun i wr => ∃ k : Nat, k ≤ Q.length ∧ i = .int .i64 k ∧ Hid (Below w.heap.size w wr) ∧ Hid (SnB wr b3 Q k) ∧ Hid (∀ j, j < k → freeP Q j (qAt Q j).pc)) (fun i _ => Q.length - (intOf i).toNat)
  case atStart => exact ⟨0, Nat.zero_le _, rfl, K, X, hide (fun j h => by omega)⟩
  case round =>
    clear K X
    obtain ⟨k, hk, rfl, K, X, N⟩ := hrel
    by_cases hlt : k < Q.length
    · have hl2 : (k : Int) < (Q.length : Int) := by omega
      have hk0 : (0 : Int) ≤ (k : Int) := by omega
      obtain ⟨b, off, rfl, hbl, y0, y1, y2, y3⟩ := HR.out.cells K.out hlt
      have oq := (OK.out k hlt).1
      have NX := hide (fun (h : freeP Q k (qAt Q k).pc) j (hj : j < k + 1) => (if e : j = k then e ▸ h else N.out j (by omega) : freeP Q j (qAt Q j).pc))
      have BD := hide (fun (h : ¬ freeP Q k (qAt Q k).pc) => E7.out (fun g => h (g k hlt)))
      have XO := hide (fun (w1 : World) (h : SnB w1 b3 Q k) (n : Nat) (e : (qAt Q k).pc = n) => h.on e)
      obtain ⟨a, ha⟩ : ∃ a, a = qAt Q k := ⟨_, rfl⟩
      rw [← ha] at y0 y1 y2 y3 oq NX BD XO
      clear ha
      obtain ⟨pc, ac, ke, us⟩ := a
      dsimp only at y0 y1 y2 y3 oq NX BD XO
      obtain ⟨n, rfl⟩ := Int.eq_ofNat_of_zero_le oq.1
      have hn8 : n < 8 := by omega
      have hn0 : (0 : Int) ≤ (n : Int) := by omega
      have hn7 : (n : Int) < 8 := by omega
      clear oq
      have M := bal (brefl wr) (.cells #[.int .i64 n, .int .i64 ac, .int .i64 ke, .int .i64 us] 27)
      have Y := hide (QB.new wr n ac ke us)
      replace K := hide (btrans K.out M)
      replace X := hide (X.out.below M)
      clear M
      go_upto_region 7 with fail
      obtain ⟨bq, hbq⟩ : ∃ q, q = wr.heap.size := ⟨_, rfl⟩
      rw [← hbq] at Y ⊢
      clear hbq y0 y1 y2 y3
      generalize wr.alloc (.cells #[.int .i64 n, .int .i64 ac, .int .i64 ke, .int .i64 us] 27) = wa at *
      obtain ⟨y0, y1, y2, y3⟩ := QB.cells Y.out
      have c0 := World.rowIs.cell X.out hn8
      have f0 := World.rowIs.frozen X.out n
      by_cases hf : freeP Q k (n : Int)
      · rw [decide_eq_true hf] at c0
        have c1 : wa.cell? ⟨b3, n, none⟩ = some (.bool false) := c0
        have NX2 := hide (NX.out hf)
        clear c0 hf BD NX
        go_upto_region 10 with fail
        replace X := hide (XO.out _ X.out n rfl)
        replace K := hide (bset K.out (p := ⟨b3, n, none⟩) HB3.out (.bool true))
        generalize wa.setCell ⟨b3, n, none⟩ (.bool true) = wb at *
        clear c1 f0 y0 y1 y2 y3 Y
        go_wp2
        go_roundw
        case rel => exact ⟨k + 1, by omega, by go_num, K, X, NX2⟩
        case measure => simp [intOf]; omega
      · rw [decide_eq_false hf] at c0
        have c1 : wa.cell? ⟨b3, n, none⟩ = some (.bool true) := c0
        have BD2 := hide (BD.out hf)
        clear c0 hf NX
        go_wp2
        go_ret
        exact ⟨ret_int BD2.out.symm, K.out⟩
    · obtain rfl : k = Q.length := by omega
      have E := hide (E0.out (fun j hj => N.out j hj))
      go_wp2
      go_ret
      exact ⟨ret_int E.out.symm, K.out⟩
/-- the first ask of a process, -1 if there is none -/
def AtP (Q : List A4) (p : Int) (w : World) (e : Ending) (w' : World) : Prop := ∃ i : Int, e = .returned (.int .i64 i) ∧ ((i = -1 ∧ freeP Q Q.length p) ∨ (∃ j : Nat, j < Q.length ∧ i = j ∧ (qAt Q j).pc = p ∧ freeP Q j p)) ∧ w = w'
set_option maxRecDepth 100000 in
set_option maxHeartbeats 8000000 in
theorem at_any (A : Option Addr) (cp : Nat) (Q : List A4) (p : Int) (w : World) (hr : Qs w A Q) (hn : Q.length ≤ 9223372036854775807) : Calls Try.prog 64 #[.slice A Q.length cp, .int .i64 p] w (AtP Q p w) := by
  have HR := hide hr
  clear hr
  go_enter Try.func64, Try.ntmps64
  go_wp2
  go_loop [5] (fun c => ∃ k : Nat, k ≤ Q.length ∧ c = .int .i64 k ∧ Hid (freeP Q k p)) (fun c => Q.length - (intOf c).toNat)
  case atStart => exact ⟨0, Nat.zero_le _, rfl, hide (fun j h => by omega)⟩
  case round =>
    obtain ⟨k, hk, rfl, N⟩ := hrel
    by_cases hlt : k < Q.length
    · have hl2 : (k : Int) < (Q.length : Int) := by omega
      have hk0 : (0 : Int) ≤ (k : Int) := by omega
      obtain ⟨b, off, rfl, hbl, y0, -, -, -⟩ := HR.out.cells (brefl w) hlt
      have HK := hide hlt
      by_cases hq : (qAt Q k).pc = p
      · have G := hide hq
        rw [hq] at y0
        clear hq
        go_wp2
        go_ret
        exact ⟨k, rfl, .inr ⟨k, HK.out, rfl, G.out, N.out⟩, rfl⟩
      · have G := hide (show freeP Q (k + 1) p from fun j hj => if e : j = k then e ▸ hq else N.out j (by omega))
        have hb2 : ((qAt Q k).pc == p) = false := beq_eq_false_iff_ne.2 hq
        clear hq
        generalize (qAt Q k).pc = pk at *
        go_wp2
        go_round
        case rel => exact ⟨k + 1, by omega, by go_num, G⟩
        case measure => simp [intOf]; omega
    · obtain rfl : k = Q.length := by omega
      go_wp2
      go_ret
      exact ⟨-1, rfl, .inl ⟨rfl, N.out⟩, rfl⟩
set_option maxRecDepth 100000 in
set_option maxHeartbeats 8000000 in
theorem rqcheck_any (A : Option Addr) (cp : Nat) (Q : List A4) (w : World) (hr : Qs w A Q) (hn : Q.length ≤ 9223372036854775807) : Calls Try.prog 20 #[.slice A Q.length cp] w (fun e w' => e = .returned (.int .i64 (ckQ Q)) ∧ Below w.heap.size w w') := by
  have HR := hide hr
  have AT := hide (fun p w' (h : Below w.heap.size w w') => at_any A cp Q p w' (hr.below h) hn)
  have K := hide (brefl w)
  have E2 := hide (fun (h : ¬ aok Q) => ckQ_2 h)
  have E7 := hide (fun (h1 : aok Q) (h : ¬ dst Q) => ckQ_7 h1 h)
  have E0 := hide (fun (h1 : aok Q) (h : dst Q) => ckQ_0 h1 h)
  obtain ⟨ce, hce⟩ : ∃ c, c = ckQ Q := ⟨_, rfl⟩
  rw [← hce] at E7 E0 E2 ⊢
  clear hr hce
  go_enter Try.func20, Try.ntmps20
  go_wp2
  go_loopw [3] (fun i wr => ∃ k : Nat, k ≤ Q.length ∧ i = .int .i64 k ∧ Hid (Below w.heap.size w wr) ∧ Hid (∀ j, j < k → okQ (qAt Q j))) (fun i _ => Q.length - (intOf i).toNat)
  case atStart => exact ⟨0, Nat.zero_le _, rfl, K, hide (fun j h => by omega)⟩
  case round =>
    clear K
    obtain ⟨k, hk, rfl, K, N⟩ := hrel
    by_cases hlt : k < Q.length
    · have hl2 : (k : Int) < (Q.length : Int) := by omega
      have hk0 : (0 : Int) ≤ (k : Int) := by omega
      obtain ⟨b, off, rfl, hbl, y0, y1, y2, y3⟩ := HR.out.cells K.out hlt
      have NX := hide (fun (h : okQ (qAt Q k)) j (hj : j < k + 1) => (if e : j = k then e ▸ h else N.out j (by omega) : okQ (qAt Q j)))
      have BD := hide (fun (h : ¬ okQ (qAt Q k)) => E2.out (fun g => h (g k hlt)))
      obtain ⟨a, ha⟩ : ∃ a, a = qAt Q k := ⟨_, rfl⟩
      rw [← ha] at y0 y1 y2 y3 NX BD
      clear ha
      obtain ⟨pc, ac, ke, us⟩ := a
      dsimp only at y0 y1 y2 y3
      have C := hide (rval_any pc ac ke us wr)
      by_cases hq : okQ ⟨pc, ac, ke, us⟩
      · rw [decide_eq_true hq] at C
        have G := hide (NX.out hq)
        clear hq NX BD
        go_wp2_with fail
        refine (C.out).mono ?_
        rintro e w2 ⟨rfl, hb⟩
        replace K := hide (btrans K.out hb)
        clear hb
        clear y0 y1 y2 y3
        go_wp2
        go_roundw
        case rel => exact ⟨k + 1, by omega, by go_num, K, G⟩
        case measure => simp [intOf]; omega
      · rw [decide_eq_false hq] at C
        have G := hide (BD.out hq)
        clear hq NX BD
        go_wp2_with fail
        refine (C.out).mono ?_
        rintro e w2 ⟨rfl, hb⟩
        replace K := hide (btrans K.out hb)
        clear hb
        go_wp2
        go_ret
        exact ⟨ret_int G.out.symm, K.out⟩
    · obtain rfl : k = Q.length := by omega
      have OK := hide (show aok Q from N.out)
      clear N hlt
      go_wp2
      go_loopw [4] (fun i wr => ∃ k : Nat, k ≤ Q.length ∧ i = .int .i64 k ∧ Hid (Below w.heap.size w wr) ∧ Hid (∀ j, j < k → freeP Q j (qAt Q j).pc)) (fun i _ => Q.length - (intOf i).toNat)
      case atStart => exact ⟨0, Nat.zero_le _, rfl, K, hide (fun j h => by omega)⟩
      case round =>
        clear K
        obtain ⟨k, hk, rfl, K, N⟩ := hrel
        by_cases hlt : k < Q.length
        · have hl2 : (k : Int) < (Q.length : Int) := by omega
          have hk0 : (0 : Int) ≤ (k : Int) := by omega
          have ATK := hide (AT.out (qAt Q k).pc _ K.out)
          obtain ⟨b, off, rfl, hbl, y0, -, -, -⟩ := HR.out.cells K.out hlt
          have HK := hide hlt
          go_wp2_with fail
          refine ATK.out.mono ?_
          rintro e w' ⟨i, rfl, hi, rfl⟩
          rcases hi with ⟨_, hfr⟩ | ⟨j, hj, rfl, hjp, hjf⟩
          · exact absurd rfl (hfr k HK.out)
          · have hjk : j ≤ k := by
              rcases Nat.lt_or_ge k j with g | g
              · exact absurd rfl (hjf k g)
              · exact g
            by_cases hjk2 : j < k
            · have G := hide (E7.out OK.out (fun g => g k HK.out j hjk2 hjp))
              have hd : decide ((j : Int) < (k : Int)) = true := decide_eq_true (by omega)
              clear hjp hjf
              go_wp2
              go_ret
              exact ⟨ret_int G.out.symm, K.out⟩
            · obtain rfl : j = k := by omega
              have G := hide (fun i (hi : i < j + 1) => (if e : i = j then e ▸ hjf else N.out i (by omega) : freeP Q i (qAt Q i).pc))
              clear hjp hjf hjk2
              go_wp2
              go_roundw
              case rel => exact ⟨j + 1, by omega, by go_num, K, G⟩
              case measure => simp [intOf]; omega
        · obtain rfl : k = Q.length := by omega
          have E := hide (E0.out OK.out (fun j hj => N.out j hj))
          go_wp2
          go_ret
          exact ⟨ret_int E.out.symm, K.out⟩
end Go.Proofs.Ytimclgmajhhheaa.Gr
