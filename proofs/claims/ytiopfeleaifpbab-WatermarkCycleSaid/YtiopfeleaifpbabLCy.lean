import Derived.Test.YtiopfeleaifpbabAw
import Derived.Test.YtiopfeleaifpbabW7
namespace Go.Proofs.Ytiopfeleaifpbab.Bd
open Go Go.RowKit
set_option linter.unusedVariables false
set_option linter.unusedSimpArgs false
set_option maxRecDepth 100000 in
set_option maxHeartbeats 8000000 in
theorem law_cycle (m : Mk) (A : Option Addr) (cp : Nat) (l : Is) (w : World) (hr : Bi w A l) (hc : l.length ≤ cp) (hn : l.length ≤ 9223372036854775807) : Calls Try.prog 8 #[.agg #[.int .i64 m.lo, .int .i64 m.md, .int .i64 m.hi], .slice A l.length cp] w fun e w' => e = .returned (.bool true) ∧ Below w.heap.size w w' := by
  have AW := hide (fun W => awake_any W)
  have CK := hide (fun W => chk_any m W)
  have WA := hide (fun (x : Int) (r : Bool) W => wak_any m x r W)
  have HR := hide hr
  have WO := hide (fun (h : okM m) (f : Int) (r : Bool) => wk_ok h f r)
  have WN := hide (fun (h : ¬ okM m) (f : Int) (r : Bool) => (show wkM m f r = false by unfold wkM; exact decide_eq_false fun x => h x.1))
  have CZ := hide (chkM_zero (m := m))
  have MO := hide (show okM m → m.md ≤ m.hi from fun h => h.2.2)
  clear hr
  obtain ⟨g2, hg⟩ : ∃ g, g = w.heap.size := ⟨_, rfl⟩
  by_cases h60 : l.length ≤ 60
  · have d60 : decide ((60 : Int) < (l.length : Int)) = false := decide_eq_false (by omega)
    by_cases hok : okM m
    · have c0 := CZ.out.2 hok
      have hmh := MO.out hok
      have WE0 := hide (fun f r => WO.out hok f r)
      rw [c0] at CK
      clear WO WN CZ MO hok c0
      generalize wkM m = wk at *
      obtain ⟨lo, md, hi⟩ := m
      simp only at hmh WE0 CK WA
      show Calls Try.prog 8 #[.agg #[.int .i64 lo, .int .i64 md, .int .i64 hi], .slice A l.length cp] w _
      obtain ⟨W0, hW0⟩ : ∃ W0, W0 = w.alloc (.cells #[.int .i64 lo, .int .i64 md, .int .i64 hi] 23) := ⟨_, rfl⟩
      have X2 := hide (show Box W0 g2 23 #[.int .i64 lo, .int .i64 md, .int .i64 hi] by rw [hW0, hg]; exact Box.new w 23 _)
      have K := hide (show Below w.heap.size w W0 by rw [hW0]; exact bal (brefl w) _)
      go_enter Try.func8, Try.ntmps8
      go_upto_region 1 with fail
      rw [← hW0, ← hg]
      clear hW0 hg
      go_upto_region 3 with (go_at_call 10; refine (AW.out _).mono ?_; rintro e w1 ⟨rfl, hb⟩; replace X2 := hide (X2.out.below hb); replace K := hide (btrans K.out hb); clear hb; have x0 : w1.cell? ⟨g2, 0, none⟩ = some (.int .i64 lo) := X2.out.cell 0; have x1 : w1.cell? ⟨g2, 1, none⟩ = some (.int .i64 md) := X2.out.cell 1; have x2 : w1.cell? ⟨g2, 2, none⟩ = some (.int .i64 hi) := X2.out.cell 2)
      go_wp2_with fail
      refine (CK.out _).mono ?_
      rintro e w3 ⟨rfl, hb⟩
      replace X2 := hide (X2.out.below hb); replace K := hide (btrans K.out hb); clear hb
      clear x0 x1 x2
      go_wp2
      go_loopw [5, 25] (fun s a wr => ∃ (k : Nat) (r : Bool), k ≤ l.length ∧ s = .bool r ∧ a = .int .i64 k ∧ Hid (Box wr g2 23 #[.int .i64 lo, .int .i64 md, .int .i64 hi]) ∧ Hid (Below w.heap.size w wr)) (fun _ a _ => l.length - (intOf a).toNat)
      case atStart => exact ⟨0, false, Nat.zero_le _, rfl, rfl, X2, K⟩
      case round =>
        clear X2 K
        obtain ⟨k, r, hk, rfl, rfl, X2, K⟩ := hrel
        by_cases hlt : k < l.length
        · obtain ⟨b, off, rfl, hbl, c0⟩ := HR.out.at_ K.out hlt
          have hl2 : (k : Int) < (l.length : Int) := by omega
          have hk0 : (0 : Int) ≤ (k : Int) := by omega
          obtain ⟨n, hnn⟩ : ∃ n, n = l.getD k 0 := ⟨_, rfl⟩
          rw [← hnn] at c0
          clear hnn
          have WK := hide (WA.out n r wr)
          by_cases h1 : n < md
          · have WE := hide (show wk n r = true by rw [WE0.out]; exact decide_eq_true (.inl h1))
            have h2 : ¬ md ≤ n := by omega
            have h3 : n < hi := by omega
            have h4 : ¬ hi ≤ n := by omega
            rw [WE.out] at WK
            clear WE
            go_upto_region 9 with fail
            have x0 : wr.cell? ⟨g2, 0, none⟩ = some (.int .i64 lo) := X2.out.cell 0; have x1 : wr.cell? ⟨g2, 1, none⟩ = some (.int .i64 md) := X2.out.cell 1; have x2 : wr.cell? ⟨g2, 2, none⟩ = some (.int .i64 hi) := X2.out.cell 2
            go_wp2_with fail
            refine WK.out.mono ?_
            rintro e w5 ⟨rfl, hb⟩
            replace X2 := hide (X2.out.below hb); replace K := hide (btrans K.out hb); clear hb
            clear x0 x1 x2
            have x0 : w5.cell? ⟨g2, 0, none⟩ = some (.int .i64 lo) := X2.out.cell 0; have x1 : w5.cell? ⟨g2, 1, none⟩ = some (.int .i64 md) := X2.out.cell 1; have x2 : w5.cell? ⟨g2, 2, none⟩ = some (.int .i64 hi) := X2.out.cell 2
            go_wp2
            go_roundw
            case rel => exact ⟨k + 1, true, by omega, rfl, by go_num, X2, K⟩
            case measure => simp [intOf]; omega
          · have h2 : md ≤ n := by omega
            by_cases h3 : n < hi
            · have h4 : ¬ hi ≤ n := by omega
              have WE := hide (show wk n r = r by rw [WE0.out]; cases r <;> simp [h1, h3])
              cases r
              · rw [WE.out] at WK
                clear WE
                go_upto_region 9 with fail
                have x0 : wr.cell? ⟨g2, 0, none⟩ = some (.int .i64 lo) := X2.out.cell 0; have x1 : wr.cell? ⟨g2, 1, none⟩ = some (.int .i64 md) := X2.out.cell 1; have x2 : wr.cell? ⟨g2, 2, none⟩ = some (.int .i64 hi) := X2.out.cell 2
                go_wp2_with fail
                refine WK.out.mono ?_
                rintro e w5 ⟨rfl, hb⟩
                replace X2 := hide (X2.out.below hb); replace K := hide (btrans K.out hb); clear hb
                clear x0 x1 x2
                have x0 : w5.cell? ⟨g2, 0, none⟩ = some (.int .i64 lo) := X2.out.cell 0; have x1 : w5.cell? ⟨g2, 1, none⟩ = some (.int .i64 md) := X2.out.cell 1; have x2 : w5.cell? ⟨g2, 2, none⟩ = some (.int .i64 hi) := X2.out.cell 2
                go_wp2
                go_roundw
                case rel => exact ⟨k + 1, false, by omega, rfl, by go_num, X2, K⟩
                case measure => simp [intOf]; omega
              · rw [WE.out] at WK
                clear WE
                go_upto_region 9 with fail
                have x0 : wr.cell? ⟨g2, 0, none⟩ = some (.int .i64 lo) := X2.out.cell 0; have x1 : wr.cell? ⟨g2, 1, none⟩ = some (.int .i64 md) := X2.out.cell 1; have x2 : wr.cell? ⟨g2, 2, none⟩ = some (.int .i64 hi) := X2.out.cell 2
                go_wp2_with fail
                refine WK.out.mono ?_
                rintro e w5 ⟨rfl, hb⟩
                replace X2 := hide (X2.out.below hb); replace K := hide (btrans K.out hb); clear hb
                clear x0 x1 x2
                have x0 : w5.cell? ⟨g2, 0, none⟩ = some (.int .i64 lo) := X2.out.cell 0; have x1 : w5.cell? ⟨g2, 1, none⟩ = some (.int .i64 md) := X2.out.cell 1; have x2 : w5.cell? ⟨g2, 2, none⟩ = some (.int .i64 hi) := X2.out.cell 2
                go_wp2
                go_roundw
                case rel => exact ⟨k + 1, true, by omega, rfl, by go_num, X2, K⟩
                case measure => simp [intOf]; omega
            · have h4 : hi ≤ n := by omega
              have WE := hide (show wk n r = false by rw [WE0.out]; simp [h1, h3])
              rw [WE.out] at WK
              clear WE
              go_upto_region 9 with fail
              have x0 : wr.cell? ⟨g2, 0, none⟩ = some (.int .i64 lo) := X2.out.cell 0; have x1 : wr.cell? ⟨g2, 1, none⟩ = some (.int .i64 md) := X2.out.cell 1; have x2 : wr.cell? ⟨g2, 2, none⟩ = some (.int .i64 hi) := X2.out.cell 2
              go_wp2_with fail
              refine WK.out.mono ?_
              rintro e w5 ⟨rfl, hb⟩
              replace X2 := hide (X2.out.below hb); replace K := hide (btrans K.out hb); clear hb
              clear x0 x1 x2
              have x0 : w5.cell? ⟨g2, 0, none⟩ = some (.int .i64 lo) := X2.out.cell 0; have x1 : w5.cell? ⟨g2, 1, none⟩ = some (.int .i64 md) := X2.out.cell 1; have x2 : w5.cell? ⟨g2, 2, none⟩ = some (.int .i64 hi) := X2.out.cell 2
              go_wp2
              go_roundw
              case rel => exact ⟨k + 1, false, by omega, rfl, by go_num, X2, K⟩
              case measure => simp [intOf]; omega
        · obtain rfl : k = l.length := by omega
          go_wp2
          go_ret
          exact ⟨rfl, K.out⟩
    · have c0 : ¬ chkM m = 0 := fun h => hok (CZ.out.1 h)
      have d0 : (chkM m != 0) = true := by simpa using c0
      have WK := hide (fun W => WA.out 0 true W)
      rw [WN.out hok 0 true] at WK
      generalize chkM m = ce at *
      clear WO WN CZ MO hok WA
      obtain ⟨lo, md, hi⟩ := m
      simp only at CK WK
      show Calls Try.prog 8 #[.agg #[.int .i64 lo, .int .i64 md, .int .i64 hi], .slice A l.length cp] w _
      obtain ⟨W0, hW0⟩ : ∃ W0, W0 = w.alloc (.cells #[.int .i64 lo, .int .i64 md, .int .i64 hi] 23) := ⟨_, rfl⟩
      have X2 := hide (show Box W0 g2 23 #[.int .i64 lo, .int .i64 md, .int .i64 hi] by rw [hW0, hg]; exact Box.new w 23 _)
      have K := hide (show Below w.heap.size w W0 by rw [hW0]; exact bal (brefl w) _)
      go_enter Try.func8, Try.ntmps8
      go_upto_region 1 with fail
      rw [← hW0, ← hg]
      clear hW0 hg
      go_upto_region 3 with (go_at_call 10; refine (AW.out _).mono ?_; rintro e w1 ⟨rfl, hb⟩; replace X2 := hide (X2.out.below hb); replace K := hide (btrans K.out hb); clear hb; have x0 : w1.cell? ⟨g2, 0, none⟩ = some (.int .i64 lo) := X2.out.cell 0; have x1 : w1.cell? ⟨g2, 1, none⟩ = some (.int .i64 md) := X2.out.cell 1; have x2 : w1.cell? ⟨g2, 2, none⟩ = some (.int .i64 hi) := X2.out.cell 2)
      go_wp2_with fail
      refine (CK.out _).mono ?_
      rintro e w3 ⟨rfl, hb⟩
      replace X2 := hide (X2.out.below hb); replace K := hide (btrans K.out hb); clear hb
      clear x0 x1 x2
      have x0 : w3.cell? ⟨g2, 0, none⟩ = some (.int .i64 lo) := X2.out.cell 0; have x1 : w3.cell? ⟨g2, 1, none⟩ = some (.int .i64 md) := X2.out.cell 1; have x2 : w3.cell? ⟨g2, 2, none⟩ = some (.int .i64 hi) := X2.out.cell 2
      go_wp2_with (go_at_call 17; refine (WK.out _).mono ?_; rintro e w4 ⟨rfl, hb⟩)
      go_ret
      exact ⟨rfl, btrans K.out hb⟩
  · have d60 : decide ((60 : Int) < (l.length : Int)) = true := decide_eq_true (by omega)
    obtain ⟨lo, md, hi⟩ := m
    show Calls Try.prog 8 #[.agg #[.int .i64 lo, .int .i64 md, .int .i64 hi], .slice A l.length cp] w _
    obtain ⟨W0, hW0⟩ : ∃ W0, W0 = w.alloc (.cells #[.int .i64 lo, .int .i64 md, .int .i64 hi] 23) := ⟨_, rfl⟩
    have X2 := hide (show Box W0 g2 23 #[.int .i64 lo, .int .i64 md, .int .i64 hi] by rw [hW0, hg]; exact Box.new w 23 _)
    have K := hide (show Below w.heap.size w W0 by rw [hW0]; exact bal (brefl w) _)
    go_enter Try.func8, Try.ntmps8
    go_upto_region 1 with fail
    rw [← hW0, ← hg]
    clear hW0 hg
    go_upto_region 2 with (go_at_call 10; refine (AW.out _).mono ?_; rintro e w1 ⟨rfl, hb⟩; replace X2 := hide (X2.out.below hb); replace K := hide (btrans K.out hb); clear hb; have x0 : w1.cell? ⟨g2, 0, none⟩ = some (.int .i64 lo) := X2.out.cell 0; have x1 : w1.cell? ⟨g2, 1, none⟩ = some (.int .i64 md) := X2.out.cell 1; have x2 : w1.cell? ⟨g2, 2, none⟩ = some (.int .i64 hi) := X2.out.cell 2)
    go_wp2_with (go_at_call 10; refine (AW.out _).mono ?_; rintro e w3 ⟨rfl, hb⟩)
    go_ret
    exact ⟨rfl, btrans K.out hb⟩
end Go.Proofs.Ytiopfeleaifpbab.Bd
