import Derived.Test.YtacehgcgkpolhaaArr
namespace Go.Proofs.Ytacehgcgkpolhaa.Pt
open Go Go.RowKit
set_option linter.unusedVariables false
set_option maxHeartbeats 4000000 in
theorem check_any (a : Nat → Int) (w : World) : Calls Try.prog 35 #[.agg (pgCells a)] w fun e w' => e = .returned (.int .i64 (chkR a)) ∧ Below w.heap.size w w' := by
  have PP := hide (Pg.new w 49 a)
  have KK := hide (bal (brefl w) (.cells (pgCells a) 49))
  go_enter Try.func35, Try.ntmps35
  go_wp2_with (refine wpList_load_row rfl 49 _ rfl w.heap.size rfl 49 (pgCells a) (0, 0) _ PP.out Try.underlying49 rfl (by kernel_rfl) ?_)
  go_loopw [4, 10] (fun _ i wr => ∃ k : Nat, k ≤ 8 ∧ i = .int .i64 k ∧ Hid (Below w.heap.size w wr) ∧ Hid (Pg wr w.heap.size 49 a) ∧ Hid (Ok8 (chk1 a) k)) (fun _ i _ => 8 - (intOf i).toNat)
  case atStart => exact ⟨0, by omega, rfl, KK, PP, hide (fun j hj => absurd hj (by omega))⟩
  case round =>
    clear KK PP
    obtain ⟨k, hk, rfl, KB, PB, OK⟩ := hrel
    by_cases hlt : k < 8
    · have hx := fun w => index_arr a k hlt w
      have b0 := un_bd (a 0)
      have b1 := un_bd (a k)
      obtain ⟨c0, c1, c2, c3, c4, c5⟩ := Pg.first PB.out
      cases hc : chk1 a k
      · have R := hide (chkR_1 hlt hc)
        have hd := chk1_f hc
        have PL := hide (Pg.lt PB.out)
        clear hc
        rcases hd with h1 | ⟨h1, h2⟩
        · go_wp2
          go_ret
          exact ⟨ret_int R.out, bal KB.out _⟩
        · go_wp2
          go_ret
          exact ⟨ret_int R.out, bal KB.out _⟩
      · obtain ⟨h1, h2⟩ := chk1_t hc
        have HC := hide hc
        have pl := Pg.lt PB.out
        clear hc
        go_wp2
        go_roundw
        case rel => exact ⟨k + 1, by omega, by go_num, hide (bal KB.out _), hide (Pg.below PB.out (bal (brefl _) _)), hide (OK.out.step HC.out)⟩
        case measure => simp [intOf]; omega
    · have A1 := hide (OK.out.all hlt)
      have KK := KB
      have PP := PB
      go_wp2_with (refine wpList_load_row rfl 49 _ rfl w.heap.size rfl 49 (pgCells a) (0, 0) _ PB.out Try.underlying49 rfl (by kernel_rfl) ?_)
      clear KB PB OK hk hlt
      rename World => wp
      go_loopw [5, 6, 22] (fun _ _ i wr => ∃ k : Nat, k ≤ 8 ∧ i = .int .i64 k ∧ Hid (Below w.heap.size w wr) ∧ Hid (Pg wr w.heap.size 49 a) ∧ Hid (Ok8 (chk2 a) k)) (fun _ _ i _ => 8 - (intOf i).toNat)
      case atStart => exact ⟨0, by omega, rfl, KK, PP, hide (fun j hj => absurd hj (by omega))⟩
      case round =>
        clear KK PP
        obtain ⟨k, hk, rfl, KB, PB, OK⟩ := hrel
        by_cases hlt : k < 8
        · have hx := fun w => index_arr a k hlt w
          have b0 := un_bd (a 0)
          have b1 := un_bd (a k)
          obtain ⟨c0, c1, c2, c3, c4, c5⟩ := Pg.first PB.out
          cases hc : chk2 a k
          · have R := hide (chkR_2 A1.out hlt hc)
            have h1 := chk2_f hc
            have pl := Pg.lt PB.out
            clear hc
            go_wp2
            go_ret
            exact ⟨ret_int R.out, bal KB.out _⟩
          · have h1 := chk2_t hc
            have HC := hide hc
            have pl := Pg.lt PB.out
            clear hc
            go_wp2
            go_roundw
            case rel => exact ⟨k + 1, by omega, by go_num, hide (bal KB.out _), hide (Pg.below PB.out (bal (brefl _) _)), hide (OK.out.step HC.out)⟩
            case measure => simp [intOf]; omega
        · have A2 := hide (OK.out.all hlt)
          have KK := KB
          have PP := PB
          go_wp2_with (refine wpList_load_row rfl 49 _ rfl w.heap.size rfl 49 (pgCells a) (0, 0) _ PB.out Try.underlying49 rfl (by kernel_rfl) ?_)
          clear KB PB OK hk hlt
          rename World => wq
          go_loopw [8, 36] (fun _ i wr => ∃ k : Nat, k ≤ 8 ∧ i = .int .i64 k ∧ Hid (Below w.heap.size w wr) ∧ Hid (Pg wr w.heap.size 49 a) ∧ Hid (Ok8 (chk3 a) k)) (fun _ i _ => 8 - (intOf i).toNat)
          case atStart => exact ⟨0, by omega, rfl, KK, PP, hide (fun j hj => absurd hj (by omega))⟩
          case round =>
            clear KK PP
            obtain ⟨k, hk, rfl, KB, PB, OK⟩ := hrel
            by_cases hlt : k < 8
            · have hx := fun w => index_arr a k hlt w
              have b0 := un_bd (a 0)
              have b1 := un_bd (a k)
              obtain ⟨c0, c1, c2, c3, c4, c5⟩ := Pg.first PB.out
              cases hc : chk3 a k
              · have R := hide (chkR_3 A1.out A2.out hlt hc)
                have h1 := chk3_f hc
                have pl := Pg.lt PB.out
                clear hc
                go_wp2
                go_ret
                exact ⟨ret_int R.out, bal KB.out _⟩
              · have h1 := chk3_t hc
                have HC := hide hc
                have pl := Pg.lt PB.out
                clear hc
                go_wp2
                go_roundw
                case rel => exact ⟨k + 1, by omega, by go_num, hide (bal KB.out _), hide (Pg.below PB.out (bal (brefl _) _)), hide (OK.out.step HC.out)⟩
                case measure => simp [intOf]; omega
            · have A3 := hide (OK.out.all hlt)
              go_wp2
              go_ret
              exact ⟨ret_int (chkR_0 A1.out A2.out A3.out), KB.out⟩



end Go.Proofs.Ytacehgcgkpolhaa.Pt
