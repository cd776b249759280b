import Derived.Test.YtiopfeleaifpbaaL1
namespace Go.Proofs.Ytiopfeleaifpbaa.Bd
open Go Go.RowKit Go.Sort Go.Lib
set_option linter.unusedVariables false
set_option linter.unusedSimpArgs false
/-- zones and a node are in order -/
def vl (Z : List Zo) (n : Int) : Bool := decide (chE Z = 0 ∧ 0 ≤ n ∧ n < 4)
theorem vl_no {Z : List Zo} {n : Int} (h : ¬ (chE Z = 0 ∧ 0 ≤ n ∧ n < 4)) : vl Z n = false := decide_eq_false h
theorem vl_bad {Z : List Zo} {n : Int} {k : Nat} (h6 : ¬ 6 < Z.length) (hk : k < Z.length) (h : chF Z k = 0) (hb : zE (nd Z k) (kd Z k) ≠ 0) : vl Z n = false := vl_no fun g => hb ((chE_at h6 hk h rfl hb).symm.trans g.1)
set_option maxRecDepth 100000 in
set_option maxHeartbeats 8000000 in
theorem valid_any (A : Option Addr) (cp : Nat) (Z : List Zo) (n : Int) (w : World) (hr : Zs w A Z) (hn : Z.length ≤ 9223372036854775807) : Calls Try.prog 22 #[.slice A Z.length cp, .int .i64 n] w fun e w' => e = .returned (.bool (vl Z n)) ∧ w = w' := by
  have HR := hide hr
  clear hr
  by_cases h6 : 6 < Z.length
  · have d6 : (6 : Int) < (Z.length : Int) := by omega
    have E := hide (vl_no (Z := Z) (n := n) fun g => by rw [chE_9 h6] at g; omega)
    go_enter Try.func22, Try.ntmps22
    go_wp2
    go_ret
    exact ⟨ret_bool E.out.symm, rfl⟩
  · have d6 : ¬ (6 : Int) < (Z.length : Int) := by omega
    by_cases n1 : n < 0
    · have E := hide (vl_no (Z := Z) (n := n) fun g => by omega)
      go_enter Try.func22, Try.ntmps22
      go_wp2
      go_ret
      exact ⟨ret_bool E.out.symm, rfl⟩
    · by_cases n2 : 4 ≤ n
      · have E := hide (vl_no (Z := Z) (n := n) fun g => by omega)
        go_enter Try.func22, Try.ntmps22
        go_wp2
        go_ret
        exact ⟨ret_bool E.out.symm, rfl⟩
      · go_enter Try.func22, Try.ntmps22
        go_wp2
        go_loopw [5] (fun c wr => ∃ k : Nat, k ≤ Z.length ∧ c = .int .i64 k ∧ wr = w ∧ Hid (chF Z k = 0)) (fun c _ => Z.length - (intOf c).toNat)
        case atStart => exact ⟨0, Nat.zero_le _, rfl, rfl, hide rfl⟩
        case round =>
          obtain ⟨k, hk, rfl, rfl, N⟩ := hrel
          by_cases hlt : k < Z.length
          · have hl2 : (k : Int) < (Z.length : Int) := by omega
            have hk0 : (0 : Int) ≤ (k : Int) := by omega
            obtain ⟨b, off, rfl, hbl, hcs⟩ := HR.out.cells (brefl _) hlt
            have EX := hide (fun (g : zE (nd Z k) (kd Z k) ≠ 0) => vl_bad (n := n) h6 hlt N.out g)
            have NX := hide (chF_next N.out)
            have y0 : wr.cell? ⟨b, off + k * 10, none⟩ = some (.int .i64 (nd Z k)) := hcs 0 (by omega)
            have y1 : wr.cell? ⟨b, off + k * 10 + 1, none⟩ = some (.int .i64 (kd Z k)) := hcs 1 (by omega)
            clear hcs N
            generalize nd Z k = a at *
            generalize kd Z k = c at *
            by_cases i0 : a < 0
            · have E := hide (EX.out (by rw [zE_2 (by omega)]; omega))
              go_wp2
              go_ret
              exact ⟨ret_bool E.out.symm, rfl⟩
            · by_cases i4 : 4 ≤ a
              · have E := hide (EX.out (by rw [zE_2 (by omega)]; omega))
                go_wp2
                go_ret
                exact ⟨ret_bool E.out.symm, rfl⟩
              · by_cases c0 : c < 0
                · have E := hide (EX.out (by rw [zE_1 (by omega) (by omega)]; omega))
                  go_wp2
                  go_ret
                  exact ⟨ret_bool E.out.symm, rfl⟩
                · by_cases c1 : 1 < c
                  · have E := hide (EX.out (by rw [zE_1 (by omega) (by omega)]; omega))
                    go_wp2
                    go_ret
                    exact ⟨ret_bool E.out.symm, rfl⟩
                  · have NX2 := hide (NX.out.trans (zE_0 (by omega) (by omega)))
                    go_wp2
                    go_roundw
                    case rel => exact ⟨k + 1, by omega, by go_num, trivial, NX2⟩
                    case measure => simp [intOf]; omega
          · obtain rfl : k = Z.length := by omega
            have E := hide (show vl Z n = true from decide_eq_true ⟨chE_0 h6 N.out, by omega, by omega⟩)
            go_wp2
            go_ret
            exact ⟨ret_bool E.out.symm, rfl⟩
theorem far_any (a b : Int) (ha : 0 ≤ a ∧ a < 4) (hb : 0 ≤ b ∧ b < 4) (w : World) : Calls Try.prog 23 #[.int .i64 a, .int .i64 b] w fun e w' => e = .returned (.int .i64 (ds a b)) ∧ w = w' := by
  by_cases h : a < b
  · go_enter Try.func23, Try.ntmps23
    go_wp2
    go_ret
    exact ⟨ret_int (by unfold ds; omega), rfl⟩
  · go_enter Try.func23, Try.ntmps23
    go_wp2
    go_ret
    exact ⟨ret_int (by unfold ds; omega), rfl⟩
theorem oR_facts {Z : List Zo} {n : Int} {kb : Bool} (h : chE Z = 0) (hn : 0 ≤ n ∧ n < 4) : (oR Z n kb).Pairwise (Rk Z (nR Z n)) ∧ ∀ x, x ∈ oR Z n kb ↔ (0 ≤ x ∧ x < Z.length ∧ sth Z kb x = true) := by
  have P := pl_of h hn (fun k hk => hs_yes hk rfl)
  have f := ro_facts P kb _ (Nat.le_refl _)
  refine ⟨f.1, fun x => (f.2 x).trans ⟨fun g => ⟨g.1, g.2.1, g.2.2.1⟩, fun g => ⟨g.1, g.2.1, g.2.2, ?_⟩⟩⟩
  obtain ⟨j, hj, e1, _⟩ := ix_spec (P.mem x.toNat (by omega))
  omega
theorem cnt_nd : ∀ {l : Is} {x : Int}, l.Pairwise (· ≠ ·) → x ∈ l → l.count x = 1
  | y :: l, x, h, hx => by
    rw [List.pairwise_cons] at h
    by_cases e : y = x
    · subst e
      rw [List.count_cons_self, List.count_eq_zero_of_not_mem (fun g => h.1 y g rfl)]
    · rw [List.count_cons_of_ne e]
      exact cnt_nd h.2 ((List.mem_cons.1 hx).resolve_left (fun g => e g.symm))
theorem oR_count {Z : List Zo} {n : Int} {kb : Bool} (h : chE Z = 0) (hn : 0 ≤ n ∧ n < 4) {i : Nat} (hi : i < Z.length) : (oR Z n kb).count (i : Int) = if sth Z kb i = true then 1 else 0 := by
  obtain ⟨f1, f2⟩ := oR_facts (kb := kb) h hn
  split
  · rename_i g
    refine cnt_nd (f1.imp fun {a b} r e => ?_) ((f2 _).2 ⟨by omega, by omega, g⟩)
    subst e
    unfold Rk at r
    omega
  · rename_i g
    exact List.count_eq_zero_of_not_mem fun m => g ((f2 _).1 m).2.2
theorem cnt_1 {l : Is} {x : Int} {k : Nat} (hk : k < l.length) (h : l.getD k 0 = x) : (l.take (k + 1)).count x = (l.take k).count x + 1 := by
  rw [take_next hk, List.count_append, h]; simp
theorem cnt_0 {l : Is} {x : Int} {k : Nat} (hk : k < l.length) (h : l.getD k 0 ≠ x) : (l.take (k + 1)).count x = (l.take k).count x := by
  rw [take_next hk, List.count_append, List.count_eq_zero_of_not_mem (l := [l.getD k 0]) (by simpa using fun e => h e.symm)]; rfl
end Go.Proofs.Ytiopfeleaifpbaa.Bd
