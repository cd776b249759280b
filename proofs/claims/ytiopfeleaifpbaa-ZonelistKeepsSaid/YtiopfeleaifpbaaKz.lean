import Derived.Test.YtiopfeleaifpbaaKy
namespace Go.Proofs.Ytiopfeleaifpbaa.Bd
open Go Go.RowKit Go.Sort Go.Lib
set_option linter.unusedVariables false
set_option linter.unusedSimpArgs false
theorem ix_bd (l : Is) (x : Int) : -1 ≤ ix l x ∧ ix l x < (l.length : Int) + 1 := by
  unfold ix
  cases h : l.findIdx? (fun y => y == x) with
  | none => simp only; omega
  | some k =>
    rw [List.findIdx?_eq_some_iff_getElem] at h
    obtain ⟨hk, _⟩ := h
    simp only
    omega
/-- the key of a zone: the place of its node, the movable kind first -/
def ky (Z : List Zo) (l : Is) (i : Nat) : Int := 2 * ix l (nd Z i) + if kd Z i = 0 then 1 else 0
set_option maxRecDepth 100000 in
set_option maxHeartbeats 4000000 in
theorem key_any (g8 g3 : Nat) (A AZ : Option Addr) (c cp : Nat) (l : Is) (Z : List Zo) (i : Nat) (hi : i < Z.length) (w : World) (X8 : w.cell? ⟨g8, 0, none⟩ = some (.slice A l.length c)) (X3 : w.cell? ⟨g3, 0, none⟩ = some (.slice AZ Z.length cp))
    (hl : Bi w A l) (hr : Zs w AZ Z) (h1 : l.length ≤ 1000) (h2 : Z.length ≤ 1000) : Calls Try.prog 32 #[.int .i64 (i : Int), .pointer (some ⟨g8, 0, none⟩), .pointer (some ⟨g3, 0, none⟩)] w fun e w' => e = .returned (.int .i64 (ky Z l i)) ∧ ∃ q, w' = w.drewN q := by
  obtain ⟨b, off, rfl, hbl, hcs⟩ := hr.cells (brefl _) hi
  have IX := hide (fun n => index_any A c l (nd Z i) (w.drewN n) (hl.below (below_drewN (brefl _) n)) (by omega))
  have y0 : w.cell? ⟨b, off + i * 10, none⟩ = some (.int .i64 (nd Z i)) := hcs 0 (by omega)
  have y1 : w.cell? ⟨b, off + i * 10 + 1, none⟩ = some (.int .i64 (kd Z i)) := hcs 1 (by omega)
  have bd := ix_bd l (nd Z i)
  have E := hide (show ky Z l i = 2 * ix l (nd Z i) + if kd Z i = 0 then 1 else 0 from rfl)
  have hlt : (i : Int) < (Z.length : Int) := by omega
  have hi0 : (0 : Int) ≤ (i : Int) := by omega
  clear hcs hr hl
  generalize ix l (nd Z i) = x at *
  generalize nd Z i = a at *
  generalize kd Z i = k at *
  generalize l.length = n at *
  generalize Z.length = m at *
  obtain ⟨b1, b2⟩ := bd
  by_cases hk : k = 0
  · subst hk
    rw [if_pos rfl] at E
    go_enter Try.func32, Try.ntmps32
    go_wp2
    go_quiet ((go_at_call 33; exact quiet_left (IX.out _)))
    go_wp2
    go_ret
    exact ⟨ret_int (by rw [E.out]), _, rfl⟩
  · rw [if_neg hk, Int.add_zero] at E
    have dk : (k == 0) = false := by simpa using hk
    go_enter Try.func32, Try.ntmps32
    go_wp2
    go_quiet ((go_at_call 33; exact quiet_left (IX.out _)))
    go_wp2
    go_ret
    exact ⟨ret_int (by rw [E.out]), _, rfl⟩
end Go.Proofs.Ytiopfeleaifpbaa.Bd
