import Derived.Test.YtiopfeleaifpbaaRow
import Derived.Test.YtiopfeleaifpbaaMath
import Derived.Deep.Cut
import Derived.Deep.DeepCutAuto
namespace Go.Proofs.Ytiopfeleaifpbaa.Bd
open Go Go.RowKit
set_option linter.unusedVariables false
set_option linter.unusedSimpArgs false
def nv : Nat → Value := fun _ => .slice none 0 0
def nf : Fl := fun _ => []
def p0 : Pm := ⟨0, 0, 0, 0, 0⟩
structure ZIn (w : World) (p : Pm) (v : Nat → Value) (L : Fl) : Prop where
  pr : Pr p
  rd : RdZ w v L
  wf : ∀ k, k < 5 → ∀ f ∈ L k, i64r f
  len : ∀ k, k < 5 → (L k).length ≤ 9223372036854775807
theorem ZIn.below {w w' : World} {p : Pm} {v : Nat → Value} {L : Fl} (h : ZIn w p v L) (hb : Below w.heap.size w w') : ZIn w' p v L := ⟨h.pr, h.rd.below hb, h.wf, h.len⟩
-- A LIST OF ZONES
structure Zo where
  p : Pm
  v : Nat → Value
  L : Fl
def z0 : Zo := ⟨p0, nv, nf⟩
def zAt (Z : List Zo) (k : Nat) : Zo := Z.getD k z0
/-- a slice that reads as zones -/
def Zs (w : World) (A : Option Addr) (Z : List Zo) : Prop := Z ≠ [] → ∃ b off, A = some ⟨b, off, none⟩ ∧ b < w.heap.size ∧ ∀ k, k < Z.length → ∀ j, j < 10 → w.cell? ⟨b, off + k * 10 + j, none⟩ = (znC (zAt Z k).p (zAt Z k).v)[j]?
def ZIs (w : World) (Z : List Zo) : Prop := ∀ k, k < Z.length → ZIn w (zAt Z k).p (zAt Z k).v (zAt Z k).L
theorem Zs.cells {w w' : World} {A : Option Addr} {Z : List Zo} (h : Zs w A Z) (hb : Below w.heap.size w w') {k : Nat} (hk : k < Z.length) : ∃ b off, A = some ⟨b, off, none⟩ ∧ b < w.heap.size ∧ ∀ j, j < 10 → w'.cell? ⟨b, off + k * 10 + j, none⟩ = (znC (zAt Z k).p (zAt Z k).v)[j]? := by
  obtain ⟨b, off, e, hl, hc⟩ := h (by rintro rfl; simp at hk)
  exact ⟨b, off, e, hl, fun j hj => (hb.cell (p := ⟨b, _, none⟩) hl).trans (hc k hk j hj)⟩
theorem ZIn.forms {w : World} {p : Pm} {v : Nat → Value} {L : Fl} (h : ZIn w p v L) : ∃ A0 c0 A1 c1 A2 c2 A3 c3 A4 c4, v 0 = .slice A0 (L 0).length c0 ∧ v 1 = .slice A1 (L 1).length c1 ∧ v 2 = .slice A2 (L 2).length c2 ∧ v 3 = .slice A3 (L 3).length c3 ∧ v 4 = .slice A4 (L 4).length c4 := by
  obtain ⟨A0, c0, e0, _⟩ := h.rd 0 (by omega)
  obtain ⟨A1, c1, e1, _⟩ := h.rd 1 (by omega)
  obtain ⟨A2, c2, e2, _⟩ := h.rd 2 (by omega)
  obtain ⟨A3, c3, e3, _⟩ := h.rd 3 (by omega)
  obtain ⟨A4, c4, e4, _⟩ := h.rd 4 (by omega)
  exact ⟨A0, c0, A1, c1, A2, c2, A3, c3, A4, c4, e0, e1, e2, e3, e4⟩
def nd (Z : List Zo) (k : Nat) : Int := (zAt Z k).p.nd
def kd (Z : List Zo) (k : Nat) : Int := (zAt Z k).p.kd
/-- the error of one zone -/
def zE (n k : Int) : Int := if 0 ≤ n ∧ n < 4 then (if k = 0 ∨ k = 1 then 0 else 1) else 2
/-- the first error of the first k zones -/
def chF (Z : List Zo) : Nat → Int
  | 0 => 0
  | k + 1 => if chF Z k = 0 then zE (nd Z k) (kd Z k) else chF Z k
def chE (Z : List Zo) : Int := if 6 < Z.length then 9 else chF Z Z.length
theorem chF_stay {Z : List Zo} {k : Nat} (h : chF Z k ≠ 0) : ∀ n, k ≤ n → chF Z n = chF Z k := by
  intro n hn
  induction n with
  | zero => obtain rfl : k = 0 := by omega
            rfl
  | succ n ih =>
    by_cases e : k = n + 1
    · rw [e]
    · have g := ih (by omega)
      show (if chF Z n = 0 then _ else chF Z n) = _
      rw [g, if_neg h]
theorem chF_next {Z : List Zo} {k : Nat} (h : chF Z k = 0) : chF Z (k + 1) = zE (nd Z k) (kd Z k) := if_pos h
theorem chE_at {Z : List Zo} {k : Nat} {e : Int} (h6 : ¬ 6 < Z.length) (hk : k < Z.length) (h : chF Z k = 0) (he : zE (nd Z k) (kd Z k) = e) (h0 : e ≠ 0) : chE Z = e := by
  have g := (chF_next h).trans he
  show (if 6 < Z.length then (9 : Int) else chF Z Z.length) = e
  rw [if_neg h6, chF_stay (by rw [g]; exact h0) Z.length (by omega), g]
theorem chE_0 {Z : List Zo} (h6 : ¬ 6 < Z.length) (h : chF Z Z.length = 0) : chE Z = 0 := (if_neg h6).trans h
theorem chE_9 {Z : List Zo} (h6 : 6 < Z.length) : chE Z = 9 := if_pos h6
theorem zE_2 {n k : Int} (h : ¬ (0 ≤ n ∧ n < 4)) : zE n k = 2 := if_neg h
theorem zE_1 {n k : Int} (h : 0 ≤ n ∧ n < 4) (h2 : ¬ (k = 0 ∨ k = 1)) : zE n k = 1 := by unfold zE; rw [if_pos h, if_neg h2]
theorem zE_0 {n k : Int} (h : 0 ≤ n ∧ n < 4) (h2 : k = 0 ∨ k = 1) : zE n k = 0 := by unfold zE; rw [if_pos h, if_pos h2]
/-- without an error: every zone is as it should be -/
theorem chF_ok {Z : List Zo} : ∀ {n : Nat}, chF Z n = 0 → ∀ k, k < n → (0 ≤ nd Z k ∧ nd Z k < 4) ∧ (kd Z k = 0 ∨ kd Z k = 1)
  | 0, _, k, hk => absurd hk (by omega)
  | n + 1, h, k, hk => by
    have e : (if chF Z n = 0 then zE (nd Z n) (kd Z n) else chF Z n) = 0 := h
    by_cases h0 : chF Z n = 0
    · rw [if_pos h0] at e
      by_cases hkn : k = n
      · subst hkn
        by_cases h1 : 0 ≤ nd Z k ∧ nd Z k < 4
        · by_cases h2 : kd Z k = 0 ∨ kd Z k = 1
          · exact ⟨h1, h2⟩
          · rw [zE_1 h1 h2] at e; omega
        · rw [zE_2 h1] at e; omega
      · exact chF_ok h0 k (by omega)
    · rw [if_neg h0] at e; exact absurd e h0
theorem chE_ok {Z : List Zo} (h : chE Z = 0) : Z.length ≤ 6 ∧ ∀ k, k < Z.length → (0 ≤ nd Z k ∧ nd Z k < 4) ∧ (kd Z k = 0 ∨ kd Z k = 1) := by
  by_cases h6 : 6 < Z.length
  · rw [chE_9 h6] at h; omega
  · have e : (if 6 < Z.length then (9 : Int) else chF Z Z.length) = 0 := h
    rw [if_neg h6] at e
    exact ⟨by omega, chF_ok e⟩
theorem isn_any (n : Int) (w : World) : Calls Try.prog 24 #[.int .i64 n] w fun e w' => e = .returned (.bool (decide (0 ≤ n ∧ n < 4))) ∧ w = w' := by
  by_cases h1 : 0 ≤ n
  · by_cases h2 : n < 4
    · rw [decide_eq_true (show 0 ≤ n ∧ n < 4 from ⟨h1, h2⟩)]
      go_enter Try.func24, Try.ntmps24
      go_wp2
      go_ret
      exact ⟨rfl, rfl⟩
    · rw [decide_eq_false (show ¬ (0 ≤ n ∧ n < 4) from fun h => h2 h.2)]
      go_enter Try.func24, Try.ntmps24
      go_wp2
      go_ret
      exact ⟨rfl, rfl⟩
  · rw [decide_eq_false (show ¬ (0 ≤ n ∧ n < 4) from fun h => h1 h.1)]
    go_enter Try.func24, Try.ntmps24
    go_wp2
    go_ret
    exact ⟨rfl, rfl⟩
/-- the distance of two nodes -/
def ds (a b : Int) : Int := max (a - b) (b - a)
theorem dist_any (a b : Int) (ha : 0 ≤ a ∧ a < 4) (hb : 0 ≤ b ∧ b < 4) (w : World) : Calls Try.prog 30 #[.int .i64 a, .int .i64 b] w fun e w' => e = .returned (.int .i64 (ds a b)) ∧ w = w' := by
  go_enter Try.func30, Try.ntmps30
  go_wp2
  all_goals
    go_ret
    exact ⟨ret_int (by unfold ds; omega), rfl⟩
end Go.Proofs.Ytiopfeleaifpbaa.Bd
