import Derived.Test.YtflplldamefhoaaSm
namespace Go.Proofs.Ytflplldamefhoaa.Bd
open Go Go.RowKit
set_option linter.unusedVariables false
def sl5 (M : Fl) (A0 A1 A2 A3 A4 : Option Addr) (c0 c1 c2 c3 c4 : Nat) : Nat → Value
  | 0 => .slice A0 (M 0).length c0
  | 1 => .slice A1 (M 1).length c1
  | 2 => .slice A2 (M 2).length c2
  | 3 => .slice A3 (M 3).length c3
  | _ => .slice A4 (M 4).length c4
theorem ow_to {B : Nat} {w : World} {v : Nat → Value} {L M : Fl} (p : Pm) (O : OwZ B w v L) (e : ∀ k, k < 5 → L k = M k) : ∃ A0 A1 A2 A3 A4 c0 c1 c2 c3 c4, znC p v = znC p (sl5 M A0 A1 A2 A3 A4 c0 c1 c2 c3 c4) ∧ OwZ B w (sl5 M A0 A1 A2 A3 A4 c0 c1 c2 c3 c4) M := by
  obtain ⟨A0, c0, e0, _⟩ := row_form (O.row 0 (by omega))
  obtain ⟨A1, c1, e1, _⟩ := row_form (O.row 1 (by omega))
  obtain ⟨A2, c2, e2, _⟩ := row_form (O.row 2 (by omega))
  obtain ⟨A3, c3, e3, _⟩ := row_form (O.row 3 (by omega))
  obtain ⟨A4, c4, e4, _⟩ := row_form (O.row 4 (by omega))
  rw [e 0 (by omega)] at e0
  rw [e 1 (by omega)] at e1
  rw [e 2 (by omega)] at e2
  rw [e 3 (by omega)] at e3
  rw [e 4 (by omega)] at e4
  have hv : ∀ k, k < 5 → sl5 M A0 A1 A2 A3 A4 c0 c1 c2 c3 c4 k = v k := fun k hk => by
    rcases cases5 hk with rfl | rfl | rfl | rfl | rfl
    · exact e0.symm
    · exact e1.symm
    · exact e2.symm
    · exact e3.symm
    · exact e4.symm
  refine ⟨A0, A1, A2, A3, A4, c0, c1, c2, c3, c4, ?_, ⟨fun k hk => ?_, fun i j hi hj hne => ?_⟩⟩
  · unfold znC; rw [e0, e1, e2, e3, e4]; rfl
  · rw [hv k hk, ← e k hk]; exact O.row k hk
  · rw [hv i hi, hv j hj]; exact O.dis i j hi hj hne
def pA : Pm := ⟨0, 0, 0, 20, 0⟩
def LA : Fl
  | 4 => [0]
  | 2 => [16]
  | _ => []
def LB : Fl
  | 4 => [0]
  | 1 => [18]
  | _ => []
theorem parA : par pA := by decide
theorem vdA : Vd pA LA := by
  refine (vd_iff parA).2 ⟨⟨fun k hk => ?_, fun k hk => ?_⟩, ?_, ?_⟩
  · rcases cases5 hk with rfl | rfl | rfl | rfl | rfl <;> (unfold Srt; decide)
  · rcases cases5 hk with rfl | rfl | rfl | rfl | rfl <;> (intro f hf; simp [LA] at hf; try subst hf; try decide)
  · decide +kernel
  · decide +kernel
theorem vdB : Vd pA LB := by
  refine (vd_iff parA).2 ⟨⟨fun k hk => ?_, fun k hk => ?_⟩, ?_, ?_⟩
  · rcases cases5 hk with rfl | rfl | rfl | rfl | rfl <;> (unfold Srt; decide)
  · rcases cases5 hk with rfl | rfl | rfl | rfl | rfl <;> (intro f hf; simp [LB] at hf; try subst hf; try decide)
  · decide +kernel
  · decide +kernel
theorem inA (x : Int) : InS LA x ↔ 0 ≤ x ∧ x < 20 := by
  constructor
  · rintro ⟨k, hk, h⟩
    unfold cov dn at h
    rcases cases5 hk with rfl | rfl | rfl | rfl | rfl <;> simp [LA, bw] at h <;> omega
  · intro h
    by_cases h16 : x < 16
    · exact ⟨4, by omega, by unfold cov dn; simp [LA, bw]; omega⟩
    · exact ⟨2, by omega, by unfold cov dn; simp [LA, bw]; omega⟩
theorem inB (x : Int) : InS LB x ↔ (0 ≤ x ∧ x < 16) ∨ x = 18 ∨ x = 19 := by
  constructor
  · rintro ⟨k, hk, h⟩
    unfold cov dn at h
    rcases cases5 hk with rfl | rfl | rfl | rfl | rfl <;> simp [LB, bw] at h <;> omega
  · intro h
    by_cases h16 : x < 16
    · exact ⟨4, by omega, by unfold cov dn; simp [LB, bw]; omega⟩
    · exact ⟨1, by omega, by unfold cov dn; simp [LB, bw]; omega⟩
theorem chkA : chk pA LA = 0 := chk_zero.2 ⟨parA, vdA⟩
theorem chkB : chk pA LB = 0 := chk_zero.2 ⟨parA, vdB⟩
theorem alEA : alE pA LA 1 = 0 := by
  unfold alE
  rw [if_neg (fun x => x chkA)]; rfl
theorem alFA : alF pA LA 1 = 16 := by
  unfold alF
  rw [if_pos alEA]; rfl
theorem alSA (x : Int) : alS pA LA 1 x ↔ InS LB x := by
  unfold alS
  rw [alFA, inA, inB, show (1 : Int).toNat = 1 from rfl]
  unfold dn
  simp only [bw]
  omega
theorem cntB : cnt pA LB = 18 := by unfold cnt; rw [if_pos chkB]; rfl
theorem isB17 : isF pA LB 17 = false := by unfold isF; rw [chkB]; decide
theorem isB18 : isF pA LB 18 = true := by unfold isF; rw [chkB]; decide
theorem frB : frE pA LB 16 1 = 0 := by
  unfold frE
  rw [if_neg (fun x => x chkB)]
  decide
theorem frSB (x : Int) : (InS LB x ∨ dn (1 : Int).toNat x = 16) ↔ InS LA x := by
  rw [inA, inB, show (1 : Int).toNat = 1 from rfl]
  unfold dn
  simp only [bw]
  omega
theorem lrgA : lrg pA LA = 4 := by unfold lrg; rw [if_pos chkA]; rfl
theorem unuB : unu pA LB 2 = 2 := by unfold unu; rw [if_pos ⟨chkB, by decide⟩]; rfl
theorem nwEA : nwE pA = 0 := by decide
end Go.Proofs.Ytflplldamefhoaa.Bd
