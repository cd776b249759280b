import Derived.Test.YtncdilkcblakhaaT1
import Derived.Test.YtncdilkcblakhaaDKm1
namespace Go.Proofs.Ytncdilkcblakhaa.In
open Go Go.RowKit
set_option linter.unusedVariables false
set_option linter.unusedSimpArgs false
def bfr : By := blk 1 1
def aft : By := blk 2 3
def zro : By := List.replicate 32 0
/-- the device at a stage -/
def blS (st : Nat) (pg : By) : List By := [if st ≤ 3 then bfr else aft, zro, if st ≤ 1 then zro else pg]
def caS (st : Nat) (pg : By) : List Dv.Ca := if st = 1 then [(2, pg)] else if st = 3 then [(0, aft)] else []
def DS (st : Nat) (n : Int) (q : List Dv.Rq) (pg : By) : Dv.Dev := ⟨2, n, blS st pg, caS st pg, q⟩
def rk (st : Nat) : Int := if st = 0 ∨ st = 2 then 2 else 3
def rb (st : Nat) : Int := if st = 0 then 2 else 0
def rd (st : Nat) (pg : By) : By := if st = 0 then pg else if st = 2 then aft else []
theorem five {st : Nat} (h : st ≤ 4) : st = 0 ∨ st = 1 ∨ st = 2 ∨ st = 3 ∨ st = 4 := by omega
theorem four {st : Nat} (h : st < 4) : st = 0 ∨ st = 1 ∨ st = 2 ∨ st = 3 := by omega
theorem l32 : bfr.length = 32 ∧ aft.length = 32 ∧ zro.length = 32 := ⟨blk_len _ _, blk_len _ _, rfl⟩
theorem vdS {st : Nat} {n : Int} {pg : By} (h : st ≤ 4) (hn : 0 ≤ n ∧ n ≤ 1000) (hp : pg.length = 32) : Dv.Vd (DS st n [] pg) := by
  obtain ⟨l1, l2, l3⟩ := l32
  refine ⟨hn.1, by show n ≤ Dv.mx; unfold Dv.mx; omega, by show (1 : Int) ≤ 2; omega, by show (2 : Int) ≤ 16; omega, by show 1 ≤ 3; omega, by show 3 ≤ 256; omega, ?_, ?_, ?_, ?_, by show ((0 : Nat) : Int) ≤ 2; omega, fun q hq => (by cases hq), fun q hq => (by cases hq), List.Pairwise.nil⟩
  · intro b hb
    simp only [DS, blS, List.mem_cons, List.not_mem_nil, or_false] at hb
    rcases hb with rfl | rfl | rfl
    · split <;> assumption
    · exact l3
    · split <;> assumption
  · intro c hc
    show 0 ≤ c.1 ∧ c.1 < ((3 : Nat) : Int)
    unfold DS caS at hc
    simp only at hc
    split at hc
    · obtain rfl := List.mem_singleton.1 hc; exact ⟨show (0 : Int) ≤ 2 by omega, show (2 : Int) < ((3 : Nat) : Int) by omega⟩
    · split at hc
      · obtain rfl := List.mem_singleton.1 hc; exact ⟨show (0 : Int) ≤ 0 by omega, show (0 : Int) < ((3 : Nat) : Int) by omega⟩
      · cases hc
  · unfold DS caS
    simp only
    split
    · exact List.pairwise_singleton _ _
    · split
      · exact List.pairwise_singleton _ _
      · exact List.Pairwise.nil
  · intro c hc
    unfold DS caS at hc
    simp only at hc
    split at hc
    · obtain rfl := List.mem_singleton.1 hc; exact hp
    · split at hc
      · obtain rfl := List.mem_singleton.1 hc; exact l2
      · cases hc
theorem rd_len {st : Nat} {pg : By} (hp : pg.length = 32) : (rd st pg).length = if st = 0 ∨ st = 2 then 32 else 0 := by
  unfold rd
  split
  · rename_i h; rw [if_pos (.inl h)]; exact hp
  · rename_i h
    split
    · rename_i h2; rw [if_pos (.inr h2)]; exact l32.2.1
    · rename_i h2; rw [if_neg (by omega)]; rfl
theorem sbS {st : Nat} {n : Int} {pg : By} (h : st < 4) (hn : 0 ≤ n ∧ n ≤ 1000) (hp : pg.length = 32) : Dv.sbE (DS st n [] pg) (rk st) (rb st) (rd st pg).length = 0 := by
  unfold Dv.sbE
  rw [Dv.chk_of (vdS (by omega) hn hp), if_neg (by simp), rd_len hp]
  have hr : Dv.reqE (DS st n [] pg).bl.length (rk st) (rb st) (if st = 0 ∨ st = 2 then 32 else 0) = 0 := by
    rcases four h with rfl | rfl | rfl | rfl <;> rfl
  rw [hr, if_neg (by simp), if_neg (by show ¬ n = Dv.mx; unfold Dv.mx; omega), if_neg (by show ¬ (2 : Int) ≤ ((0 : Nat) : Int); omega)]
theorem sdS {st : Nat} {n : Int} {pg : By} : Dv.sbD (DS st n [] pg) (rk st) (rb st) (rd st pg) = DS st (n + 1) [(n, rk st, rb st, rd st pg)] pg := rfl
theorem vdQ {st : Nat} {n : Int} {pg : By} (h : st < 4) (hn : 0 ≤ n ∧ n ≤ 1000) (hp : pg.length = 32) : Dv.Vd (DS st (n + 1) [(n, rk st, rb st, rd st pg)] pg) := by
  rw [← sdS]; exact Dv.vd_sb (vdS (by omega) hn hp) (sbS h hn hp)
theorem cmES {st : Nat} {n : Int} {pg : By} (h : st < 4) (hn : 0 ≤ n ∧ n ≤ 1000) (hp : pg.length = 32) : Dv.cmE (DS st (n + 1) [(n, rk st, rb st, rd st pg)] pg) 0 = 0 := by
  unfold Dv.cmE
  rw [Dv.chk_of (vdQ h hn hp), if_neg (by simp), if_neg (by show ¬ ((0 : Int) < 0 ∨ ((1 : Nat) : Int) ≤ 0); omega)]
theorem cmFS {st : Nat} {n : Int} {pg : By} : Dv.cmD (DS st (n + 1) [(n, rk st, rb st, rd st pg)] pg) 0 false = DS st (n + 1) [] pg := rfl
theorem cmTS {st : Nat} {n : Int} {pg : By} (h : st < 4) : Dv.cmD (DS st (n + 1) [(n, rk st, rb st, rd st pg)] pg) 0 true = DS (st + 1) (n + 1) [] pg := by
  rcases four h with rfl | rfl | rfl | rfl <;> rfl
/-- what a loss of power leaves -/
def Fin (E : Dv.Dev) (st : Nat) (pg : By) : Prop := (Dv.duD E 0 = bfr ∧ st < 4) ∨ (Dv.duD E 0 = aft ∧ Dv.duD E 2 = pg)
theorem duS {D : Dv.Dev} {ps : List Bool} (v : Dv.Vd D) (hl : D.bl.length = 3) (i : Nat) (hi : i < 3) : Dv.duD (Dv.crD D ps) (i : Int) = Dv.bAt (Dv.crK ps (Dv.losK D.ca D.qu D.qu.length) D.bl (Dv.losK D.ca D.qu D.qu.length).length) i := by
  unfold Dv.duD
  have h3 : (Dv.crD D ps).bl.length = 3 := by rw [← hl]; exact Dv.crK_len _ _ _ _
  rw [Dv.chk_of (Dv.vd_cr v), h3, if_pos ⟨rfl, by unfold Dv.inB; simp; omega⟩]
  rfl
theorem finS {st : Nat} {n : Int} {q : List Dv.Rq} {pg : By} {ps : List Bool} (h : st ≤ 4) (v : Dv.Vd (DS st n q pg)) (hq : q = [] ∨ (st < 4 ∧ ∃ m, q = [(m, rk st, rb st, rd st pg)])) : Fin (Dv.crD (DS st n q pg) ps) st pg := by
  have d0 := duS (ps := ps) v rfl 0 (by omega)
  have d2 := duS (ps := ps) v rfl 2 (by omega)
  unfold Fin
  rw [show (0 : Int) = ((0 : Nat) : Int) from rfl, show (2 : Int) = ((2 : Nat) : Int) from rfl, d0, d2]
  clear d0 d2 v
  cases hb : ps.getD 0 false <;> rcases hq with rfl | ⟨h4, m, rfl⟩ <;> rcases five h with rfl | rfl | rfl | rfl | rfl
  all_goals first
    | exact absurd h4 (by omega)
    | (simp [DS, blS, caS, rk, rb, rd, Dv.losK, Dv.crK, Dv.cAt, Dv.bAt, hb]; done)
    | (rw [List.getD_eq_getElem?_getD] at hb; simp [DS, blS, caS, rk, rb, rd, Dv.losK, Dv.crK, Dv.cAt, Dv.bAt, hb]; done)
end Go.Proofs.Ytncdilkcblakhaa.In
