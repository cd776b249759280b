import Derived.Test.YtncdilkcblakhaaT1
import Derived.Test.YtncdilkcblakhaaDKm1
namespace Go.Proofs.Ytncdilkcblakhaa.In
open Go Go.RowKit
set_option linter.unusedVariables false
/-- the inodes that were written -/
abbrev Wr := List (Int × Int)
def Gd (wr : Wr) (c : By) : Prop := ∃ p ∈ wr, eE p.1 p.2 = 0 ∧ c = blk p.1 p.2
theorem Gd.more {wr : Wr} {c : By} (h : Gd wr c) (x : Int × Int) : Gd (wr ++ [x]) c := by
  obtain ⟨p, hp, e⟩ := h
  exact ⟨p, List.mem_append_left _ hp, e⟩
/-- a device on which only written inodes are -/
structure Inv (D : Dv.Dev) (wr : Wr) : Prop where
  vd : Dv.Vd D
  one : D.bl.length = 1
  bl : ∀ b ∈ D.bl, Gd wr b
  ca : ∀ c ∈ D.ca, Gd wr c.2
  qu : ∀ q ∈ D.qu, q.2.1 = 2 → Gd wr q.2.2.2
theorem vd_big {D : Dv.Dev} (v : Dv.Vd D) : Dv.Big D := by
  have S := Dv.sm_ok (Dv.chk_of v)
  exact ⟨by have := S.bl; omega, by have := S.ca; omega, by have := S.qu; omega, fun b hb => by have := S.bb b hb; omega, fun b hb => by have := S.cb b hb; omega, fun b hb => by have := S.qb b hb; omega⟩
theorem Inv.big {D : Dv.Dev} {wr : Wr} (h : Inv D wr) : Dv.Big D := vd_big h.vd
theorem Inv.more {D : Dv.Dev} {wr : Wr} (h : Inv D wr) (x : Int × Int) : Inv D (wr ++ [x]) :=
  ⟨h.vd, h.one, fun b hb => (h.bl b hb).more x, fun c hc => (h.ca c hc).more x, fun q hq e => (h.qu q hq e).more x⟩
theorem Inv.new {s m : Int} (h : eE s m = 0) : Inv (Dv.nwD 4 [blk s m]) [(s, m)] := by
  refine ⟨Dv.vd_of (du_new (by omega) (blk_len s m)).1, rfl, fun b hb => ?_, fun c hc => (by cases hc), fun q hq => (by cases hq)⟩
  obtain rfl : b = blk s m := by simpa [Dv.nwD] using hb
  exact ⟨(s, m), by simp, h, rfl⟩
theorem Inv.sbw {D : Dv.Dev} {wr : Wr} {s m : Int} (h : Inv D wr) (he : eE s m = 0) (h0 : Dv.sbE D 2 0 (blk s m).length = 0) : Inv (Dv.sbD D 2 0 (blk s m)) (wr ++ [(s, m)]) := by
  have hm := h.more (s, m)
  refine ⟨Dv.vd_sb h.vd h0, h.one, hm.bl, hm.ca, fun q hq e => ?_⟩
  rcases List.mem_append.1 hq with hq | hq
  · exact hm.qu q hq e
  · obtain rfl : q = (D.nxt, 2, 0, blk s m) := by simpa using hq
    exact ⟨(s, m), by simp, he, rfl⟩
theorem Inv.sbf {D : Dv.Dev} {wr : Wr} (h : Inv D wr) (h0 : Dv.sbE D 3 0 ([] : By).length = 0) : Inv (Dv.sbD D 3 0 []) wr := by
  refine ⟨Dv.vd_sb h.vd h0, h.one, h.bl, h.ca, fun q hq e => ?_⟩
  rcases List.mem_append.1 hq with hq | hq
  · exact h.qu q hq e
  · obtain rfl : q = (D.nxt, 3, 0, []) := by simpa using hq
    exact absurd e (show ¬ (3 : Int) = 2 by decide)
theorem Inv.del {D : Dv.Dev} {wr : Wr} (h : Inv D wr) (p : Nat) : Inv (Dv.delD D p) wr := by
  refine ⟨Dv.vd_del h.vd, h.one, h.bl, h.ca, fun q hq e => ?_⟩
  rcases List.mem_append.1 hq with hq | hq
  · exact h.qu q (List.mem_of_mem_take hq) e
  · exact h.qu q (List.mem_of_mem_drop hq) e
theorem Inv.cm {D : Dv.Dev} {wr : Wr} {p : Nat} {ok : Bool} (h : Inv D wr) (hp : p < D.qu.length) : Inv (Dv.cmD D p ok) wr := by
  have V := Dv.vd_cm (ok := ok) h.vd hp
  have hd := h.del p
  have hn := Dv.cm_n (D := D) (p := p) (ok := ok)
  have hq : ∀ q ∈ (Dv.cmD D p ok).qu, q.2.1 = 2 → Gd wr q.2.2.2 := by
    rw [hn.2.2.2]; exact hd.qu
  have one : (Dv.cmD D p ok).bl.length = 1 := by rw [hn.2.2.1]; exact h.one
  unfold Dv.cmD at V hq one ⊢
  cases ok
  · exact hd
  · refine ⟨V, one, ?_, ?_, hq⟩
    · simp only [if_true]
      unfold Dv.carD
      split
      · exact hd.bl
      · split
        · exact Dv.flK_P hd.bl hd.ca _ (Nat.le_refl _)
        · exact hd.bl
    · simp only [if_true]
      unfold Dv.carD
      split
      · rename_i hk
        intro c hc
        rcases Dv.putD_in c hc with hc | rfl
        · exact hd.ca c hc
        · exact h.qu _ (Dv.qAt_mem hp) hk
      · split
        · exact fun c hc => (by cases hc)
        · exact hd.ca
theorem Inv.cr {D : Dv.Dev} {wr : Wr} (h : Inv D wr) (ps : List Bool) : ∃ p ∈ wr, eE p.1 p.2 = 0 ∧ Dv.duD (Dv.crD D ps) 0 = blk p.1 p.2 := by
  have V := Dv.vd_cr (ps := ps) h.vd
  have hl : (Dv.crD D ps).bl.length = 1 := by rw [← h.one]; exact Dv.crK_len _ _ _ _
  have G : ∀ b ∈ (Dv.crD D ps).bl, Gd wr b := Dv.crK_P h.bl (fun c hc => by
    unfold Dv.losK at hc
    rcases List.mem_append.1 hc with hc | hc
    · exact h.ca c hc
    · obtain ⟨q, hq, rfl⟩ := List.mem_map.1 hc
      have := List.mem_filter.1 hq
      exact h.qu q (List.mem_of_mem_take this.1) (by simpa using this.2)) _ (Nat.le_refl _)
  obtain ⟨p, hp, e1, e2⟩ := G _ (Dv.bAt_mem (k := 0) (by omega))
  refine ⟨p, hp, e1, ?_⟩
  unfold Dv.duD
  rw [Dv.chk_of V, hl, if_pos ⟨rfl, rfl⟩]
  exact e2
end Go.Proofs.Ytncdilkcblakhaa.In
