import Derived.Test.YtncdilkcblakhaaF11
import Derived.Test.YtncdilkcblakhaaDNw1
import Derived.Test.YtncdilkcblakhaaDCt1
namespace Go.Proofs.Ytncdilkcblakhaa.In
open Go Go.RowKit
set_option linter.unusedVariables false
set_option linter.unusedSimpArgs false
/-- what inodeOf answers -/
def sOf (x : Int) : Int := x % 17
def mOf (x y : Int) : Int := y % 2 ^ (x % 17).toNat
def bOf (x y : Int) : By := blk (sOf x) (mOf x y)
theorem bOf_ok {x y : Int} (hx : 0 ≤ x ∧ x < 256) (hy : 0 ≤ y ∧ y < 65536) : eE (sOf x) (mOf x y) = 0 := by
  have h1 : 0 ≤ x % 17 ∧ x % 17 ≤ 16 := by omega
  have h2 := pw_le h1
  exact eE_of h1 ⟨Int.emod_nonneg _ (by omega), Int.emod_lt_of_pos _ (by omega)⟩
def IoR (x y : Int) (w : World) (e : Ending) (w' : World) : Prop := ∃ A c, e = .returned (.tuple #[.slice A 32 c, .int .i64 (sOf x), .int .i64 (mOf x y)]) ∧ OwB w.heap.size w' (.slice A 32 c) (bOf x y) ∧ 32 ≤ c ∧ Below w.heap.size w w'
set_option maxRecDepth 100000 in
set_option maxHeartbeats 4000000 in
theorem inodeOf_any (x y : Int) (w : World) (hx : 0 ≤ x ∧ x < 256) (hy : 0 ≤ y ∧ y < 65536) : Calls Try.prog 28 #[.int .u8 x, .int .u16 y] w (IoR x y w) := by
  have h5 := bOf_ok hx hy
  have h1 : 0 ≤ x % 17 ∧ x % 17 ≤ 16 := by omega
  have h2 := pw_le h1
  have t1 : x.tmod 17 = sOf x := Int.tmod_eq_emod_of_nonneg hx.1
  obtain ⟨s, hs⟩ : ∃ s, s = sOf x := ⟨_, rfl⟩
  have hs2 : x % 17 = s := hs.symm
  rw [hs2] at h1 h2
  have v1 : IntKind.u8.wrap s = s := by rw [IntKind.wrap_u8']; omega
  have v2 : IntKind.i64.wrap s = s := by rw [IntKind.wrap_i64]; omega
  have v3 : IntKind.i64.wrap y = y := by rw [IntKind.wrap_i64]; omega
  have v4 : IntKind.u64.wrap s = s := by rw [IntKind.wrap_u64]; omega
  have v5 : s ≤ 64 := by omega
  have s0 := h1.1
  obtain ⟨p, hp⟩ : ∃ p : Int, p = 2 ^ s.toNat := ⟨_, rfl⟩
  have hp2 := hp.symm
  rw [← hp] at h2
  have v6 : IntKind.i64.wrap p = p := by rw [IntKind.wrap_i64]; omega
  have t2 : y.tmod p = mOf x y := by
    rw [Int.tmod_eq_emod_of_nonneg hy.1]
    unfold mOf
    rw [hs2, hp]
  have pn : p ≠ 0 := by omega
  have C1 := hide (fun w => enc_any (sOf x) (mOf x y) w)
  unfold EnR at C1
  rw [show eB (sOf x) (mOf x y) = blk (sOf x) (mOf x y) from if_pos h5, h5, blk_len] at C1
  have EB := hide (show bOf x y = blk (sOf x) (mOf x y) from rfl)
  unfold IoR
  rw [EB.out]
  rw [← hs] at t1 C1 ⊢
  generalize mOf x y = m at *
  clear hs hs2 hp h5 EB
  go_enter Try.func28, Try.ntmps28
  go_wp2_with fail
  refine (C1.out _).mono ?_
  rintro e w2 ⟨A1, c1, rfl, hO, hb⟩
  obtain ⟨_, _, ev, hc⟩ := row_form hO
  rw [blk_len] at ev hc
  injection ev with e1 _ e2
  subst e1 e2
  have K := hide hb
  have O := hide hO
  have HC := hide hc
  clear hb hO C1 hc
  go_wp2
  go_ret3
  exact ⟨_, _, rfl, O.out, HC.out, K.out⟩
/-- one slice of bytes, as a row of rows -/
theorem rdB_new (w : World) (A : Option Addr) (c : Nat) (l : By) (h : BsB w A l) (hl : l.length = 32) (hc : 32 ≤ c) : Dv.RdB (w.alloc (.cells #[.slice A 32 c] 23)) (some ⟨w.heap.size, 0, none⟩) [l] := fun _ => by
  refine ⟨w.heap.size, 0, rfl, by simp, fun k hk => ?_⟩
  obtain rfl : k = 0 := by simpa using hk
  refine ⟨.slice A 32 c, (Box.new w 23 #[.slice A 32 c]).cell 0, A, c, ?_, ?_, ?_⟩
  · show Value.slice A 32 c = .slice A l.length c; rw [hl]
  · show l.length ≤ c; omega
  · exact h.below (bal (brefl w) _)
theorem nwE_one {d : Int} {l : By} (hd : 1 ≤ d ∧ d ≤ 16) (hl : l.length = 32) : Dv.nwE d [l] = 0 := by
  unfold Dv.nwE Dv.dbE
  rw [if_pos (by simpa using hd)]
  exact Dv.blE_ok fun j hj => by
    obtain rfl : j = 0 := by simpa using hj
    show Dv.noP l = false
    unfold Dv.noP
    simp [hl]
theorem du_new {d : Int} {l : By} (hd : 1 ≤ d ∧ d ≤ 16) (hl : l.length = 32) : Dv.chk (Dv.nwD d [l]) = 0 ∧ Dv.duD (Dv.nwD d [l]) 0 = l := by
  have h0 : Dv.chk (Dv.nwD d [l]) = 0 := by
    rw [Dv.chk_q (by show ¬ ((0 : Int) < 0 ∨ Dv.mx < 0); unfold Dv.mx; omega) (nwE_one hd hl) rfl]
    rw [if_neg (by show ¬ d < (0 : Nat); omega)]
    rfl
  refine ⟨h0, ?_⟩
  unfold Dv.duD
  rw [h0, if_pos ⟨rfl, rfl⟩]
  rfl
theorem big_new {d : Int} {l : By} (hl : l.length = 32) : Dv.Big (Dv.nwD d [l]) :=
  ⟨by simp [Dv.nwD], by simp [Dv.nwD], by simp [Dv.nwD], fun b hb => (by simp [Dv.nwD] at hb; subst hb; omega), fun c hc => (by cases hc), fun q hq => (by cases hq)⟩
set_option maxRecDepth 100000 in
set_option maxHeartbeats 8000000 in
theorem awake14_any (w : World) : Calls Try.prog 27 #[] w fun e w' => e = .returned (.bool true) ∧ Below w.heap.size w w' := by
  have C1 := hide (inodeOf_any 3 5 w (by omega) (by omega))
  unfold IoR at C1
  rw [show sOf 3 = 3 from rfl, show mOf 3 5 = 5 from rfl] at C1
  have EB := hide (show bOf 3 5 = blk 3 5 from rfl)
  rw [EB.out] at C1
  go_enter Try.func27, Try.ntmps27
  go_wp2_with fail
  refine C1.out.mono ?_
  rintro e w1 ⟨A1, c1, rfl, hO, hc, hB⟩
  have K := hide hB
  have HS := hide (show BsB w1 A1 (blk 3 5) from OwB.bs hO)
  have HC := hide hc
  clear hO hB C1 hc EB
  have RB := hide (rdB_new w1 A1 c1 (blk 3 5) HS.out (blk_len 3 5) HC.out)
  have C2 := hide (Dv.new_any 2 (some ⟨w1.heap.size, 0, none⟩) [blk 3 5] 1 (w1.alloc (.cells #[.slice A1 32 c1] 23)) RB.out (Nat.le_refl _) (by decide))
  rw [nwE_one (by omega) (blk_len 3 5), if_pos rfl] at C2
  unfold Dv.DvR2 at C2
  have DU := hide (du_new (d := 2) (l := blk 3 5) (by omega) (blk_len 3 5)).2
  have BG := hide (big_new (d := 2) (l := blk 3 5) (blk_len 3 5))
  generalize Dv.nwD 2 [blk 3 5] = D at *
  change Hid (Calls Try.prog 29 #[.int .i64 2, .slice (some ⟨w1.heap.size, 0, none⟩) 1 1] (w1.alloc (.cells #[.slice A1 32 c1] 23)) _) at C2
  have K2 := hide (bal K.out (.cells #[.slice A1 32 c1] 23))
  go_wp2_with fail
  refine C2.out.mono ?_
  rintro e w2 ⟨v, rfl, hD, hB⟩
  replace K := hide (btrans K2.out hB)
  obtain ⟨B1, d1, B2, d2, B3, d3, rfl⟩ := hD.form
  unfold Dv.dv at hD ⊢
  have M := bal (brefl w2) (.cells #[.int .i64 D.dep, .int .i64 D.nxt, .slice B1 D.bl.length d1, .slice B2 D.ca.length d2, .slice B3 D.qu.length d3] 57)
  have C3 := hide (Dv.durable_any _ D 0 _ (hD.is.below M) BG.out)
  have X := hide (Box.new w2 57 #[.int .i64 D.dep, .int .i64 D.nxt, .slice B1 D.bl.length d1, .slice B2 D.ca.length d2, .slice B3 D.qu.length d3])
  replace K := hide (btrans K.out M)
  unfold Dv.ByR at C3
  rw [DU.out] at C3
  clear hD hB C2 K2 RB HC M
  go_upto_region 3 with fail
  obtain ⟨g, hg⟩ : ∃ g, g = w2.heap.size := ⟨_, rfl⟩
  rw [← hg] at X ⊢
  clear hg
  generalize w2.alloc (.cells #[.int .i64 D.dep, .int .i64 D.nxt, .slice B1 D.bl.length d1, .slice B2 D.ca.length d2, .slice B3 D.qu.length d3] 57) = w3 at *
  have x0 := X.out.cell 0
  have x1 := X.out.cell 1
  have x2 := X.out.cell 2
  have x3 := X.out.cell 3
  have x4 := X.out.cell 4
  simp at x0 x1 x2 x3 x4
  go_wp2_with (go_at_call 33; refine C3.out.mono ?_; rintro e w4 ⟨u, rfl, hu, hB⟩; obtain ⟨A4, c4, rfl, hc4, hb4⟩ := Dv.OwnBy.is hu; rw [blk_len])
  have C4 := hide (dec_any A4 c4 (blk 3 5) w4 (show BsB w4 A4 (blk 3 5) from hb4) (blk_byt aw_e) (by decide))
  unfold DeR at C4
  rw [dE_blk aw_e, dR_blk aw_e, blk_len] at C4
  replace K := hide (btrans K.out hB)
  refine C4.out.mono ?_
  rintro e w5 ⟨rfl, hB2⟩
  replace K := hide (btrans K.out hB2)
  clear hB hB2 hu hb4 hc4 x0 x1 x2 x3 x4 C3 C4
  go_wp2
  go_ret
  exact ⟨rfl, K.out⟩
end Go.Proofs.Ytncdilkcblakhaa.In
