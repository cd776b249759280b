/-
  DERIVED. The library's DeleteFunc at this dump, over a list of small numbers of one's own.
-/
import Derived.Test.YtiopfeleaifpbaaOr2
import Derived.Shelf.SlicesE.DeleteFunc
namespace Go.Proofs
open Go.Shelf
def Try.dlf_ren : Go.Shelf.Ren := ⟨fun | 6 => 46 | 10 => 37 | n => n, fun | 23 => 3 | 22 => 27 | 3 => 3 | 25 => 46 | 4 => 4 | 0 => 0 | n => n, fun | n => n⟩
theorem Try.dlf : Go.Proofs.SlLaysH.n10 Try.prog Try.dlf_ren := {
  mixed := by kernel_rfl
  f6 := ⟨"slices.IndexFunc[[]int,int]", by kernel_rfl, Try.func46.trans (congrArg some (by kernel_rfl))⟩
  f10 := ⟨"slices.DeleteFunc[[]int,int]", by kernel_rfl, Try.func37.trans (congrArg some (by kernel_rfl))⟩
  t0 := Try.underlying0
  a0 := Try.isAgg0
  z0 := Try.sizeOf0
  v0 := Try.zeroValue0
  t3 := Try.underlying3
  a3 := Try.isAgg3
  z3 := Try.sizeOf3
  v3 := Try.zeroValue3
  t4 := Try.underlying4
  a4 := Try.isAgg4
  z4 := Try.sizeOf4
  v4 := Try.zeroValue4
  t22 := Try.underlying27
  a22 := Try.isAgg27
  z22 := Try.sizeOf27
  v22 := Try.zeroValue27
  a23 := Try.isAgg3
  z23 := Try.sizeOf3
  t25 := Try.underlying46
  a25 := Try.isAgg46
  z25 := Try.sizeOf46
  v25 := Try.zeroValue46
}
end Go.Proofs
namespace Go.Proofs.Ytiopfeleaifpbaa.Bd
open Go Go.RowKit Go.Sort Go.Lib
set_option linter.unusedVariables false
set_option linter.unusedSimpArgs false
theorem idx_none (A : Option Addr) (cap : Nat) (f : Value) (w : World) : Calls Try.prog 46 #[.slice A 0 cap, f] w fun e w' => e = .returned (.int .i64 (-1)) ∧ w = w' := by
  go_enter Try.func46, Try.ntmps46
  go_wp2
  refine wp_loop_rounds 1 ?_
  rw [rounds_succ]
  go_wp2
  go_ret
  exact ⟨rfl, rfl⟩
theorem del_none (A : Option Addr) (cap : Nat) (f : Value) (w : World) : Calls Try.prog 37 #[.slice A 0 cap, f] w fun e w' => e = .returned (.slice A 0 cap) ∧ w = w' := by
  have C := hide (idx_none A cap f w)
  go_enter Try.func37, Try.ntmps37
  go_wp2_with (go_at_call 46; refine C.out.mono ?_; rintro e w' ⟨rfl, rfl⟩)
  go_ret
  exact ⟨rfl, rfl⟩
/-- the same elements, cut from a longer own row -/
theorem cut_row {B : Nat} {w : World} {A : Option Addr} {n k cap : Nat} {xs : List Value} (h : w.ownsRow B 3 1 (.slice A n cap) n xs) (hk : k ≤ n) (h0 : n ≠ 0) : w.ownsRow B 3 1 (.slice A k cap) k (xs.take k) := by
  obtain ⟨hl, h | ⟨g, cp, cur, e, hg, hh, h4, h5, h6, ht⟩⟩ := h
  · exact absurd h.2 h0
  · injection e with e1 _ e2
    subst e2
    refine ⟨?_, .inr ⟨g, cap, cur, by rw [e1], hg, hh, by omega, h5, h6, ?_⟩⟩
    · rw [List.length_take]; omega
    · rw [← ht, List.take_take, Nat.mul_one, Nat.mul_one, Nat.min_eq_left (by omega)]
theorem del_list {m : Nat} (p : Fin (m + 1) → Bool) (g : Nat) (cb : Array Value) (A : Option Addr) (cap B : Nat) (zs : List (Fin (m + 1))) (w : World) (O : OwI B w (.slice A (zs.map fv).length cap) (zs.map fv)) (hB : B ≤ w.heap.size)
    (eg : ∀ args w, (callFunc g args).run Try.prog w = .ok (.enter g args) w) (hc : zs ≠ [] → ∀ W, Kp B 3 w W → ∀ x : Fin (m + 1), Calls Try.prog g (#[.int .i64 (fv x)] ++ cb) W fun e w' => e = .returned (.bool (p x)) ∧ ∃ q, w' = W.drewN q) (h20 : zs.length < 1000) :
    Calls Try.prog 37 #[.slice A (zs.map fv).length cap, .func (.func g) #[] cb] w fun e w' => e = .returned (.slice A ((zs.filter fun x => !p x).map fv).length cap) ∧ OwI B w' (.slice A ((zs.filter fun x => !p x).map fv).length cap) ((zs.filter fun x => !p x).map fv) ∧ Below B w w' := by
  rcases Nat.eq_zero_or_pos zs.length with h0 | h0
  · have e0 : zs = [] := List.eq_nil_of_length_eq_zero h0
    subst e0
    refine (del_none A cap _ w).mono ?_
    rintro e w' ⟨rfl, rfl⟩
    exact ⟨rfl, O, Below.refl _ _⟩
  · have O2 := O
    have hne : zs ≠ [] := by rintro rfl; simp at h0
    obtain ⟨_, ⟨_, hn0⟩ | ⟨gb, capb, cur, ev, hgb, hh, h1, h2, h3, h4⟩⟩ := O2
    · rw [List.length_map] at hn0; omega
    · cases ev
      have el : (zs.map fv).length = zs.toArray.size := by simp
      have am : (zs.toArray.map fv) = (zs.map fv).toArray := by simp
      have hH : Holds (encF m) w gb 0 zs.toArray := holds_F (by rw [am]; exact holds_of_blockI hh (by rw [Nat.mul_one] at h4; exact h4))
      have hgr : ∀ (n : Nat) (os : Array Obj) (d : Array Int), w.grownBy (grow (putRow (Value.int .i64) (Sort.ahead w n) gb 0 d) os) (Value.slice (some ⟨gb, 0, none⟩) (zs.map fv).length cap).ownBlock := fun n os d => grownBy_sortedI d
      have hp : PredAt Try.prog g cb (encF m) p w := fun W x hb => hc hne W (Kp.of_below hb hB) x
      have hpo : PredOver Try.prog g cb (encF m) p gb 0 zs.toArray.size w := by
        intro n os dk x hdk
        refine hc hne _ ?_ x
        unfold sortWorld
        rw [putRow_F]
        exact Kp.grown O (hgr n os _) (Nat.le_refl B) hB
      rw [el]
      refine (AnyE.slices_DeleteFunc Try.dlf (encF m) (one_F m) p g cb eg 0 (fun w => Try.zeroValue3 w) gb 0 cap zs.toArray w hp hpo hH (by simp; omega) (by rw [← el]; exact h1)).mono ?_
      rintro e w' ⟨rfl, n, rfl⟩
      have hfl : (zs.filter fun x => !p x).length ≤ zs.length := List.length_filter_le _ _
      rw [putRow_F]
      have et : ((zs.toArray.toList.filter fun x => !p x) ++ List.replicate (zs.toArray.size - (zs.toArray.toList.filter fun x => !p x).length) (0 : Fin (m + 1))).toArray.map fv = (((zs.filter fun x => !p x) ++ List.replicate (zs.length - (zs.filter fun x => !p x).length) (0 : Fin (m + 1))).map fv).toArray := by simp
      rw [et]
      have e1 : (zs.toArray.toList.filter fun x => !p x).length = ((zs.filter fun x => !p x).map fv).length := by simp
      rw [e1]
      refine ⟨rfl, ?_, below_grown O (by rw [← grow_empty (putRow (Value.int .i64) _ _ _ _)]; exact hgr n #[] _) hB⟩
      have r := ownsRow_sortedI (w := w) (n := n) (os := #[]) (ss := zs.map fv) (ts := ((zs.filter fun x => !p x) ++ List.replicate (zs.length - (zs.filter fun x => !p x).length) (0 : Fin (m + 1))).map fv) (by simp; omega) hgb hh h1 h2 h3
      rw [grow_empty] at r
      have r2 := cut_row r (k := (zs.filter fun x => !p x).length) (by simpa using hfl) (by simp; omega)
      unfold OwI
      rw [List.length_map]
      have e9 : (((zs.filter fun x => !p x) ++ List.replicate (zs.length - (zs.filter fun x => !p x).length) (0 : Fin (m + 1))).map fv).map ic = (((zs.filter fun x => !p x).map fv).map ic) ++ ((List.replicate (zs.length - (zs.filter fun x => !p x).length) (0 : Fin (m + 1))).map fv).map ic := by simp
      have e8 : (((zs.filter fun x => !p x).map fv).map ic).length = (zs.filter fun x => !p x).length := by simp
      have r3 : ((((zs.filter fun x => !p x) ++ List.replicate (zs.length - (zs.filter fun x => !p x).length) (0 : Fin (m + 1))).map fv).map ic).take (zs.filter fun x => !p x).length = ((zs.filter fun x => !p x).map fv).map ic := by
        rw [e9, ← e8, List.take_left]
      rw [← r3]
      exact r2
end Go.Proofs.Ytiopfeleaifpbaa.Bd
