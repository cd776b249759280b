import Derived.Test.YthoeolaleeogbaaCov2
import Derived.Shelf.Abstract
namespace Go.Proofs.Ythoeolaleeogbaa.Tb
open Go Go.RowKit Go.Proofs.Ythoeolaleeogbaa.Pt
set_option linter.unusedVariables false
/-- what is asked of a predicate on entries: it answers p, and may make boxes of its own -/
def PredT (g : Nat) (lb : Array Value) (p : Te → Bool) (w : World) (L : List Te) : Prop :=
  ∀ (W : World) (x : Te), x ∈ L → Below w.heap.size w W → Calls Try.prog g (#[tv x] ++ lb) W fun e w' => e = .returned (.bool (p x)) ∧ Below W.heap.size W w'
def Enters (g : Nat) : Prop := ∀ args w, (callFunc g args).run Try.prog w = .ok (.enter g args) w
def idxT (p : Te → Bool) (L : List Te) : Int := match L.findIdx? p with | some k => k | none => -1
theorem idxT_hit {p : Te → Bool} {L : List Te} {k : Nat} (hk : k < L.length) (h : p (teAt L k) = true) (hb : ∀ j, j < k → p (teAt L j) = false) : idxT p L = k := by
  have e : L.findIdx? p = some k := by
    rw [List.findIdx?_eq_some_iff_getElem]
    refine ⟨hk, by rw [← teAt_get hk]; exact h, fun j hj => ?_⟩
    have := hb j hj
    rw [teAt_get (show j < L.length by omega)] at this
    rw [this]; decide
  unfold idxT
  rw [e]
theorem idxT_miss {p : Te → Bool} {L : List Te} (hb : ∀ j, j < L.length → p (teAt L j) = false) : idxT p L = -1 := by
  have e : L.findIdx? p = none := by
    rw [List.findIdx?_eq_none_iff]
    intro x hx
    obtain ⟨j, hj, rfl⟩ := List.mem_iff_getElem.1 hx
    have := hb j hj
    rwa [teAt_get hj] at this
  unfold idxT
  rw [e]
theorem idxT_cases (p : Te → Bool) (L : List Te) : (idxT p L = -1 ∧ ∀ j, j < L.length → p (teAt L j) = false) ∨ ∃ k : Nat, k < L.length ∧ idxT p L = k ∧ p (teAt L k) = true ∧ ∀ j, j < k → p (teAt L j) = false := by
  cases h : L.findIdx? p with
  | none =>
    refine .inl ⟨by unfold idxT; rw [h], fun j hj => ?_⟩
    rw [List.findIdx?_eq_none_iff] at h
    rw [teAt_get hj]
    exact h _ (List.getElem_mem hj)
  | some k =>
    rw [List.findIdx?_eq_some_iff_getElem] at h
    obtain ⟨hk, h1, h2⟩ := h
    rw [← teAt_get hk] at h1
    have h3 : ∀ j, j < k → p (teAt L j) = false := fun j hj => by
      have := h2 j hj
      rw [teAt_get (show j < L.length by omega)]
      simpa using this
    exact .inr ⟨k, hk, idxT_hit hk h1 h3, h1, h3⟩
set_option maxHeartbeats 1000000 in
theorem index_any (g : Nat) (lb : Array Value) (p : Te → Bool) (A : Option Addr) (L : List Te) (c : Nat) (w0 w : World) (eg : Enters g) (hp : PredT g lb p w0 L) (hb0 : Below w0.heap.size w0 w) (hr : Ts w A L) (hn : L.length ≤ 1000) :
    Calls Try.prog 34 #[.slice A L.length c, .func (.func g) #[] lb] w fun e w' => e = .returned (.int .i64 (idxT p L)) ∧ Below w.heap.size w w' := by
  have HP := hide hp
  have HR := hide hr
  have H0 := hide hb0
  unfold Enters at eg
  clear hp hr hb0
  go_enter Try.func34, Try.ntmps34
  go_wp2
  go_loopw [5, 8] (fun _ i wr => ∃ k : Nat, k ≤ L.length ∧ i = .int .i64 k ∧ Hid (∀ j, j < k → p (teAt L j) = false) ∧ Below w.heap.size w wr) (fun _ i _ => L.length - (intOf i).toNat)
  case atStart => exact ⟨0, Nat.zero_le _, rfl, hide fun j hj => absurd hj (Nat.not_lt_zero _), brefl _⟩
  case round =>
    obtain ⟨k, hk, rfl, HA, hb⟩ := hrel
    have HB := hide hb
    by_cases hlt : k < L.length
    · obtain ⟨b, off, rfl, hbl, hcs⟩ := HR.out.cells hb hlt
      obtain ⟨c0, c1, c2⟩ := hcs k hlt
      have hcall := HP.out wr (teAt L k) (teAt_mem hlt) (btrans H0.out hb)
      cases hq : p (teAt L k) with
      | true =>
        rw [hq] at hcall
        have R := hide (idxT_hit hlt hq HA.out)
        unfold tv at hcall
        generalize (teAt L k).1 = x0 at *
        generalize (teAt L k).2.1 = x1 at *
        generalize (teAt L k).2.2 = x2 at *
        have C := hide hcall
        clear hcs hb hq hcall
        go_wp2_with fail
        refine C.out.mono ?_
        rintro e w' ⟨rfl, hb'⟩
        have KB := hide hb'
        clear hb'
        go_wp2_with fail
        go_ret
        exact ⟨ret_int R.out.symm, btrans HB.out KB.out⟩
      | false =>
        rw [hq] at hcall
        have R := hide (show ∀ j, j < k + 1 → p (teAt L j) = false from fun j hj => by
          by_cases e : j = k
          · rw [e]; exact hq
          · exact HA.out j (by omega))
        unfold tv at hcall
        generalize (teAt L k).1 = x0 at *
        generalize (teAt L k).2.1 = x1 at *
        generalize (teAt L k).2.2 = x2 at *
        have C := hide hcall
        clear hcs hb hq hcall
        go_wp2_with fail
        refine C.out.mono ?_
        rintro e w' ⟨rfl, hb'⟩
        have KB := hide hb'
        clear hb'
        go_wp2_with fail
        go_roundw
        case rel => exact ⟨k + 1, by omega, by go_num, R, btrans HB.out KB.out⟩
        case measure => simp [intOf]; omega
    · have R := hide (show idxT p L = -1 from idxT_miss fun j hj => HA.out j (by omega))
      clear hb
      go_wp2
      go_ret
      exact ⟨ret_int R.out.symm, HB.out⟩
theorem enters34 : Enters 34 := Go.Proofs.enters_of Try.func34 (by kernel_rfl) rfl
theorem contains_any (g : Nat) (lb : Array Value) (p : Te → Bool) (A : Option Addr) (L : List Te) (c : Nat) (w0 w : World) (eg : Enters g) (hp : PredT g lb p w0 L) (hb0 : Below w0.heap.size w0 w) (hr : Ts w A L) (hn : L.length ≤ 1000) :
    Calls Try.prog 53 #[.slice A L.length c, .func (.func g) #[] lb] w fun e w' => e = .returned (.bool (L.any p)) ∧ Below w.heap.size w w' := by
  have H := hide (index_any g lb p A L c w0 w eg hp hb0 hr hn)
  rcases idxT_cases p L with ⟨h1, h2⟩ | ⟨k, hk, h1, h2, h3⟩
  · have e : L.any p = false := by
      rw [List.any_eq_false]
      intro x hx
      obtain ⟨j, hj, rfl⟩ := List.mem_iff_getElem.1 hx
      rw [← teAt_get hj, h2 j hj]; decide
    rw [e]
    rw [h1] at H
    clear hp hr hb0 h1 h2 e eg
    go_enter Try.func53, Try.ntmps53
    go_wp2_with fail
    refine H.out.mono ?_
    rintro e w1 ⟨rfl, hb1⟩
    have K := hide hb1
    clear hb1
    go_wp2
    go_ret
    exact ⟨ret_bool (by simp), K.out⟩
  · have e : L.any p = true := by
      rw [List.any_eq_true]
      exact ⟨_, teAt_mem hk, h2⟩
    rw [e]
    rw [h1] at H
    clear hp hr hb0 h1 h2 h3 e eg
    go_enter Try.func53, Try.ntmps53
    go_wp2_with fail
    refine H.out.mono ?_
    rintro e w1 ⟨rfl, hb1⟩
    have K := hide hb1
    clear hb1
    have hz : (0 : Int) ≤ (k : Int) := by omega
    go_wp2
    go_ret
    exact ⟨ret_bool (by simp), K.out⟩
end Go.Proofs.Ythoeolaleeogbaa.Tb
