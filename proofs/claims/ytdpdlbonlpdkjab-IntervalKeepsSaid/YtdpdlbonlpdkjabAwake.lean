import Derived.Test.YtdpdlbonlpdkjabIvs
import Derived.Test.YtdpdlbonlpdkjabGaps
import Derived.Test.YtdpdlbonlpdkjabContains
namespace Go.Proofs.Ytdpdlbonlpdkjab.Iv
open Go Go.RowKit
set_option linter.unusedVariables false
theorem ints_new (w : World) (l : List Int) (cs : Array Value) (h : cs.toList = l.map ic) : Ints (w.alloc (.cells cs 3)) (some ⟨w.heap.size, 0, none⟩) l := fun _ => by
  refine ⟨w.heap.size, 0, rfl, by simp, fun k hk => ?_⟩
  have e : (w.alloc (.cells cs 3)).heap[w.heap.size]? = some (.cells cs 3 (0, 0)) := by
    show (w.heap.push _)[w.heap.size]? = _
    simp
  have e2 : cs[k]? = some (ic (l.getD k 0)) := by
    rw [← Array.getElem?_toList, h, List.getElem?_map, List.getElem?_eq_getElem hk, List.getD_eq_getElem?_getD, List.getElem?_eq_getElem hk]; rfl
  simp only [World.cell?, e, Nat.zero_add, e2]
  rfl
def ListEnd (L : IL) (n : Nat) (w : World) (e : Ending) (w' : World) : Prop := ∃ A' c', e = .returned (.slice A' n c') ∧ Iv w' A' L ∧ Below w.heap.size w w'
theorem iv_lit (L : IL) (cs : Array Value) (n m : Nat) (h : cs.toList = (edges L).map ic) (hn : 2 * L.length = n) (hm : L.length = m) (hl : L.length ≤ 100) (w : World) :
    Calls Try.prog 36 #[.slice (some ⟨w.heap.size, 0, none⟩) n n] (w.alloc (.cells cs 3)) (ListEnd L m w) := by
  rw [← hn]
  refine (iv_any _ L _ (w.alloc (.cells cs 3)) (ints_new w _ cs h) hl).mono ?_
  rintro e w' ⟨A', c', rfl, hmine, hb⟩
  exact ⟨A', c', by rw [hm], hmine.iv, btrans (bal (brefl _) _) hb⟩
theorem same_lit (A B : Option Addr) (L : IL) (n c d : Nat) (w : World) (hr : Iv w A L) (hs : Iv w B L) (hn : L.length = n) (hl : L.length ≤ 100) :
    Calls Try.prog 23 #[.slice A n c, .slice B n d] w fun e w' => e = .returned (.bool true) ∧ Below w.heap.size w w' := by
  rw [← hn]
  refine (same_any A B L L c d w hr hs (by omega) (by omega)).mono ?_
  rintro e w' ⟨rfl, hb⟩
  exact ⟨ret_bool (decide_eq_true rfl), hb⟩
def SetLit (R : IL) (n : Nat) (w : World) (e : Ending) (w' : World) : Prop := ∃ A' c', e = .returned (.tuple #[.slice A' n c', .int .i64 0]) ∧ Iv w' A' R ∧ Below w.heap.size w w'
theorem setLit {spec : Int → Bool} {R : IL} {n : Nat} (h : asc (edges R)) (hs : ∀ m, mem R m = spec m) (hn : R.length = n) {w : World} {e : Ending} {w' : World} (k : SetOk spec w e w') : SetLit R n w e w' := by
  obtain ⟨A', c', S, rfl, ha, hm, _, hmine, hb⟩ := k
  obtain rfl : S = R := il_ext ha h fun m => by rw [hm, hs]
  exact ⟨A', c', by rw [hn], hmine.iv, hb⟩
theorem aw_add (A : Option Addr) (c : Nat) (w : World) (hr : Iv w A [(1, 3)]) : Calls Try.prog 24 #[.slice A 1 c, .agg #[.int .i64 3, .int .i64 5]] w (SetLit [(1, 5)] 1 w) :=
  (add_ok A [(1, 3)] c 3 5 w hr (by simp) (by decide) (by decide)).mono fun e w' k => setLit (by unfold asc; decide) (fun m => by rw [Bool.eq_iff_iff]; simp [mem]; omega) rfl k
theorem aw_remove (A : Option Addr) (c : Nat) (w : World) (hr : Iv w A [(1, 9)]) : Calls Try.prog 25 #[.slice A 1 c, .agg #[.int .i64 3, .int .i64 5]] w (SetLit [(1, 3), (5, 9)] 2 w) :=
  (remove_ok A [(1, 9)] c 3 5 w hr (by simp) (by decide) (by decide)).mono fun e w' k => setLit (by unfold asc; decide) (fun m => by rw [Bool.eq_iff_iff]; simp [mem]; omega) rfl k
theorem aw_gap (A : Option Addr) (c : Nat) (w : World) (hr : Iv w A [(2, 4)]) : Calls Try.prog 30 #[.slice A 1 c, .int .i64 0, .int .i64 10, .int .i64 3] w fun e w' => e = .returned (.tuple #[.int .i64 4, .int .i64 0]) ∧ Below w.heap.size w w' :=
  (fgap_ok A [(2, 4)] c 0 10 3 w hr (by simp) (by decide) (by decide) (by decide) (by decide) (by decide) (by decide)).mono fun e w' ⟨R, ha, hm, he, hb⟩ => by
    obtain rfl : R = [(0, 2), (4, 10)] := il_ext ha (by unfold asc; decide) fun m => by rw [hm, Bool.eq_iff_iff]; simp [mem]; omega
    exact ⟨he, hb⟩
theorem aw_check (A : Option Addr) (c : Nat) (w : World) (hr : Iv w A [(1, 3), (3, 4)]) : Calls Try.prog 13 #[.slice A 2 c] w fun e w' => e = .returned (.int .i64 10) ∧ Below w.heap.size w w' :=
  (check_any A [(1, 3), (3, 4)] c w hr (by simp)).mono fun e w' ⟨he, hb⟩ => ⟨he, hb⟩
theorem aw_in (A : Option Addr) (c : Nat) (w : World) (hr : Iv w A [(1, 3)]) : Calls Try.prog 15 #[.slice A 1 c, .int .i64 2] w fun e w' => e = .returned (.bool true) ∧ Below w.heap.size w w' :=
  (contains_any A [(1, 3)] c 2 w hr (by simp)).mono fun e w' ⟨he, hb⟩ => ⟨he, hb⟩
theorem aw_out (A : Option Addr) (c : Nat) (w : World) (hr : Iv w A [(1, 3)]) : Calls Try.prog 15 #[.slice A 1 c, .int .i64 3] w fun e w' => e = .returned (.bool false) ∧ Below w.heap.size w w' :=
  (contains_any A [(1, 3)] c 3 w hr (by simp)).mono fun e w' ⟨he, hb⟩ => ⟨he, hb⟩
set_option maxHeartbeats 1000000 in
theorem awake (w : World) : Calls Try.prog 12 #[] w fun e w' => e = .returned (.bool true) ∧ Below w.heap.size w w' := by
  go_enter Try.func12, Try.ntmps12
  go_wp2_with fail
  refine (iv_lit [(1, 3)] _ 2 1 rfl rfl rfl (by simp) w).mono ?_
  rintro e w1 ⟨A1, c1, rfl, hr1, hb1⟩
  have K := hide hb1
  have R := hide hr1
  clear hb1 hr1
  go_wp2_with fail
  refine (aw_add _ _ _ R.out).mono ?_
  rintro e w2 ⟨A2, c2, rfl, hr2, hb2⟩
  replace K := hide (btrans K.out hb2)
  have Ra := hide hr2
  clear hb2 hr2 R
  go_wp2_with fail
  refine (iv_lit [(1, 9)] _ 2 1 rfl rfl rfl (by simp) w2).mono ?_
  rintro e w3 ⟨A3, c3, rfl, hr3, hb3⟩
  replace K := hide (btrans K.out hb3)
  replace Ra := hide (Ra.out.below hb3)
  have R := hide hr3
  clear hb3 hr3
  go_wp2_with fail
  refine (aw_remove _ _ _ R.out).mono ?_
  rintro e w4 ⟨A4, c4, rfl, hr4, hb4⟩
  replace K := hide (btrans K.out hb4)
  replace Ra := hide (Ra.out.below hb4)
  have Rb := hide hr4
  clear hb4 hr4 R
  go_wp2_with fail
  refine (iv_lit [(2, 4)] _ 2 1 rfl rfl rfl (by simp) w4).mono ?_
  rintro e w5 ⟨A5, c5, rfl, hr5, hb5⟩
  replace K := hide (btrans K.out hb5)
  replace Ra := hide (Ra.out.below hb5)
  replace Rb := hide (Rb.out.below hb5)
  have R := hide hr5
  clear hb5 hr5
  go_wp2_with fail
  refine (aw_gap _ _ _ R.out).mono ?_
  rintro e w6 ⟨rfl, hb6⟩
  replace K := hide (btrans K.out hb6)
  replace Ra := hide (Ra.out.below hb6)
  replace Rb := hide (Rb.out.below hb6)
  clear hb6 R
  go_wp2_with fail
  refine (iv_lit [(1, 5)] _ 2 1 rfl rfl rfl (by simp) w6).mono ?_
  rintro e w7 ⟨A7, c7, rfl, hr7, hb7⟩
  replace K := hide (btrans K.out hb7)
  replace Ra := hide (Ra.out.below hb7)
  replace Rb := hide (Rb.out.below hb7)
  have R := hide hr7
  clear hb7 hr7
  go_wp2_with fail
  refine (same_lit _ _ _ 1 _ _ _ Ra.out R.out rfl (by simp)).mono ?_
  rintro e w8 ⟨rfl, hb8⟩
  replace K := hide (btrans K.out hb8)
  replace Rb := hide (Rb.out.below hb8)
  clear hb8 R Ra
  go_wp2_with fail
  refine (iv_lit [(1, 3), (5, 9)] _ 4 2 rfl rfl rfl (by simp) w8).mono ?_
  rintro e w9 ⟨A9, c9, rfl, hr9, hb9⟩
  replace K := hide (btrans K.out hb9)
  replace Rb := hide (Rb.out.below hb9)
  have R := hide hr9
  clear hb9 hr9
  go_wp2_with fail
  refine (same_lit _ _ _ 2 _ _ _ Rb.out R.out rfl (by simp)).mono ?_
  rintro e w10 ⟨rfl, hb10⟩
  replace K := hide (btrans K.out hb10)
  clear hb10 R Rb
  go_wp2_with fail
  refine (iv_lit [(1, 3), (3, 4)] _ 4 2 rfl rfl rfl (by simp) w10).mono ?_
  rintro e w11 ⟨A11, c11, rfl, hr11, hb11⟩
  replace K := hide (btrans K.out hb11)
  have R := hide hr11
  clear hb11 hr11
  go_wp2_with fail
  refine (aw_check _ _ _ R.out).mono ?_
  rintro e w12 ⟨rfl, hb12⟩
  replace K := hide (btrans K.out hb12)
  clear hb12 R
  go_wp2_with fail
  refine (iv_lit [(1, 3)] _ 2 1 rfl rfl rfl (by simp) w12).mono ?_
  rintro e w13 ⟨A13, c13, rfl, hr13, hb13⟩
  replace K := hide (btrans K.out hb13)
  have R := hide hr13
  clear hb13 hr13
  go_wp2_with fail
  refine (aw_in _ _ _ R.out).mono ?_
  rintro e w14 ⟨rfl, hb14⟩
  replace K := hide (btrans K.out hb14)
  clear hb14 R
  go_wp2_with fail
  refine (iv_lit [(1, 3)] _ 2 1 rfl rfl rfl (by simp) w14).mono ?_
  rintro e w15 ⟨A15, c15, rfl, hr15, hb15⟩
  replace K := hide (btrans K.out hb15)
  have R := hide hr15
  clear hb15 hr15
  go_wp2_with fail
  refine (aw_out _ _ _ R.out).mono ?_
  rintro e w16 ⟨rfl, hb16⟩
  replace K := hide (btrans K.out hb16)
  clear hb16 R
  go_wp2_with fail
  go_ret
  exact ⟨rfl, K.out⟩
end Go.Proofs.Ytdpdlbonlpdkjab.Iv
