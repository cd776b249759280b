import Derived.Test.YtinoddpdfknkbabRl
import Derived.Test.YtinoddpdfknkbabTk1
import Derived.Test.YtinoddpdfknkbabTk2
import Derived.Test.YtinoddpdfknkbabPt1
import Derived.Test.YtinoddpdfknkbabPt2
namespace Go.Proofs.Ytinoddpdfknkbab.Pc
open Go Go.RowKit
set_option linter.unusedVariables false
/-- a cache of n lists, of a call's own -/
def CaO (w : World) (A : Option Addr) (n c : Nat) (C : Ls) : Prop := C.length = n ∧ n ≤ c ∧ RdO w A c C
section
variable {w w' : World} {A : Option Addr} {n c : Nat} {C : Ls}
theorem CaO.below (h : CaO w A n c C) (hb : Below w.heap.size w w') : CaO w' A n c C := ⟨h.1, h.2.1, h.2.2.below hb⟩
theorem CaO.kp {B : Nat} (h : CaO w A n c C) (hk : Kp B 24 w w') : CaO w' A n c C := ⟨h.1, h.2.1, h.2.2.kp hk⟩
theorem CaO.in_ (h : CaO w A n c C) : CaIn w (.agg #[.slice A n c]) C := by
  obtain ⟨rfl, h2, h3⟩ := h
  exact ⟨A, c, rfl, h2, h3.rd⟩
end
def A2 (C' : Ls) (n' : Nat) (er : Int) (w : World) (e : Ending) (w' : World) : Prop := ∃ A c, e = .returned (.tuple #[.agg #[.slice A n' c], .int .i64 er]) ∧ CaO w' A n' c C' ∧ Below w.heap.size w w'
def A3 (C' : Ls) (n' : Nat) (f er : Int) (w : World) (e : Ending) (w' : World) : Prop := ∃ A c, e = .returned (.tuple #[.agg #[.slice A n' c], .int .i64 f, .int .i64 er]) ∧ CaO w' A n' c C' ∧ Below w.heap.size w w'
def AB (C' : Ls) (n' : Nat) (l : Is) (m : Nat) (er : Int) (w : World) (e : Ending) (w' : World) : Prop := ∃ A c D d, e = .returned (.tuple #[.agg #[.slice A n' c], .slice D m d, .int .i64 er]) ∧ CaO w' A n' c C' ∧ l.length = m ∧ m ≤ d ∧ OwnI w' (.slice D m d) l ∧ Below w.heap.size w w'
theorem R2.a {C C' : Ls} {n' : Nat} {er er' : Int} {w w' : World} {e : Ending} (h : R2 C er w e w') (h1 : C = C') (h2 : er = er') (h3 : C'.length = n') : A2 C' n' er' w e w' := by
  subst h1 h2 h3
  obtain ⟨A, c, he, hc, hr, hb⟩ := h
  exact ⟨A, c, he, ⟨rfl, hc, hr⟩, hb⟩
theorem R3.a {C C' : Ls} {n' : Nat} {f f' er er' : Int} {w w' : World} {e : Ending} (h : R3 C f er w e w') (h1 : C = C') (h0 : f = f') (h2 : er = er') (h3 : C'.length = n') : A3 C' n' f' er' w e w' := by
  subst h1 h2 h3 h0
  obtain ⟨A, c, he, hc, hr, hb⟩ := h
  exact ⟨A, c, he, ⟨rfl, hc, hr⟩, hb⟩
theorem RB.a {C C' : Ls} {n' m : Nat} {l l' : Is} {er er' : Int} {w w' : World} {e : Ending} (h : RB C l er w e w') (h1 : C = C') (h0 : l = l') (h2 : er = er') (h3 : C'.length = n') (h4 : l'.length = m) : AB C' n' l' m er' w e w' := by
  subst h1 h2 h3 h0 h4
  obtain ⟨A, c, D, d, he, hc, hd, hr, ho, hb⟩ := h
  exact ⟨A, c, D, d, he, ⟨rfl, hc, hr⟩, rfl, hd, ho, hb⟩
section
variable {A : Option Addr} {n c n' m : Nat} {C C' : Ls} {l : Is} {z f b h er : Int} {w : World}
theorem put_at (hC : CaO w A n c C) (hS : Sz 1000 1000 C) (h1 : ptC C z f b h = C') (h2 : ptB C z f b h = l) (h3 : ptE C z f b h = er) (h4 : C'.length = n') (h5 : l.length = m) : Calls Try.prog 23 #[.agg #[.slice A n c], .int .i64 z, .int .i64 f, .int .i64 b, .int .i64 h] w (AB C' n' l m er w) :=
  (put_any _ C z f b h w hC.in_ hS).mono fun _ _ hh => hh.a h1 h2 h3 h4 h5
theorem take_at (hC : CaO w A n c C) (hS : Sz 1000 1000 C) (h1 : tkC C z = C') (h2 : tkF C z = f) (h3 : tkE C z = er) (h4 : C'.length = n') : Calls Try.prog 18 #[.agg #[.slice A n c], .int .i64 z] w (A3 C' n' f er w) :=
  (take_any _ C z w hC.in_ hS).mono fun _ _ hh => hh.a h1 h2 h3 h4
theorem drain_at (hC : CaO w A n c C) (hS : Sz 1000 1000 C) (h1 : drC C z = C') (h2 : drL C z = l) (h3 : czE C z = er) (h4 : C'.length = n') (h5 : l.length = m) : Calls Try.prog 20 #[.agg #[.slice A n c], .int .i64 z] w (AB C' n' l m er w) :=
  (drain_any _ C z w hC.in_ hS).mono fun _ _ hh => hh.a h1 h2 h3 h4 h5
theorem count_at (hC : CaO w A n c C) (hS : Sz 1000 1000 C) (h1 : cnt C z = er) : Calls Try.prog 16 #[.agg #[.slice A n c], .int .i64 z] w fun e w' => e = .returned (.int .i64 er) ∧ Below w.heap.size w w' := by
  subst h1; exact count_any _ C z w hC.in_ hS
theorem check_at (hC : CaO w A n c C) (hS : Sz 1000 1000 C) (h1 : chk C z = er) : Calls Try.prog 14 #[.agg #[.slice A n c], .int .i64 z] w fun e w' => e = .returned (.int .i64 er) ∧ Below w.heap.size w w' := by
  subst h1; exact check_any _ C z w hC.in_ hS
theorem refill_at {Af : Option Addr} {cf : Nat} {fs : Is} (hC : CaO w A n c C) (hS : Sz 1000 1000 C) (hq : Bi w Af fs) (hl : fs.length = m) (hcf : m ≤ cf) (hn : m ≤ 1000) (h1 : rfC C z fs = C') (h3 : rfE C z fs = er) (h4 : C'.length = n') : Calls Try.prog 25 #[.agg #[.slice A n c], .int .i64 z, .slice Af m cf] w (A2 C' n' er w) := by
  subst hl
  exact (refill_any _ C z Af cf fs w hC.in_ hS hq hcf hn).mono fun _ _ hh => hh.a h1 h3 h4
theorem new_at (h1 : nwC z = C') (h3 : nwE0 z = er) (h4 : C'.length = n') : Calls Try.prog 11 #[.int .i64 z] w (A2 C' n' er w) :=
  (new_any z w).mono fun _ _ hh => hh.a h1 h3 h4
theorem eq_at {A1 A2 : Option Addr} {c1 c2 : Nat} (h1 : Bi w A1 l) (h2 : Bi w A2 l) (hl : l.length = m) (hn : m ≤ 9223372036854775807) : Calls Try.prog 22 #[.slice A1 m c1, .slice A2 m c2] w fun e w' => e = .returned (.bool true) ∧ Below w.heap.size w w' := by
  subst hl; exact seq_any A1 A2 c1 c2 l w h1 h2 hn
end
theorem OwnI.bi {w : World} {D : Option Addr} {m d : Nat} {l : Is} (h : OwnI w (.slice D m d) l) : Bi w D l := by
  obtain ⟨A, c, e, _, hb⟩ := h.is
  injection e with e1 _ _
  rw [e1]; exact hb
/-- a short list just made -/
theorem bi_box {w : World} {g : Nat} {cs : Array Value} {l : Is} (h : Box w g 3 cs) (hc : cs.toList = l.map ic) : Bi w (some ⟨g, 0, none⟩) l := fun hn => by
  refine ⟨g, 0, rfl, h.lt, fun k hk => ?_⟩
  rw [h.cell, Nat.zero_add, ← Array.getElem?_toList, hc, List.getElem?_map, List.getElem?_eq_getElem hk, List.getD_eq_getElem?_getD, List.getElem?_eq_getElem hk]
  rfl
def awC : Nat → Ls
  | 0 => [[], []]
  | 1 => [[], [7]]
  | 2 => [[], [7, 4]]
  | _ => [[], [7, 4, 9]]
theorem sz_of {C : Ls} {a b : Nat} (h : C.length ≤ a) (h2 : ∀ l ∈ C, l.length ≤ b) : Sz a b C := ⟨h, fun k hk => h2 _ (lAt_mem hk)⟩
theorem sz_awC (k : Nat) : Sz 1000 1000 (awC k) := by
  apply sz_of
  · rcases k with _ | _ | _ | k <;> first | decide | (show List.length ([[], [7, 4, 9]] : Ls) ≤ 1000; decide)
  · rcases k with _ | _ | _ | k <;> first | decide | (show ∀ l ∈ ([[], [7, 4, 9]] : Ls), l.length ≤ 1000; decide)
theorem aw_put0 : ptC [[], []] 1 7 2 3 = [[], [7]] ∧ ptB [[], []] 1 7 2 3 = [] ∧ ptE [[], []] 1 7 2 3 = 0 := by decide
theorem aw_put1 : ptC [[], [7]] 1 4 2 3 = [[], [7, 4]] ∧ ptB [[], [7]] 1 4 2 3 = [] ∧ ptE [[], [7]] 1 4 2 3 = 0 := by decide
theorem aw_put2 : ptC [[], [7, 4]] 1 9 2 3 = [[], [7, 4, 9]] ∧ ptB [[], [7, 4]] 1 9 2 3 = [] ∧ ptE [[], [7, 4]] 1 9 2 3 = 0 := by decide
theorem aw_put3 : ptC [[], [7, 4, 9]] 1 5 2 3 = [[], [9, 5]] ∧ ptB [[], [7, 4, 9]] 1 5 2 3 = [7, 4] ∧ ptE [[], [7, 4, 9]] 1 5 2 3 = 0 := by decide
theorem aw_take : tkC [[], [9, 5]] 1 = [[], [9]] ∧ tkF [[], [9, 5]] 1 = 5 ∧ tkE [[], [9, 5]] 1 = 0 := by decide
theorem aw_count : cnt [[], [9, 5]] 1 = 2 ∧ chk [[], [9, 5]] 2 = 0 := by decide
theorem aw_refill : rfC [[], [9]] 1 [2, 3] = [[], [9, 3, 2]] ∧ rfE [[], [9]] 1 [2, 3] = 0 := by decide
theorem aw_take2 : tkC [[], [9, 3, 2]] 1 = [[], [9, 3]] ∧ tkF [[], [9, 3, 2]] 1 = 2 ∧ tkE [[], [9, 3, 2]] 1 = 0 := by decide
theorem aw_drain : drC [[], [9, 3]] 1 = [[], []] ∧ drL [[], [9, 3]] 1 = [9, 3] ∧ czE [[], [9, 3]] 1 = 0 := by decide
theorem aw_new : nwC 2 = [[], []] ∧ nwE0 2 = 0 := by decide
end Go.Proofs.Ytinoddpdfknkbab.Pc
