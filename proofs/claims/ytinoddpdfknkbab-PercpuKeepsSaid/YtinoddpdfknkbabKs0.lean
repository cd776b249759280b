import Derived.Test.YtinoddpdfknkbabLf0
import Derived.Test.YtinoddpdfknkbabAt
namespace Go.Proofs.Ytinoddpdfknkbab.Pc
open Go Go.RowKit
set_option linter.unusedVariables false
theorem perm_at {C : Ls} {k : Nat} (h : k < C.length) (l : Is) : (C.set k l).flatten.Perm (l ++ (C.set k []).flatten) := by
  have h2 : k < (C.set k []).length := by rw [List.length_set]; exact h
  have e : lAt (C.set k []) k = [] := by rw [lAt_set h, if_pos rfl]
  have := perm_set h2 l
  rw [e, List.nil_append, List.set_set] at this
  exact this
theorem perm_cut {C : Ls} {k : Nat} (h : k < C.length) (a b : Is) : (C.set k (a ++ b)).flatten.Perm (a ++ (C.set k b).flatten) := by
  refine (perm_at h _).trans ?_
  rw [List.append_assoc]
  exact ((perm_at h b).symm).append_left a
theorem set_same {C : Ls} {k : Nat} (h : k < C.length) : C.set k (lAt C k) = C := by rw [lAt_get h]; exact List.set_getElem_self h
theorem tkE_zero {C : Ls} {z : Int} : tkE C z = 0 ↔ czE C z = 0 ∧ lAt C z.toNat ≠ [] := by
  unfold tkE
  by_cases h0 : czE C z = 0
  · rw [if_neg (fun x => x h0)]
    by_cases h1 : lAt C z.toNat = []
    · rw [if_pos h1]; exact ⟨fun e => absurd e (by decide), fun e => absurd h1 e.2⟩
    · rw [if_neg h1]; exact ⟨fun _ => ⟨h0, h1⟩, fun _ => rfl⟩
  · rw [if_pos h0]; exact ⟨fun e => absurd e h0, fun e => absurd e.1 h0⟩
theorem take_perm {C : Ls} {z : Int} (e : tkE C z = 0) : C.flatten.Perm (tkF C z :: (tkC C z).flatten) := by
  obtain ⟨h0, h1⟩ := tkE_zero.1 e
  have hz : z.toNat < C.length := by have := czE_zero.1 h0; omega
  unfold tkF tkC
  rw [if_pos e, if_pos e]
  generalize hk : z.toNat = k at *
  have hl : (lAt C k).length ≠ 0 := fun x => h1 (List.eq_nil_of_length_eq_zero x)
  obtain ⟨m, hm⟩ : ∃ m, (lAt C k).length = m + 1 := ⟨(lAt C k).length - 1, by omega⟩
  have e2 : lAt C k = (lAt C k).take m ++ [(lAt C k).getD m 0] := by
    have := getD_snoc (l := lAt C k) (k := m) (by omega)
    rw [← this, ← hm, List.take_length]
  rw [hm, Nat.add_sub_cancel]
  generalize (lAt C k).getD m 0 = g at *
  generalize (lAt C k).take m = l at *
  have e3 : C.set k (l ++ [g]) = C := by rw [← e2]; exact set_same hz
  have p : (C.set k (l ++ [g])).flatten.Perm (g :: (C.set k l).flatten) := by
    refine (perm_at hz _).trans ?_
    rw [List.append_assoc]
    exact List.perm_middle.trans (((perm_at hz l).symm).cons g)
  rw [e3] at p
  exact p
theorem put_perm {C : Ls} {z f b h : Int} (e : ptE C z f b h = 0) : (f :: C.flatten).Perm (ptB C z f b h ++ (ptC C z f b h).flatten) := by
  obtain ⟨h0, _, _, _, _⟩ := ptE_zero.1 e
  have hz : z.toNat < C.length := by have := czE_zero.1 h0; omega
  have p1 : (f :: C.flatten).Perm (C.set z.toNat (lAt C z.toNat ++ [f])).flatten := (perm_set hz [f]).symm
  unfold ptB ptC
  rw [if_pos e]
  by_cases hv : h < ((lAt C z.toNat).length : Int) + 1
  · rw [if_pos hv, if_pos ⟨e, hv⟩]
    refine p1.trans ?_
    have := perm_cut hz ((lAt C z.toNat ++ [f]).take b.toNat) ((lAt C z.toNat ++ [f]).drop b.toNat)
    rw [List.take_append_drop] at this
    exact this
  · rw [if_neg hv, if_neg (fun x => hv x.2)]
    exact p1
/-- a cache as the script makes it: n lists, valid, none longer than m, not more than k frames -/
structure Vk (n : Nat) (m : Int) (k : Nat) (D : Ls) : Prop where
  len : D.length = n
  ok : frE D = 0
  most : ∀ j, j < n → ((lAt D j).length : Int) ≤ m
  few : D.flatten.length ≤ k
section
variable {n k : Nat} {m : Int} {D : Ls} {z f b h : Int}
theorem Vk.up (v : Vk n m k D) : Vk n m (k + 1) D := ⟨v.len, v.ok, v.most, by have := v.few; omega⟩
theorem Vk.sz (v : Vk n m k D) (hk : k ≤ 60) (hn : n ≤ 6) : Sz 1000 1000 D := ⟨by rw [v.len]; omega, fun j hj => by
  have := (List.sublist_flatten_of_mem (lAt_mem hj)).length_le
  have := v.few
  omega⟩
theorem Vk.cz (v : Vk n m k D) (h1 : 1 ≤ n) (hn : n ≤ 6) (h2 : 0 ≤ z) (h3 : z < n) : czE D z = 0 := czE_zero.2 ⟨by rw [v.len]; omega, v.ok, h2, by rw [v.len]; exact h3⟩
theorem Vk.rng (v : Vk n m k D) : ∀ f ∈ D.flatten, 0 ≤ f ∧ f < 256 := (frE_zero.1 v.ok).1
theorem Vk.nd (v : Vk n m k D) : D.flatten.Nodup := (frE_zero.1 v.ok).2
theorem Vk.take (v : Vk n m k D) (e : tkE D z = 0) : Vk n m k (tkC D z) ∧ (0 ≤ tkF D z ∧ tkF D z < 256) ∧ tkF D z ∈ D.flatten ∧ ∀ i : Int, i ∈ (tkC D z).flatten ↔ i ∈ D.flatten ∧ i ≠ tkF D z := by
  have p := take_perm e
  have nd := p.nodup_iff.1 v.nd
  have nd' := List.nodup_cons.1 nd
  have hm : tkF D z ∈ D.flatten := p.mem_iff.2 (List.mem_cons_self)
  obtain ⟨h0, h1⟩ := tkE_zero.1 e
  have hz : z.toNat < D.length := by have := czE_zero.1 h0; omega
  have ec : tkC D z = D.set z.toNat ((lAt D z.toNat).take ((lAt D z.toNat).length - 1)) := by unfold tkC; rw [if_pos e]
  refine ⟨⟨by rw [ec, List.length_set]; exact v.len, frE_zero.2 ⟨fun f hf => v.rng f (p.mem_iff.2 (List.mem_cons_of_mem _ hf)), nd'.2⟩, fun j hj => ?_, ?_⟩, v.rng _ hm, hm, fun i => ?_⟩
  · have := v.most j hj
    rw [ec, lAt_set hz]
    by_cases ej : j = z.toNat
    · rw [if_pos ej, List.length_take]; subst ej; omega
    · rw [if_neg ej]; exact this
  · have := p.length_eq
    have := v.few
    simp only [List.length_cons] at *
    omega
  · rw [p.mem_iff, List.mem_cons]
    constructor
    · intro hi; exact ⟨.inr hi, fun x => nd'.1 (x ▸ hi)⟩
    · rintro ⟨hi | hi, hne⟩
      · exact absurd hi hne
      · exact hi
theorem Vk.put (v : Vk n m k D) (e : ptE D z f b h = 0) : Vk n (max m h) (k + 1) (ptC D z f b h) ∧ (ptB D z f b h ++ (ptC D z f b h).flatten).Nodup ∧ (∀ i ∈ ptB D z f b h, 0 ≤ i ∧ i < 256) ∧ (∀ i : Int, (i = f ∨ i ∈ D.flatten) ↔ i ∈ ptB D z f b h ++ (ptC D z f b h).flatten) ∧ (ptB D z f b h).length ≤ k + 1 := by
  have p := put_perm e
  obtain ⟨h0, hf, hb1, hbh, hnf⟩ := ptE_zero.1 e
  have hf' : 0 ≤ f ∧ f < 256 := by simpa [fr] using hf
  have nd : (ptB D z f b h ++ (ptC D z f b h).flatten).Nodup := p.nodup_iff.1 (List.nodup_cons.2 ⟨hnf, v.nd⟩)
  have rg : ∀ i ∈ ptB D z f b h ++ (ptC D z f b h).flatten, 0 ≤ i ∧ i < 256 := fun i hi => by
    rcases List.mem_cons.1 (p.mem_iff.2 hi) with rfl | hi
    · exact hf'
    · exact v.rng i hi
  have hz : z.toNat < D.length := by have := czE_zero.1 h0; omega
  have hz' : z.toNat < n := by rw [← v.len]; exact hz
  have le := p.length_eq
  have lf := v.few
  simp only [List.length_cons, List.length_append] at le
  refine ⟨⟨?_, frE_zero.2 ⟨fun i hi => rg i (List.mem_append.2 (.inr hi)), (List.nodup_append.1 nd).2.1⟩, fun j hj => ?_, by omega⟩, nd, fun i hi => rg i (List.mem_append.2 (.inl hi)), fun i => ?_, by omega⟩
  · unfold ptC
    rw [if_pos e]
    split <;> rw [List.length_set] <;> exact v.len
  · have hj1 := v.most j hj
    have hj2 := v.most _ hz'
    unfold ptC
    rw [if_pos e]
    split
    · rw [lAt_set hz]
      by_cases ej : j = z.toNat
      · rw [if_pos ej, List.length_drop, List.length_append, List.length_singleton]; omega
      · rw [if_neg ej]; omega
    · rw [lAt_set hz]
      by_cases ej : j = z.toNat
      · rw [if_pos ej, List.length_append, List.length_singleton]; omega
      · rw [if_neg ej]; omega
  · rw [← p.mem_iff, List.mem_cons]
theorem Vk.new {n : Nat} (h1 : 1 ≤ n) (h6 : n ≤ 6) : nwC (n : Int) = List.replicate n [] ∧ Vk n 0 0 (List.replicate n []) := by
  have ef : (List.replicate n ([] : Is)).flatten = [] := by
    induction n with
    | zero => rfl
    | succ n ih => rw [List.replicate_succ, List.flatten_cons, List.nil_append]; rcases n with _ | n; rfl; exact ih (by omega) (by omega)
  refine ⟨by unfold nwC; rw [if_neg (by omega), Int.toNat_natCast], by simp, ?_, fun j hj => ?_, by rw [ef]; simp⟩
  · rw [frE_zero, ef]; exact ⟨fun f hf => by simp at hf, List.nodup_nil⟩
  · have : lAt (List.replicate n ([] : Is)) j = [] := by unfold lAt; rw [List.getD_eq_getElem?_getD, List.getElem?_replicate]; split <;> rfl
    rw [this]; simp
end
/-- how many frames of S lie below i -/
def below (S : Is) (i : Nat) : Nat := (S.filter (fun x => decide (x < (i : Int)))).length
theorem below_zero {S : Is} (h : ∀ x ∈ S, 0 ≤ x ∧ x < 256) : below S 0 = 0 := by
  unfold below
  rw [List.length_eq_zero_iff, List.filter_eq_nil_iff]
  intro x hx
  have := h x hx
  simpa using this.1
theorem below_all {S : Is} (h : ∀ x ∈ S, 0 ≤ x ∧ x < 256) : below S 256 = S.length := by
  unfold below
  rw [List.filter_eq_self.2 fun x hx => by have := h x hx; simpa using this.2]
theorem below_in {S : Is} (hn : S.Nodup) {i : Nat} (hi : (i : Int) ∈ S) : below S (i + 1) = below S i + 1 := by
  induction S with
  | nil => simp at hi
  | cons x S ih =>
    obtain ⟨h1, h2⟩ := List.nodup_cons.1 hn
    unfold below at *
    rcases List.mem_cons.1 hi with e | hm
    · subst e
      have e2 : S.filter (fun x => decide (x < ((i + 1 : Nat) : Int))) = S.filter (fun x => decide (x < (i : Int))) := List.filter_congr fun y hy => by
        have : y ≠ (i : Int) := fun e => h1 (e ▸ hy)
        by_cases hh : y < (i : Int)
        · rw [decide_eq_true hh, decide_eq_true (by omega)]
        · rw [decide_eq_false hh, decide_eq_false (by omega)]
      rw [List.filter_cons, List.filter_cons, if_pos (by simp; omega), if_neg (by simp), e2, List.length_cons]
    · have hx : x ≠ (i : Int) := fun e => h1 (e ▸ hm)
      have := ih h2 hm
      rw [List.filter_cons, List.filter_cons]
      by_cases hh : x < (i : Int)
      · rw [if_pos (by simp; omega), if_pos (by simpa using hh), List.length_cons, List.length_cons, this]
      · rw [if_neg (by simp; omega), if_neg (by simpa using hh), this]
theorem below_out {S : Is} {i : Nat} (hi : (i : Int) ∉ S) : below S (i + 1) = below S i := by
  unfold below
  rw [List.filter_congr fun y hy => ?_]
  have : y ≠ (i : Int) := fun e => hi (e ▸ hy)
  by_cases hh : y < (i : Int)
  · rw [decide_eq_true hh, decide_eq_true (by omega)]
  · rw [decide_eq_false hh, decide_eq_false (by omega)]
theorem below_le (S : Is) (i : Nat) : below S i ≤ S.length := List.length_filter_le _ _
/-- the array of what is in the lists -/
def InB (w : World) (g : Nat) (S : Is) : Prop := w.rowIs g 46 256 (fun j => .bool (decide ((j : Int) ∈ S)))
section
variable {w w' : World} {g : Nat} {S S' : Is}
theorem InB.below (h : InB w g S) (hb : Below w.heap.size w w') : InB w' g S := rowIs_below h hb
theorem InB.congr (h : InB w g S) (e : ∀ i : Int, i ∈ S ↔ i ∈ S') : InB w g S' := World.rowIs.congr h fun i _ => by
  have := e i
  by_cases hi : (i : Int) ∈ S
  · rw [decide_eq_true hi, decide_eq_true (this.1 hi)]
  · rw [decide_eq_false hi, decide_eq_false (fun x => hi (this.2 x))]
theorem InB.on (h : InB w g S) (f : Nat) (e : ∀ i : Int, (i = f ∨ i ∈ S) ↔ i ∈ S') : InB (w.setCell ⟨g, f, none⟩ (.bool true)) g S' := (World.rowIs.set h f (.bool true)).congr fun i _ => by
  have he := e i
  by_cases hi : i = f
  · subst hi
    rw [if_pos rfl, decide_eq_true (he.1 (.inl rfl))]
  · rw [if_neg hi]
    by_cases hm : (i : Int) ∈ S
    · rw [decide_eq_true hm, decide_eq_true (he.1 (.inr hm))]
    · rw [decide_eq_false hm, decide_eq_false (fun x => by rcases he.2 x with y | y; omega; exact hm y)]
theorem InB.off (h : InB w g S) (f : Nat) (e : ∀ i : Int, (i ∈ S ∧ i ≠ f) ↔ i ∈ S') : InB (w.setCell ⟨g, f, none⟩ (.bool false)) g S' := (World.rowIs.set h f (.bool false)).congr fun i _ => by
  have he := e i
  by_cases hi : i = f
  · subst hi
    rw [if_pos rfl, decide_eq_false (fun x => (he.2 x).2 rfl)]
  · rw [if_neg hi]
    by_cases hm : (i : Int) ∈ S
    · rw [decide_eq_true hm, decide_eq_true (he.1 ⟨hm, by omega⟩)]
    · rw [decide_eq_false hm, decide_eq_false (fun x => hm (he.2 x).1)]
theorem InB.box (h : InB w g S) : ∃ cs, Box w g 46 cs := by
  unfold InB World.rowIs at h
  obtain ⟨c, hc, _⟩ := h
  exact ⟨c, hc⟩
theorem InB.kp {B : Nat} {T : TypeId} (h : InB w g S) (hk : Kp B T w w') (hne : (46 : TypeId) ≠ T) : InB w' g S := by
  obtain ⟨cs, hb⟩ := h.box
  exact World.rowIs.of_block h (by have := hb.kp hk hne; unfold Box at this hb; rw [this, hb])
theorem RdO.kpT {B : Nat} {T : TypeId} {A : Option Addr} {c : Nat} {C : Ls} (h : RdO w A c C) (hk : Kp B T w w') (h1 : (34 : TypeId) ≠ T) (h2 : (3 : TypeId) ≠ T) : RdO w' A c C := by
  obtain ⟨vs, h⟩ := h
  exact ⟨vs, h.kp hk h1 h2⟩
theorem CaO.kpT {B : Nat} {T : TypeId} {A : Option Addr} {n c : Nat} {C : Ls} (h : CaO w A n c C) (hk : Kp B T w w') (h1 : (34 : TypeId) ≠ T) (h2 : (3 : TypeId) ≠ T) : CaO w' A n c C := ⟨h.1, h.2.1, h.2.2.kpT hk h1 h2⟩
end
theorem drop_at0 {l : Is} {j : Nat} (h : j < l.length) : l.drop j = l.getD j 0 :: l.drop (j + 1) := by
  rw [List.drop_eq_getElem_cons h, List.getD_eq_getElem?_getD, List.getElem?_eq_getElem h]; rfl
end Go.Proofs.Ytinoddpdfknkbab.Pc
