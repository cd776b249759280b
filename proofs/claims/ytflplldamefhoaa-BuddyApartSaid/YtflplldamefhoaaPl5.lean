import Derived.Test.YtflplldamefhoaaPl4
import Derived.Test.YtflplldamefhoaaCk2
namespace Go.Proofs.Ytflplldamefhoaa.Bd
open Go Go.RowKit
set_option linter.unusedVariables false
-- WHO OWNS A FRAME
def oc (H : List He) (x : Int) : Nat := H.countP fun h => decide (dn h.2 x = h.1)
theorem oc_pos {H : List He} {x : Int} : 0 < oc H x ↔ ∃ h ∈ H, dn h.2 x = h.1 := by
  unfold oc
  rw [List.countP_pos_iff]
  constructor
  · rintro ⟨h, hm, e⟩; exact ⟨h, hm, of_decide_eq_true e⟩
  · rintro ⟨h, hm, e⟩; exact ⟨h, hm, decide_eq_true e⟩
theorem oc_one : ∀ {H : List He} {x : Int}, (H.Pairwise fun a b => ∀ x, ¬ (dn a.2 x = a.1 ∧ dn b.2 x = b.1)) → oc H x ≤ 1
  | [], x, _ => by simp [oc]
  | a :: l, x, h => by
    have h2 := List.pairwise_cons.1 h
    have ih := oc_one (x := x) h2.2
    unfold oc at ih ⊢
    rw [List.countP_cons]
    by_cases e : dn a.2 x = a.1
    · have h0 : ¬ 0 < oc l x := fun hp => by
        obtain ⟨b, hb, eb⟩ := oc_pos.1 hp
        exact h2.1 b hb x ⟨e, eb⟩
      unfold oc at h0
      rw [if_pos (decide_eq_true e)]
      omega
    · rw [if_neg (by simpa using e)]
      omega
theorem oc_len (H : List He) (x : Int) : oc H x ≤ H.length := List.countP_le_length
theorem oc_take {H : List He} {i : Nat} (hi : i < H.length) (x : Int) : oc (H.take (i + 1)) x = oc (H.take i) x + if dn (heAt H i).2 x = (heAt H i).1 then 1 else 0 := by
  unfold oc
  rw [List.take_succ_eq_append_getElem hi, List.countP_append, heAt_get hi]
  congr 1
  rw [List.countP_cons]
  simp
/-- while a block's frames are counted: those below g -/
def oi (H : List He) (i : Nat) (f : Int) (k : Nat) (g : Int) (x : Int) : Nat := oc (H.take i) x + if dn k x = f ∧ x < g then 1 else 0
theorem oi_zero {H : List He} {i : Nat} {f : Int} {k : Nat} (x : Int) : oi H i f k f x = oc (H.take i) x := by
  unfold oi
  rw [if_neg (fun h => by have := dn_le k x; omega)]
  rfl
theorem oi_all {H : List He} {i : Nat} (hi : i < H.length) {f : Int} {k : Nat} (he : heAt H i = (f, k)) (x : Int) : oi H i f k (f + bw k) x = oc (H.take (i + 1)) x := by
  unfold oi
  rw [oc_take hi, he]
  by_cases e : dn k x = f
  · rw [if_pos ⟨e, by have := dn_lt k x; omega⟩, if_pos e]
  · rw [if_neg (fun h => e h.1), if_neg e]
theorem oi_step {H : List He} {i : Nat} {f : Int} {k : Nat} {g : Nat} (hg : dn k g = f) (x : Nat) : oi H i f k ((g : Int) + 1) x = if x = g then oi H i f k g x + 1 else oi H i f k g x := by
  unfold oi
  by_cases e : x = g
  · subst e
    rw [if_pos ⟨hg, by omega⟩, if_pos rfl, if_neg (fun h => by omega)]
  · rw [if_neg e]
    by_cases e2 : dn k x = f ∧ (x : Int) < g
    · rw [if_pos e2, if_pos ⟨e2.1, by omega⟩]
    · rw [if_neg e2, if_neg (fun h => e2 ⟨h.1, by omega⟩)]
theorem oi_le (H : List He) (i : Nat) (f : Int) (k : Nat) (g x : Int) : oi H i f k g x ≤ H.length + 1 := by
  unfold oi
  have := oc_len (H.take i) x
  have h2 : (H.take i).length ≤ H.length := by rw [List.length_take]; omega
  split <;> omega
/-- with the free frames below f -/
def ot (L : Fl) (H : List He) (f : Nat) (x : Int) : Nat := oc H x + if x < f ∧ InS L x then 1 else 0
theorem ot_zero {L : Fl} {H : List He} (x : Nat) : ot L H 0 x = oc H x := by
  unfold ot
  rw [if_neg (fun h => by omega)]; rfl
theorem ot_yes {L : Fl} {H : List He} {f : Nat} (h : InS L f) (x : Nat) : ot L H (f + 1) x = if x = f then ot L H f x + 1 else ot L H f x := by
  unfold ot
  by_cases e : x = f
  · subst e
    rw [if_pos ⟨by omega, h⟩, if_pos rfl, if_neg (fun h => by omega)]
  · rw [if_neg e]
    by_cases e2 : (x : Int) < f ∧ InS L x
    · rw [if_pos e2, if_pos ⟨by omega, e2.2⟩]
    · rw [if_neg e2, if_neg (fun h => e2 ⟨by omega, h.2⟩)]
theorem ot_no {L : Fl} {H : List He} {f : Nat} (h : ¬ InS L f) (x : Nat) : ot L H (f + 1) x = ot L H f x := by
  unfold ot
  by_cases e2 : (x : Int) < f ∧ InS L x
  · rw [if_pos e2, if_pos ⟨by omega, e2.2⟩]
  · rw [if_neg e2, if_neg (fun h2 => by
      by_cases e : x = f
      · subst e; exact h h2.2
      · exact e2 ⟨by omega, h2.2⟩)]
theorem ot_le (L : Fl) (H : List He) (f : Nat) (x : Int) : ot L H f x ≤ H.length + 1 := by
  unfold ot
  have := oc_len H x
  split <;> omega
theorem ot_eq {p : Pm} {L : Fl} {H : List He} (D : Hd p L H) (f : Nat) : ot L H (f + 1) f = if p.st ≤ f ∧ (f : Int) < p.st + p.ct then 1 else 0 := by
  unfold ot
  have h1 := oc_one (x := (f : Int)) D.dis
  have hz := D.all f
  by_cases hi : InS L f
  · rw [if_pos ⟨by omega, hi⟩, if_pos (hz.2 (.inl hi))]
    have h0 : ¬ 0 < oc H f := fun hp => by
      obtain ⟨b, hb, eb⟩ := oc_pos.1 hp
      exact D.out b hb f eb hi
    omega
  · rw [if_neg (fun h => hi h.2)]
    by_cases hp : 0 < oc H f
    · rw [if_pos (hz.2 (.inr (oc_pos.1 hp)))]; omega
    · rw [if_neg (fun h => by
        rcases hz.1 h with h2 | h2
        · exact hi h2
        · exact hp (oc_pos.2 h2))]
      omega
-- THE ROW
def RO (w : World) (g : Nat) (c : Nat → Nat) : Prop := w.rowIs g 53 80 (fun j => .int .i64 (c j : Int))
theorem RO.below {w w' : World} {g : Nat} {c : Nat → Nat} (h : RO w g c) (hb : Below w.heap.size w w') : RO w' g c := h.of_block (hb.block g h.lt)
theorem RO.congr {w : World} {g : Nat} {c c' : Nat → Nat} (h : RO w g c) (e : ∀ x, x < 80 → c x = c' x) : RO w g c' := World.rowIs.congr h fun i hi => by rw [e i hi]
theorem RO.on {w : World} {g : Nat} {c c' : Nat → Nat} (h : RO w g c) (f : Nat) (e : ∀ x, x < 80 → c' x = if x = f then c x + 1 else c x) : RO (w.setCell ⟨g, f, none⟩ (.int .i64 ((c f : Int) + 1))) g c' := (World.rowIs.set h f (.int .i64 ((c f : Int) + 1))).congr fun i hi => by
  rw [e i hi]
  by_cases hi2 : i = f
  · rw [if_pos hi2, if_pos hi2, hi2]; rfl
  · rw [if_neg hi2, if_neg hi2]
theorem info53 : (Try.prog.info? 53).map (fun i => i.zero) = some (some (.agg (Array.replicate 80 (.int .i64 0)))) := by kernel_rfl
theorem zero53 (w : World) : (zeroValue 53).run Try.prog w = .ok (.agg (Array.replicate 80 (.int .i64 0))) w := by
  have h := info53
  rw [Option.map_eq_some_iff] at h
  obtain ⟨i, hi, hz⟩ := h
  simp [zeroValue, typeInfo, hi, hz]
theorem RO.made (w : World) (c : Nat → Nat) (hc : ∀ x, x < 80 → c x = 0) : RO (w.alloc (.cells (Array.replicate 80 (.int .i64 0)) 53)) w.heap.size c := by
  have h := World.rowIs_alloc w (Array.replicate 80 (.int .i64 0)) 53 (fun j => .int .i64 (c j : Int)) (fun i hi => by
    have hi' : i < 80 := by simpa using hi
    rw [Array.getElem?_replicate, if_pos hi', hc i hi']; simp)
  rw [Array.size_replicate] at h
  exact h
end Go.Proofs.Ytflplldamefhoaa.Bd
