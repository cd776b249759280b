import Derived.Test.YtflplldamefhoaaMath5
namespace Go.Proofs.Ytflplldamefhoaa.Bd
open Go Go.RowKit
set_option linter.unusedVariables false
def allP (c : Nat → Nat) (k a : Nat) : Prop := ∀ t : Nat, t < (bw k).toNat → 0 < c (a + t)
instance (c : Nat → Nat) (k a : Nat) : Decidable (allP c k a) := by unfold allP; infer_instance
set_option maxRecDepth 100000 in
theorem all_any (g : Nat) (c : Nat → Nat) (a k : Nat) (hk : k < 5) (w : World) (r : RI w g c) (hb : (a : Int) + bw k ≤ 256) :
    Calls Try.prog 62 #[.slice (some ⟨g, 0, none⟩) 256 256, .int .i64 a, .int .i64 k] w fun e w' => e = .returned (.bool (decide (allP c k a))) ∧ Below w.heap.size w w' := by
  have R := hide r
  obtain ⟨res, hres⟩ : ∃ r, r = decide (allP c k a) := ⟨_, rfl⟩
  rw [← hres]
  have HRes := hide hres
  have hw := wr2 hk
  have bp := bw_pos k
  have bl := bw_le k
  clear hres r
  go_enter Try.func62, Try.ntmps62
  go_wp2
  go_loopw [7] (fun s wr => ∃ x : Nat, a ≤ x ∧ (x : Int) ≤ a + bw k ∧ s = .int .i64 x ∧ Hid (∀ y, a ≤ y → y < x → 0 < c y) ∧ wr = w) (fun s _ => 300 - (intOf s).toNat)
  case atStart => exact ⟨a, Nat.le_refl _, by omega, rfl, hide (fun y h1 h2 => by omega), rfl⟩
  case round =>
    obtain ⟨x, hx1, hx2, rfl, N, rfl⟩ := hrel
    by_cases hlt : (x : Int) < a + bw k
    · have hx : x < 256 := by omega
      have hx' : (x : Int) < 256 := by omega
      have cell := R.out.cell hx
      by_cases h0 : c x = 0
      · have E := hide (show res = false by
          rw [HRes.out]
          refine decide_eq_false (fun h => ?_)
          have := h (x - a) (by omega)
          rw [show a + (x - a) = x by omega] at this
          omega)
        rw [h0] at cell
        clear h0 N
        go_wp2
        go_ret
        exact ⟨ret_bool E.out.symm, brefl _⟩
      · have N2 := hide (show ∀ y, a ≤ y → y < x + 1 → 0 < c y from fun y h1 h2 => by
          by_cases e : y = x
          · rw [e]; omega
          · exact N.out y h1 (by omega))
        have hne : ((c x : Int) == 0) = false := by simp; omega
        generalize c x = q at *
        clear h0 N
        go_wp2
        go_roundw
        case rel => exact ⟨x + 1, by omega, by omega, by go_num, N2, by first | rfl | trivial⟩
        case measure => simp [intOf]; omega
    · have E := hide (show res = true by
        rw [HRes.out]
        exact decide_eq_true (fun t ht => N.out (a + t) (by omega) (by omega)))
      have hd : decide ((x : Int) < a + bw k) = false := decide_eq_false hlt
      clear N
      go_wp2
      go_ret
      exact ⟨ret_bool E.out.symm, brefl _⟩
theorem allP_iff {p : Pm} {S : Int → Prop} {lf : Nat → Nat} {k a : Nat} (hk : k < 5) (hp : par p) (hb : blk p k a) (h : ∀ x : Nat, x < 256 → (0 < lf x ↔ Lf p S k a x)) : allP lf k a ↔ mxl p S k a := by
  have bd := blk_bd hp hb
  have bp := bw_pos k
  rw [← mxl_iff hk hb]
  constructor
  · intro ha x h1 h2
    obtain ⟨n, rfl⟩ := Int.eq_ofNat_of_zero_le (show 0 ≤ x by omega)
    refine (h n (by omega)).1 ?_
    have := ha (n - a) (by omega)
    rwa [show a + (n - a) = n by omega] at this
  · intro hm t ht
    refine (h (a + t) (by omega)).2 (hm _ (by omega) (by omega))
-- WHAT A STORE INTO AN OLDER ROW LEAVES
theorem row_far {B n size g o : Nat} {t : TypeId} {v u : Value} {xs : List Value} {w : World} (h : w.ownsRow B t size v n xs) (hg : g < B) : (w.setCell ⟨g, o, none⟩ u).ownsRow B t size v n xs := by
  obtain ⟨hl, h | ⟨g', cap, cur, e, hg', hh, r⟩⟩ := h
  · exact ⟨hl, .inl h⟩
  · exact ⟨hl, .inr ⟨g', cap, cur, e, hg', (heap_setCell_other w ⟨g, o, none⟩ g' u (show g' ≠ g from by omega)).trans hh, r⟩⟩
theorem OwZ.far {B g o : Nat} {w : World} {v : Nat → Value} {L : Fl} {u : Value} (h : OwZ B w v L) (hg : g < B) : OwZ B (w.setCell ⟨g, o, none⟩ u) v L := ⟨fun k hk => row_far (h.row k hk) hg, h.dis⟩
theorem RI.grown {B n size g : Nat} {t : TypeId} {v : Value} {xs : List Value} {w w' : World} {c : Nat → Nat} (r : RI w g c) (h : w.ownsRow B t size v n xs) (hg : g < B) (hgr : w.grownBy w' v.ownBlock) : RI w' g c := by
  refine World.rowIs.of_block r (hgr.block g r.lt ?_)
  obtain ⟨_, ⟨rfl, _⟩ | ⟨g', cap, cur, rfl, hg', hh, _⟩⟩ := h
  · exact Option.some_ne_none _
  · intro e
    have : g = g' := by simpa [Value.ownBlock] using e
    omega
/-- how things stand while the lists are laid: orders from j on are done -/
structure Wi (p : Pm) (S : Int → Prop) (j : Nat) (L : Fl) (lf : Nat → Nat) : Prop where
  done : ∀ i, j ≤ i → i < 5 → Srt (L i) ∧ ∀ g, g ∈ L i ↔ mxl p S i g
  rest : ∀ i, i < j → L i = []
  left : ∀ x : Nat, x < 256 → (0 < lf x ↔ S x ∧ ∀ i, j ≤ i → i < 5 → ¬ mxl p S i (dn i x))
  few : ∀ x : Nat, x < 256 → lf x ≤ 100
/-- within the order k, below the frame f -/
structure Wj (p : Pm) (S : Int → Prop) (k f : Nat) (L : Fl) (lf : Nat → Nat) : Prop where
  done : ∀ i, k < i → i < 5 → Srt (L i) ∧ ∀ g, g ∈ L i ↔ mxl p S i g
  rest : ∀ i, i < k → L i = []
  cur : Pt p S k f (L k)
  left : ∀ x : Nat, x < 256 → (0 < lf x ↔ Lf p S k f x)
  few : ∀ x : Nat, x < 256 → lf x ≤ 100
theorem Wi.begin {p : Pm} {S : Int → Prop} {k a : Nat} {L : Fl} {lf : Nat → Nat} (h : Wi p S (k + 1) L lf) (ha : p.st = a) : Wj p S k a L lf := by
  refine ⟨fun i h1 h2 => h.done i (by omega) h2, fun i hi => h.rest i (by omega), ?_, fun x hx => ?_, h.few⟩
  · rw [h.rest k (by omega), ← ha]; exact pt_nil
  · rw [h.left x hx, ← ha, lf_begin]
    exact ⟨fun ⟨h1, h2⟩ => ⟨h1, fun i h3 => h2 i (by omega)⟩, fun ⟨h1, h2⟩ => ⟨h1, fun i h3 => h2 i (by omega)⟩⟩
theorem Wj.stop {p : Pm} {S : Int → Prop} {k f : Nat} {L : Fl} {lf : Nat → Nat} (hk : k < 5) (h : Wj p S k f L lf) (hf : (f : Int) = p.st + p.ct) : Wi p S k L lf := by
  refine ⟨fun i h1 h2 => ?_, h.rest, fun x hx => ?_, h.few⟩
  · by_cases e : i = k
    · subst e; have := h.cur; rw [hf] at this; exact pt_end this
    · exact h.done i (by omega) h2
  · rw [h.left x hx, hf, lf_end hk]
theorem Wj.no {p : Pm} {S : Int → Prop} {k f : Nat} {L : Fl} {lf : Nat → Nat} (h : Wj p S k f L lf) (hm : ¬ mxl p S k f) : Wj p S k (f + 1) L lf := by
  have e : ((f + 1 : Nat) : Int) = (f : Int) + 1 := by omega
  refine ⟨h.done, h.rest, by rw [e]; exact pt_no h.cur hm, fun x hx => ?_, h.few⟩
  rw [h.left x hx, e, lf_no hm]
def cutF (f y : Nat) (lf : Nat → Nat) (x : Nat) : Nat := if f ≤ x ∧ x < y then 0 else lf x
theorem Wj.yes {p : Pm} {S : Int → Prop} {k f y : Nat} {L : Fl} {lf : Nat → Nat} (hk : k < 5) (h : Wj p S k f L lf) (hm : mxl p S k f) (hy : (y : Int) = f + bw k) : Wj p S k (f + 1) (upd L k (L k ++ [(f : Int)])) (cutF f y lf) := by
  have e : ((f + 1 : Nat) : Int) = (f : Int) + 1 := by omega
  refine ⟨fun i h1 h2 => by rw [upd_ne (by omega)]; exact h.done i h1 h2, fun i hi => by rw [upd_ne (by omega)]; exact h.rest i hi, by rw [upd_at, e]; exact pt_yes h.cur hm, fun x hx => ?_, fun x hx => ?_⟩
  · rw [e, lf_yes hk hm, ← h.left x hx]
    unfold cutF
    by_cases hc : f ≤ x ∧ x < y
    · rw [if_pos hc]
      exact ⟨fun h1 => by omega, fun h1 => absurd ⟨by omega, by omega⟩ h1.2⟩
    · rw [if_neg hc]
      exact ⟨fun h1 => ⟨h1, fun h2 => hc ⟨by omega, by omega⟩⟩, fun h1 => h1.1⟩
  · unfold cutF
    split
    · omega
    · exact h.few x hx
end Go.Proofs.Ytflplldamefhoaa.Bd
