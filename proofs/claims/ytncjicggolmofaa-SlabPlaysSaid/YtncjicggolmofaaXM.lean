import Derived.Test.YtncjicggolmofaaV6
import Derived.Test.YtncjicggolmofaaW1
import Derived.Test.YtncjicggolmofaaQ2
import Derived.Test.YtncjicggolmofaaL6
import Derived.Test.YtncjicggolmofaaK1
import Derived.Test.YtncjicggolmofaaL3
namespace Go.Proofs.Ytncjicggolmofaa.Sb
open Go Go.RowKit
set_option linter.unusedVariables false
set_option linter.unusedSimpArgs false
/-- what is known while the reference puts a slab into a copy of the row -/
structure Wt (w0 : World) (g2 g4 g5 g6 B1 : Nat) (ob f : Int) (v u : Value) (m : Nat) (vz vo : Value) (no : Nat) (Q : List PC) (w : World) : Prop where
  KM : Below w0.heap.size w0 w
  X : Box w g2 24 #[.int .i64 ob, v]
  Y : Box w g4 24 #[.int .i64 0, .slice none 0 0]
  Z : Box w g5 24 #[.int .i64 ob, vz]
  T : Box w g6 52 #[.int .i64 f, u]
  U : w.ownsRow w0.heap.size 4 1 u m ((List.replicate m false).map bc)
  O : w.ownsRow B1 52 2 vo no (cC Q)
  l6 : g6 < B1
  le : w0.heap.size ≤ B1
  n25 : g2 ≠ g5
  n45 : g4 ≠ g5
  l5 : w0.heap.size ≤ g5
  sz : B1 ≤ w.heap.size
section
variable {w0 : World} {g2 g4 g5 g6 B1 : Nat} {ob f : Int} {v u : Value} {m : Nat} {vz vo : Value} {no : Nat} {Q : List PC} {w : World}
theorem Wt.below (h : Wt w0 g2 g4 g5 g6 B1 ob f v u m vz vo no Q w) {w' : World} (hb : Below w.heap.size w w') : Wt w0 g2 g4 g5 g6 B1 ob f v u m vz vo no Q w' :=
  ⟨btrans h.KM hb, h.X.below hb, h.Y.below hb, h.Z.below hb, h.T.below hb, row_below h.U hb, row_below h.O hb, h.l6, h.le, h.n25, h.n45, h.l5, Nat.le_trans h.sz hb.size⟩
theorem Wt.grow (h : Wt w0 g2 g4 g5 g6 B1 ob f v u m vz vo no Q w) {w' : World} {v' : Value} {n' : Nat} {Q' : List PC} (hk : Kp B1 52 w w') (ho : w'.ownsRow B1 52 2 v' n' (cC Q')) : Wt w0 g2 g4 g5 g6 B1 ob f v u m vz v' n' Q' w' :=
  ⟨h.KM.trans (hk.below.mono h.le), h.X.kp hk (by decide), h.Y.kp hk (by decide), h.Z.kp hk (by decide), (hk.below.block g6 h.l6).trans h.T, row_kp h.U hk (by decide), ho, h.l6, h.le, h.n25, h.n45, h.l5, Nat.le_trans h.sz hk.below.size⟩
theorem Wt.store (h : Wt w0 g2 g4 g5 g6 B1 ob f v u m vz vo no Q w) (x : Value) : Wt w0 g2 g4 g5 g6 B1 ob f v u m x vo no Q (w.setCell ⟨g5, 1, none⟩ x) :=
  have hk := Kp.boxset h.Z h.l5 1 x
  ⟨h.KM.trans hk.below, h.X.far h.n25 x, h.Y.far h.n45 x, by have := h.Z.put 1 x; simpa using this, h.T.kp hk (by decide), row_kp h.U hk (by decide), row_kp h.O hk (by decide), h.l6, h.le, h.n25, h.n45, h.l5, Nat.le_trans h.sz hk.below.size⟩
end
/-- the row while it is built: not yet put in, or put in at p -/
def Qk (R : List PC) (x : PC) (p k : Nat) : List PC := if k ≤ p then R.take k else R.take p ++ x :: (R.take k).drop p
theorem take_snocP {R : List PC} {k : Nat} (h : k < R.length) : R.take (k + 1) = R.take k ++ [R[k]] := List.take_succ_eq_append_getElem h
theorem Qk_low {R : List PC} {x : PC} {p k : Nat} (hk : k < p) (hR : k < R.length) : Qk R x p (k + 1) = Qk R x p k ++ [R[k]] := by
  unfold Qk
  rw [if_pos (by omega), if_pos (by omega), take_snocP hR]
theorem Qk_at {R : List PC} {x : PC} {p : Nat} (hR : p < R.length) : Qk R x p (p + 1) = (Qk R x p p ++ [x]) ++ [R[p]] := by
  unfold Qk
  rw [if_neg (by omega), if_pos (Nat.le_refl _), take_snocP hR, List.drop_append_of_le_length (by rw [List.length_take]; omega)]
  rw [List.drop_eq_nil_of_le (show (R.take p).length ≤ p by rw [List.length_take]; omega)]
  simp
theorem Qk_high {R : List PC} {x : PC} {p k : Nat} (hk : p < k) (hR : k < R.length) : Qk R x p (k + 1) = Qk R x p k ++ [R[k]] := by
  unfold Qk
  rw [if_neg (by omega), if_neg (by omega), take_snocP hR, List.drop_append_of_le_length (by rw [List.length_take]; omega)]
  simp
theorem Qk_len {R : List PC} {x : PC} {p k : Nat} (hk : k ≤ R.length) : (Qk R x p k).length ≤ k + 1 := by
  unfold Qk
  split
  · rw [List.length_take]; omega
  · simp only [List.length_append, List.length_take, List.length_cons, List.length_drop]; omega
/-- the row with the new slab in its place -/
theorem ins_ownD {B : Nat} {w w' : World} {L : List Ca} {R : List PC} {f : Int} {m : Nat} {u v' : Value} {p : Nat} (eR : R.map pcC = L) (h1 : ∀ j (h : j < R.length), w.ownsRow B 4 1 (R[j]).2.2 (R[j]).2.1.length ((R[j]).2.1.map bc)) (hd : ∀ i j (hi : i < R.length) (hj : j < R.length), i ≠ j → Ap (R[i]).2.2 (R[j]).2.2)
    (hB : B ≤ w.heap.size) (hb : Below w.heap.size w w') (hu : w'.ownsRow w.heap.size 4 1 u m ((List.replicate m false).map bc)) (hp : p ≤ R.length) {no : Nat} (hno : no = R.length + 1) {B1 : Nat} (hB1 : B ≤ B1) (ho : w'.ownsRow B1 52 2 v' no (cC (R.take p ++ (f, List.replicate m false, u) :: R.drop p))) :
    OwnD B w' v' (L.take p ++ (f, List.replicate m false) :: L.drop p) := by
  have hl : R.length = L.length := by rw [← eR, List.length_map]
  have gl : ∀ j (hj : j < (R.take p ++ (f, List.replicate m false, u) :: R.drop p).length), (j = p ∧ (R.take p ++ (f, List.replicate m false, u) :: R.drop p)[j] = (f, List.replicate m false, u)) ∨ ∃ j', ∃ h : j' < R.length, (R.take p ++ (f, List.replicate m false, u) :: R.drop p)[j] = R[j'] ∧ (j < p ∧ j' = j ∨ p < j ∧ j = j' + 1) := fun j hj => ins_at hp hj
  refine ⟨R.take p ++ (f, List.replicate m false, u) :: R.drop p, ?_, ?_, fun j hj => ?_, fun i j hi hj hne => ?_⟩
  · rw [List.map_append, List.map_cons, List.map_take, List.map_drop, eR]; rfl
  · have e : (L.take p ++ (f, List.replicate m false) :: L.drop p).length = no := by rw [ins_len, hno, hl]
    rw [e]; exact row_mono ho hB1
  · rcases gl j hj with ⟨_, e⟩ | ⟨j', h', e, _⟩
    · rw [e]
      show w'.ownsRow B 4 1 u (List.replicate m false).length ((List.replicate m false).map bc)
      rw [List.length_replicate]; exact row_mono hu hB
    · rw [e]; exact row_below (h1 j' h') hb
  · rcases gl i hi with ⟨ei, e⟩ | ⟨i', hi', e, ci⟩
    · rcases gl j hj with ⟨ej, e2⟩ | ⟨j', hj', e2, cj⟩
      · omega
      · rw [e, e2]
        have := ap_new (h1 j' hj') hu (Nat.le_refl _)
        exact this.2
    · rcases gl j hj with ⟨ej, e2⟩ | ⟨j', hj', e2, cj⟩
      · rw [e, e2]
        have := ap_new (h1 i' hi') hu (Nat.le_refl _)
        exact this.1
      · rw [e, e2]; exact hd i' j' hi' hj' (by omega)
end Go.Proofs.Ytncjicggolmofaa.Sb
namespace Go.Proofs.Ytncjicggolmofaa.Sb
open Go Go.RowKit
set_option linter.unusedVariables false
set_option linter.unusedSimpArgs false
set_option maxRecDepth 100000 in
set_option maxHeartbeats 16000000 in
/-- the reference's with: one slab more, its objects free -/
theorem with_any (B : Nat) (A : Option Addr) (n c : Nat) (L : List Ca) (ob f : Int) (m : Nat) (w : World) (hD : OwnD B w (.slice A n c) L) (hnL : L.length = n) (hB : B ≤ w.heap.size) (hm : ob = m) (hmb : 1 ≤ m ∧ m ≤ 32) (hn : n ≤ 400) (ha : Asc L) (hf : f ∉ frs L) :
    Calls Try.prog 47 #[.agg #[.int .i64 ob, .slice A n c], .int .i64 f] w fun e w' => ∃ A2 c2, e = .returned (.agg #[.int .i64 ob, .slice A2 (n + 1) c2]) ∧ OwnD B w' (.slice A2 (n + 1) c2) (L.take (caP L f) ++ (f, List.replicate m false) :: L.drop (caP L f)) ∧ Below w.heap.size w w' := by
  obtain ⟨i0, hi0, hzz0, hzz1, hzz2⟩ := info_parts info52
  obtain ⟨R, eR, hr, h1, hd⟩ := hD
  have hRn : R.length = n := by rw [← hnL, ← eR, List.length_map]
  rw [hnL] at hr
  obtain ⟨q1, q2, q3⟩ := caP_at L f
  have HGT := hide (show ∀ k (h : k < R.length), f < (R[k]).1 ↔ caP L f ≤ k from fun k h => by
    have hk : k < L.length := by omega
    have e : (R[k]).1 = (cAt L k).1 := by rw [← pcC_get eR h]; rfl
    rw [e]
    constructor
    · intro hlt
      rcases Nat.lt_or_ge k (caP L f) with z | z
      · have := q2 k z; omega
      · exact z
    · intro hle
      have hpl : caP L f < L.length := by omega
      have h3 := q3 hpl
      have h4 : (cAt L (caP L f)).1 ≠ f := fun e => hf (List.mem_map.2 ⟨_, cAt_mem hpl, e⟩)
      rcases Nat.eq_or_lt_of_le hle with z | z
      · rw [← z]; omega
      · have := ha (caP L f) k z hk; omega)
  have HPL := hide (show caP L f ≤ R.length by omega)
  generalize caP L f = p at *
  have CF := hide (show ∀ k (h : k < R.length), ∃ g Ak nk ck, A = some ⟨g, 0, none⟩ ∧ g < w.heap.size ∧ (R[k]).2.2 = .slice Ak nk ck ∧ w.cell? ⟨g, k * 2, none⟩ = some (.int .i64 (R[k]).1) ∧ w.cell? ⟨g, k * 2 + 1, none⟩ = some (.slice Ak nk ck) from fun k h => by
    obtain ⟨g, eA, hgl, _, hc, _⟩ := row_cell hr (by omega)
    obtain ⟨Ak, ck, ek, _⟩ := row_form (h1 k h)
    refine ⟨g, Ak, _, ck, eA, hgl, ek, hc _ _ (cC_at h).1, ?_⟩
    rw [← ek]; exact hc _ _ (cC_at h).2)
  have HR := hide (And.intro eR (And.intro h1 hd))
  have HRn := hide hRn
  clear q1 q2 q3 ha hf hr eR h1 hd hnL
  obtain ⟨zz, hzz⟩ : ∃ z : Array Value, z = ((List.replicate m false).map bc).toArray := ⟨_, rfl⟩
  have hmk : ∀ w, (Instr.makeSlice 50 (.int .i64 ob) (.int .i64 ob)).run Try.prog w = .ok (.slice (some ⟨w.heap.size, 0, none⟩) m m) (w.alloc (.cells zz 4)) := fun w => by rw [hm, hzz]; exact makeF w m (by omega)
  have HZZ := hide hzz
  have HM := hide hm
  clear hzz hm
  have B1' := Box.new w 24 #[.int .i64 ob, .slice A n c]
  have B2' := Box.new (w.alloc (.cells #[.int .i64 ob, .slice A n c] 24)) 24 #[.int .i64 0, .slice none 0 0]
  rw [alloc_size'] at B2'
  have B3' := Box.new ((w.alloc (.cells #[.int .i64 ob, .slice A n c] 24)).alloc (.cells #[.int .i64 0, .slice none 0 0] 24)) 24 #[.int .i64 ob, .slice none 0 0]
  rw [alloc_size', alloc_size'] at B3'
  have U' := made_own (((w.alloc (.cells #[.int .i64 ob, .slice A n c] 24)).alloc (.cells #[.int .i64 0, .slice none 0 0] 24)).alloc (.cells #[.int .i64 ob, .slice none 0 0] 24)) m w.heap.size (by omega) (by rw [alloc_size', alloc_size', alloc_size']; omega)
  rw [alloc_size', alloc_size', alloc_size', List.length_replicate, ← HZZ.out] at U'
  have B5' := Box.new ((((w.alloc (.cells #[.int .i64 ob, .slice A n c] 24)).alloc (.cells #[.int .i64 0, .slice none 0 0] 24)).alloc (.cells #[.int .i64 ob, .slice none 0 0] 24)).alloc (.cells zz 4)) 52 #[.int .i64 f, (.slice (some ⟨w.heap.size + 1 + 1 + 1, 0, none⟩) m m)]
  rw [alloc_size', alloc_size', alloc_size', alloc_size'] at B5'
  have S := hide (show Wt w w.heap.size (w.heap.size + 1) (w.heap.size + 1 + 1) (w.heap.size + 1 + 1 + 1 + 1) (w.heap.size + 1 + 1 + 1 + 1 + 1) ob f (.slice A n c) (.slice (some ⟨w.heap.size + 1 + 1 + 1, 0, none⟩) m m) m (.slice none 0 0) (.slice none 0 0) 0 [] (((((w.alloc (.cells #[.int .i64 ob, .slice A n c] 24)).alloc (.cells #[.int .i64 0, .slice none 0 0] 24)).alloc (.cells #[.int .i64 ob, .slice none 0 0] 24)).alloc (.cells zz 4)).alloc (.cells #[.int .i64 f, .slice (some ⟨w.heap.size + 1 + 1 + 1, 0, none⟩) m m] 52)) from
    ⟨bal (bal (bal (bal (bal (brefl w) _) _) _) _) _, (((B1'.more _).more _).more _).more _, ((B2'.more _).more _).more _, (B3'.more _).more _, B5', row_below U' (bal (brefl _) _), ⟨rfl, .inl ⟨rfl, rfl⟩⟩, by omega, by omega, by omega, by omega, by omega, by rw [alloc_size', alloc_size', alloc_size', alloc_size', alloc_size']; omega⟩)
  clear B1' B2' B3' B5' U'
  go_enter Try.func47, Try.ntmps47
  go_upto_region 3 with fail
  clear hmk
  generalize (((((w.alloc (.cells #[.int .i64 ob, .slice A n c] 24)).alloc (.cells #[.int .i64 0, .slice none 0 0] 24)).alloc (.cells #[.int .i64 ob, .slice none 0 0] 24)).alloc (.cells zz 4)).alloc (.cells #[.int .i64 f, .slice (some ⟨w.heap.size + 1 + 1 + 1, 0, none⟩) m m] 52)) = w5 at *
  obtain ⟨g2, hg2⟩ : ∃ g, g = w.heap.size := ⟨_, rfl⟩
  have HG2 := hide hg2
  obtain ⟨g4, hg4⟩ : ∃ g, g = w.heap.size + 1 := ⟨_, rfl⟩
  obtain ⟨g5, hg5⟩ : ∃ g, g = w.heap.size + 1 + 1 := ⟨_, rfl⟩
  obtain ⟨u, hu⟩ : ∃ u : Value, u = (.slice (some ⟨w.heap.size + 1 + 1 + 1, 0, none⟩) m m) := ⟨_, rfl⟩
  obtain ⟨g6, hg6⟩ : ∃ g, g = w.heap.size + 1 + 1 + 1 + 1 := ⟨_, rfl⟩
  obtain ⟨B1, hB1⟩ : ∃ g, g = w.heap.size + 1 + 1 + 1 + 1 + 1 := ⟨_, rfl⟩
  have HU1 := hide (show u.oneCell' = true by rw [hu]; rfl)
  rw [← hB1, ← hg6, ← hu, ← hg5, ← hg4] at S
  rw [← hg6, ← hu, ← hg5, ← hg4]
  have HLE := hide (show w.heap.size ≤ B1 by omega)
  have HG4 := hide (show w.heap.size ≤ g4 by omega)
  clear hg4 hg5 hu hg6 hB1
  replace S := hide (show Wt w g2 g4 g5 g6 B1 ob f (.slice A n c) u m (.slice none 0 0) (.slice none 0 0) 0 [] w5 by rw [hg2]; exact S.out)
  rw [← hg2]
  clear hg2
  go_upto_region 5 with fail
  go_loopw [7, 8] (fun dn i wx => ∃ (k : Nat) (Ao : Option Addr) (co no : Nat) (Q : List PC), dn = .bool (decide (p < k)) ∧ i = .int .i64 k ∧ k ≤ n ∧ Hid (Q = Qk R (f, List.replicate m false, u) p k) ∧ Hid (Q.length = no) ∧ Hid (Wt w g2 g4 g5 g6 B1 ob f (.slice A n c) u m (.slice Ao no co) (.slice Ao no co) no Q wx)) (fun _ i _ => n - (intOf i).toNat)
  case atStart => exact ⟨0, none, 0, 0, [], by simp, rfl, Nat.zero_le _, hide (by unfold Qk; rw [if_pos (Nat.zero_le _)]; rfl), hide rfl, S⟩
  case round =>
    clear S
    obtain ⟨k, Ao, co, no, Q, rfl, rfl, hk, HQ, HN, S⟩ := hrel
    have x1 := S.out.X.cell 1
    simp at x1
    have hno : no ≤ 1000 := by
      have h1 := Qk_len (R := R) (x := (f, List.replicate m false, u)) (p := p) (k := k) (by rw [HRn.out]; exact hk)
      have h2 := HN.out
      rw [HQ.out] at h2
      omega
    by_cases hlk : k < n
    · have hl2 : (k : Int) < (n : Int) := by omega
      have hk0 : (0 : Int) ≤ (k : Int) := by omega
      have hkR : k < R.length := by rw [HRn.out]; exact hlk
      obtain ⟨g, Ak, nk, ck, eA, hgl, ek, d0, d1⟩ := CF.out k hkR
      subst eA
      have hgt := HGT.out k hkR
      have QL := hide (fun h : k < p => Qk_low (x := (f, List.replicate m false, u)) h hkR)
      have QH := hide (fun h : p < k => Qk_high (x := (f, List.replicate m false, u)) h hkR)
      have QA := hide (fun h : p = k => (show Qk R (f, List.replicate m false, u) p (k + 1) = (Qk R (f, List.replicate m false, u) p k ++ [(f, List.replicate m false, u)]) ++ [R[k]] by subst h; exact Qk_at hkR))
      obtain ⟨⟨fk, lk, vk⟩, hRk⟩ : ∃ r, r = R[k] := ⟨_, rfl⟩
      rw [← hRk] at hgt d0 ek QL QH QA
      dsimp only at hgt d0 ek
      subst ek
      have HGL := hide hgl
      have e0 : wr.cell? ⟨g, k * 2, none⟩ = some (.int .i64 fk) := (S.out.KM.cell (p := ⟨g, k * 2, none⟩) hgl).trans d0
      have e1 : wr.cell? ⟨g, k * 2 + 1, none⟩ = some (.slice Ak nk ck) := (S.out.KM.cell (p := ⟨g, k * 2 + 1, none⟩) hgl).trans d1
      clear hRk hgl
      rcases Nat.lt_trichotomy k p with hkp | hkp | hkp
      · have h9 : ¬ f < fk := fun h => by have := hgt.1 h; omega
        have hd1 : decide (p < k) = false := decide_eq_false (by omega)
        have HDN := hide (show (Value.bool false) = .bool (decide (p < k + 1)) by rw [decide_eq_false (by omega)])
        have HDN2 := hide (show decide (p < k + 1) = false from decide_eq_false (by omega))
        have HQ2 := hide (show Q ++ [(fk, lk, .slice Ak nk ck)] = Qk R (f, List.replicate m false, u) p (k + 1) by rw [QL.out hkp, HQ.out])
        have HNQ := hide (show (Q ++ [(fk, lk, Value.slice Ak nk ck)]).length = no + 1 by rw [List.length_append, HN.out]; rfl)
        rw [hd1]
        clear hgt QL QH QA hd1 hkp HQ
        go_upto_region 10 with fail
        have KD : Below wr.heap.size wr wr.drew := below_drewN (brefl _) 1
        have S2 := hide (S.out.below KD)
        have D0 := hide (show wr.drew.cell? ⟨g, k * 2, none⟩ = some (.int .i64 fk) from (S2.out.KM.cell (p := ⟨g, k * 2, none⟩) HGL.out).trans d0)
        have D1 := hide (show wr.drew.cell? ⟨g, k * 2 + 1, none⟩ = some (.slice Ak nk ck) from (S2.out.KM.cell (p := ⟨g, k * 2 + 1, none⟩) HGL.out).trans d1)
        clear KD e0 e1 x1 d0 d1 S
        refine wp_region_noPanic ?_
        refine wp_region_held_drew (S := (fun W => (W.cell? ⟨g2, 0, none⟩ = some (.int .i64 ob) ∧ W.cell? ⟨g2, 1, none⟩ = some (.slice (some ⟨g, 0, none⟩) n c)) ∧ W.cell? ⟨g, k * 2, none⟩ = some (.int .i64 fk) ∧ W.cell? ⟨g, k * 2 + 1, none⟩ = some (.slice Ak nk ck))) (by kernel_rfl) ?_ (fun hHeld => ?_)
        · exact ⟨⟨S2.out.X.cell 0, S2.out.X.cell 1⟩, D0.out, D1.out⟩
        generalize wr.drew = wd at *
        have z1 := S2.out.Z.cell 1
        simp at z1
        refine wpAnyH_take (i := 0) (oi := ⟨some 42, _, _, _, _, _⟩) (v := ?_) rfl (by kernel_rfl) (by kernel_rfl) (by kernel_rfl) (fun _ _ _ h => h) (Or.inl ⟨by kernel_rfl, ?_⟩) (by assumption) ?_
        rotate_left 1
        · (intro w hSw; (try dsimp only at hSw); go_simp) <;> (with_reducible rfl)
        (try simp only [Act.put, List.setIfInBounds_toArray, List.set_cons_succ, List.set_cons_zero])
        refine wpAnyH_take (i := 2) (oi := ⟨some 44, _, _, _, _, _⟩) (v := ?_) rfl (by kernel_rfl) (by kernel_rfl) (by kernel_rfl) (fun _ _ _ h => h) (Or.inl ⟨by kernel_rfl, ?_⟩) (by assumption) ?_
        rotate_left 1
        · (intro w hSw; (try dsimp only at hSw); go_simp) <;> (with_reducible rfl)
        (try simp only [Act.put, List.setIfInBounds_toArray, List.set_cons_succ, List.set_cons_zero])
        refine wpAnyH_take (i := 3) (oi := ⟨some 45, _, _, _, _, _⟩) (v := ?_) rfl (by kernel_rfl) (by kernel_rfl) (by kernel_rfl) (fun _ _ _ h => h) (Or.inl ⟨by kernel_rfl, ?_⟩) (by assumption) ?_
        rotate_left 1
        · (intro w hSw; (try dsimp only at hSw); go_simp) <;> (with_reducible rfl)
        (try simp only [Act.put, List.setIfInBounds_toArray, List.set_cons_succ, List.set_cons_zero])
        refine wpAnyH_take (i := 4) (oi := ⟨some 46, _, _, _, _, _⟩) (v := ?_) rfl (by kernel_rfl) (by kernel_rfl) (by kernel_rfl) (fun _ _ _ h => h) (Or.inl ⟨by kernel_rfl, ?_⟩) (by assumption) ?_
        rotate_left 1
        · (intro w hSw; (try dsimp only at hSw); go_simp) <;> (with_reducible rfl)
        (try simp only [Act.put, List.setIfInBounds_toArray, List.set_cons_succ, List.set_cons_zero])
        refine wpAnyH_take (i := 5) (oi := ⟨some 47, _, _, _, _, _⟩) (v := ?_) rfl (by kernel_rfl) (by kernel_rfl) (by kernel_rfl) (fun _ _ _ h => h) (Or.inl ⟨by kernel_rfl, ?_⟩) (by assumption) ?_
        rotate_left 1
        · (intro w hSw; (try dsimp only at hSw); go_simp) <;> (with_reducible rfl)
        (try simp only [Act.put, List.setIfInBounds_toArray, List.set_cons_succ, List.set_cons_zero])
        refine wpAnyH_take (i := 6) (oi := ⟨some 48, _, _, _, _, _⟩) (v := ?_) rfl (by kernel_rfl) (by kernel_rfl) (by kernel_rfl) (fun _ _ _ h => h) (Or.inl ⟨by kernel_rfl, ?_⟩) (by assumption) ?_
        rotate_left 1
        · (intro w hSw; (try dsimp only at hSw); go_simp) <;> (with_reducible rfl)
        (try simp only [Act.put, List.setIfInBounds_toArray, List.set_cons_succ, List.set_cons_zero])
        refine wpAnyH_ready (rs := [1, 7]) (by kernel_rfl) (by simp) ?_
        refine AllReadyH.cons (o := ⟨some 43, _, _, _, _, _⟩) rfl (fun K' hK => ?_) ?_
        · go_simp
          refine hK.out _ _ ?_ (fun hHeld => ?_)
          · exact ⟨⟨S2.out.X.cell 0, S2.out.X.cell 1⟩, D0.out, D1.out⟩
          clear hK K'
          (try simp only [Act.put, List.setIfInBounds_toArray, List.set_cons_succ, List.set_cons_zero])
          refine wpAnyH_ready (rs := [7]) (by kernel_rfl) (by simp) ?_
          refine AllReadyH.cons (o := ⟨some 49, _, _, _, _, _⟩) rfl (fun K' hK => ?_) AllReadyH.nil
          go_simp
          have M2 := bal (brefl wd) (.cells #[.int .i64 fk, .slice Ak nk ck] 52)
          have NB := hide (cells_two (Box.new wd 52 #[.int .i64 fk, .slice Ak nk ck]))
          have HKD := hide (Nat.lt_of_lt_of_le HGL.out S2.out.KM.size)
          replace D0 := hide ((M2.cell (p := ⟨g, k * 2, none⟩) HKD.out).trans D0.out)
          replace D1 := hide ((M2.cell (p := ⟨g, k * 2 + 1, none⟩) HKD.out).trans D1.out)
          replace S2 := hide (S2.out.below M2)
          have HO := hide S2.out.O
          have HSZ := hide S2.out.sz
          clear M2 HKD z1
          have z1 := S2.out.Z.cell 1
          simp at z1
          refine hK.out _ _ ?_ (fun hHeld => ?_)
          · exact ⟨⟨S2.out.X.cell 0, S2.out.X.cell 1⟩, D0.out, D1.out⟩
          clear hK K'
          (try simp only [Act.put, List.setIfInBounds_toArray, List.set_cons_succ, List.set_cons_zero])
          refine wpAnyH_ready (rs := [8]) (by kernel_rfl) (by simp) ?_
          refine AllReadyH.cons (o := ⟨some 50, _, _, _, _, _⟩) rfl (fun K' hK => ?_) AllReadyH.nil
          refine step_append_own rfl (.tmp 43) (.tmp 49) 22 rfl B1 52 i0 _ 2 32 Try.underlying22 hi0 hzz0 hzz1 hzz2 rfl (by omega) (.slice Ao no co) no (cC Q) rfl HO.out ⟨wd.heap.size, 0, none⟩ 1 1 [.int .i64 fk, .slice Ak nk ck] rfl rfl NB.out (by intro u hu; rcases List.mem_cons.1 hu with rfl | hu; rfl; rw [List.mem_singleton.1 hu]; rfl) (by simp only [maxLen]; omega) (by omega) HSZ.out ?_
          intro v5 w5' hown5 hg5
          obtain ⟨A5, c5, ev5, _⟩ := row_form hown5
          subst ev5
          have KU := kp_own HO.out hg5 HSZ.out
          replace S2 := hide (S2.out.grow (Q' := Q ++ [(fk, lk, .slice Ak nk ck)]) KU (by rw [cC_append]; exact hown5))
          replace D0 := hide ((KU.below.cell (p := ⟨g, k * 2, none⟩) (Nat.lt_of_lt_of_le HGL.out HLE.out)).trans D0.out)
          replace D1 := hide ((KU.below.cell (p := ⟨g, k * 2 + 1, none⟩) (Nat.lt_of_lt_of_le HGL.out HLE.out)).trans D1.out)
          clear hown5 hg5 KU NB HO HSZ z1
          have z1 := S2.out.Z.cell 1
          have zf := S2.out.Z.frozen 1
          simp at z1
          refine hK.out _ _ ?_ (fun hHeld => ?_)
          · exact ⟨⟨S2.out.X.cell 0, S2.out.X.cell 1⟩, D0.out, D1.out⟩
          clear hK K'
          (try simp only [Act.put, List.setIfInBounds_toArray, List.set_cons_succ, List.set_cons_zero])
          refine wpAnyH_take (i := 9) (oi := ⟨some 51, _, _, _, _, _⟩) (v := ?_) rfl (by kernel_rfl) (by kernel_rfl) (by kernel_rfl) (fun _ _ _ h => h) (Or.inl ⟨by kernel_rfl, ?_⟩) (by assumption) ?_
          rotate_left 1
          · (intro w hSw; (try dsimp only at hSw); go_simp) <;> (with_reducible rfl)
          (try simp only [Act.put, List.setIfInBounds_toArray, List.set_cons_succ, List.set_cons_zero])
          refine wpAnyH_ready (rs := [10]) (by kernel_rfl) (by simp) ?_
          refine AllReadyH.cons (o := ⟨none, _, _, _, _, _⟩) rfl (fun K' hK => ?_) AllReadyH.nil
          go_simp
          have KS := Kp.boxset S2.out.Z S2.out.l5 1 (.slice A5 (no + 1) c5)
          replace S2 := hide (S2.out.store (.slice A5 (no + 1) c5))
          replace D0 := hide ((KS.below.cell (p := ⟨g, k * 2, none⟩) HGL.out).trans D0.out)
          replace D1 := hide ((KS.below.cell (p := ⟨g, k * 2 + 1, none⟩) HGL.out).trans D1.out)
          clear KS z1 zf
          refine hK.out _ _ ?_ (fun hHeld => ?_)
          · exact ⟨⟨S2.out.X.cell 0, S2.out.X.cell 1⟩, D0.out, D1.out⟩
          clear hK K'
          (try simp only [Act.put, List.setIfInBounds_toArray, List.set_cons_succ, List.set_cons_zero])
          refine wpAnyH_done (by kernel_rfl) ?_ _
          refine NoPanic.normal ?_
          clear hHeld
          go_wp2
          go_roundw
          case rel => first | exact ⟨k + 1, A5, c5, _, _, HDN.out, by go_num, by omega, HQ2, HNQ.out, S2⟩ | exact ⟨k + 1, A5, c5, _, _, by rw [HDN2.out], by go_num, by omega, HQ2, HNQ.out, S2⟩ | exact ⟨k + 1, A5, c5, _, _, by go_num, by omega, HQ2, HNQ.out, S2⟩
          case measure => simp [intOf]; omega
        refine AllReadyH.cons (o := ⟨some 49, _, _, _, _, _⟩) rfl (fun K' hK => ?_) AllReadyH.nil
        go_simp
        have M2 := bal (brefl wd) (.cells #[.int .i64 fk, .slice Ak nk ck] 52)
        have NB := hide (cells_two (Box.new wd 52 #[.int .i64 fk, .slice Ak nk ck]))
        have HKD := hide (Nat.lt_of_lt_of_le HGL.out S2.out.KM.size)
        replace D0 := hide ((M2.cell (p := ⟨g, k * 2, none⟩) HKD.out).trans D0.out)
        replace D1 := hide ((M2.cell (p := ⟨g, k * 2 + 1, none⟩) HKD.out).trans D1.out)
        replace S2 := hide (S2.out.below M2)
        have HO := hide S2.out.O
        have HSZ := hide S2.out.sz
        clear M2 HKD z1
        have z1 := S2.out.Z.cell 1
        simp at z1
        refine hK.out _ _ ?_ (fun hHeld => ?_)
        · exact ⟨⟨S2.out.X.cell 0, S2.out.X.cell 1⟩, D0.out, D1.out⟩
        clear hK K'
        (try simp only [Act.put, List.setIfInBounds_toArray, List.set_cons_succ, List.set_cons_zero])
        refine wpAnyH_ready (rs := [1]) (by kernel_rfl) (by simp) ?_
        refine AllReadyH.cons (o := ⟨some 43, _, _, _, _, _⟩) rfl (fun K' hK => ?_) AllReadyH.nil
        go_simp
        refine hK.out _ _ ?_ (fun hHeld => ?_)
        · exact ⟨⟨S2.out.X.cell 0, S2.out.X.cell 1⟩, D0.out, D1.out⟩
        clear hK K'
        (try simp only [Act.put, List.setIfInBounds_toArray, List.set_cons_succ, List.set_cons_zero])
        refine wpAnyH_ready (rs := [8]) (by kernel_rfl) (by simp) ?_
        refine AllReadyH.cons (o := ⟨some 50, _, _, _, _, _⟩) rfl (fun K' hK => ?_) AllReadyH.nil
        refine step_append_own rfl (.tmp 43) (.tmp 49) 22 rfl B1 52 i0 _ 2 32 Try.underlying22 hi0 hzz0 hzz1 hzz2 rfl (by omega) (.slice Ao no co) no (cC Q) rfl HO.out ⟨wd.heap.size, 0, none⟩ 1 1 [.int .i64 fk, .slice Ak nk ck] rfl rfl NB.out (by intro u hu; rcases List.mem_cons.1 hu with rfl | hu; rfl; rw [List.mem_singleton.1 hu]; rfl) (by simp only [maxLen]; omega) (by omega) HSZ.out ?_
        intro v5 w5' hown5 hg5
        obtain ⟨A5, c5, ev5, _⟩ := row_form hown5
        subst ev5
        have KU := kp_own HO.out hg5 HSZ.out
        replace S2 := hide (S2.out.grow (Q' := Q ++ [(fk, lk, .slice Ak nk ck)]) KU (by rw [cC_append]; exact hown5))
        replace D0 := hide ((KU.below.cell (p := ⟨g, k * 2, none⟩) (Nat.lt_of_lt_of_le HGL.out HLE.out)).trans D0.out)
        replace D1 := hide ((KU.below.cell (p := ⟨g, k * 2 + 1, none⟩) (Nat.lt_of_lt_of_le HGL.out HLE.out)).trans D1.out)
        clear hown5 hg5 KU NB HO HSZ z1
        have z1 := S2.out.Z.cell 1
        have zf := S2.out.Z.frozen 1
        simp at z1
        refine hK.out _ _ ?_ (fun hHeld => ?_)
        · exact ⟨⟨S2.out.X.cell 0, S2.out.X.cell 1⟩, D0.out, D1.out⟩
        clear hK K'
        (try simp only [Act.put, List.setIfInBounds_toArray, List.set_cons_succ, List.set_cons_zero])
        refine wpAnyH_take (i := 9) (oi := ⟨some 51, _, _, _, _, _⟩) (v := ?_) rfl (by kernel_rfl) (by kernel_rfl) (by kernel_rfl) (fun _ _ _ h => h) (Or.inl ⟨by kernel_rfl, ?_⟩) (by assumption) ?_
        rotate_left 1
        · (intro w hSw; (try dsimp only at hSw); go_simp) <;> (with_reducible rfl)
        (try simp only [Act.put, List.setIfInBounds_toArray, List.set_cons_succ, List.set_cons_zero])
        refine wpAnyH_ready (rs := [10]) (by kernel_rfl) (by simp) ?_
        refine AllReadyH.cons (o := ⟨none, _, _, _, _, _⟩) rfl (fun K' hK => ?_) AllReadyH.nil
        go_simp
        have KS := Kp.boxset S2.out.Z S2.out.l5 1 (.slice A5 (no + 1) c5)
        replace S2 := hide (S2.out.store (.slice A5 (no + 1) c5))
        replace D0 := hide ((KS.below.cell (p := ⟨g, k * 2, none⟩) HGL.out).trans D0.out)
        replace D1 := hide ((KS.below.cell (p := ⟨g, k * 2 + 1, none⟩) HGL.out).trans D1.out)
        clear KS z1 zf
        refine hK.out _ _ ?_ (fun hHeld => ?_)
        · exact ⟨⟨S2.out.X.cell 0, S2.out.X.cell 1⟩, D0.out, D1.out⟩
        clear hK K'
        (try simp only [Act.put, List.setIfInBounds_toArray, List.set_cons_succ, List.set_cons_zero])
        refine wpAnyH_done (by kernel_rfl) ?_ _
        refine NoPanic.normal ?_
        clear hHeld
        go_wp2
        go_roundw
        case rel => first | exact ⟨k + 1, A5, c5, _, _, HDN.out, by go_num, by omega, HQ2, HNQ.out, S2⟩ | exact ⟨k + 1, A5, c5, _, _, by rw [HDN2.out], by go_num, by omega, HQ2, HNQ.out, S2⟩ | exact ⟨k + 1, A5, c5, _, _, by go_num, by omega, HQ2, HNQ.out, S2⟩
        case measure => simp [intOf]; omega
      · have h9 : f < fk := hgt.2 (by omega)
        have hd1 : decide (p < k) = false := decide_eq_false (by omega)
        have HDN := hide (show (Value.bool true) = .bool (decide (p < k + 1)) by rw [decide_eq_true (by omega)])
        have HDN2 := hide (show decide (p < k + 1) = true from decide_eq_true (by omega))
        obtain ⟨Q2, hQ2⟩ : ∃ q, q = Q ++ [(f, List.replicate m false, u)] := ⟨_, rfl⟩
        have HQ2 := hide (show Q2 ++ [(fk, lk, .slice Ak nk ck)] = Qk R (f, List.replicate m false, u) p (k + 1) by rw [QA.out hkp.symm, ← HQ.out, hQ2])
        have HNQ := hide (show (Q2 ++ [(fk, lk, Value.slice Ak nk ck)]).length = no + 1 + 1 by rw [hQ2, List.length_append, List.length_append, HN.out]; rfl)
        rw [hd1]
        clear hgt QL QH QA hd1 hkp HQ
        go_upto_region 8 with fail
        clear x1 e0 e1
        have M := bal (brefl wr) (.cells #[.int .i64 f, u] 52)
        have SM := hide (S.out.below M)
        have NB := hide (cells_two (Box.new wr 52 #[.int .i64 f, u]))
        have z1 := S.out.Z.cell 1
        have z2 := S.out.T.cell 0
        have z3 := S.out.T.cell 1
        simp at z1 z2 z3
        have HO := hide SM.out.O
        have HSZ := hide SM.out.sz
        clear M
        go_upto_region 9 with (at_builtin; refine wpList_append_own_at _ rfl (.tmp 37) (.tmp 39) 22 rfl B1 52 i0 _ 2 32 Try.underlying22 hi0 hzz0 hzz1 hzz2 rfl (by omega) (.slice Ao no co) no (cC Q) rfl HO.out ⟨wr.heap.size, 0, none⟩ 1 1 [.int .i64 f, u] rfl rfl NB.out (by intro y hy; rcases List.mem_cons.1 hy with rfl | hy; rfl; rw [List.mem_singleton.1 hy]; exact HU1.out) (by simp only [maxLen]; omega) (by omega) HSZ.out ?_; intro v4 w4 hown4 hg4 _ hat4; obtain ⟨A4, c4, ev4, _⟩ := row_form hown4; subst ev4; have KU := kp_own HO.out hg4 HSZ.out; have S4 := hide (SM.out.grow (Q' := Q ++ [(f, List.replicate m false, u)]) KU (by rw [cC_append]; exact hown4)); have y1 := S4.out.Z.cell 1; have y2 := S4.out.Z.frozen 1; simp at y1; clear hown4 hg4 hat4 KU)
        replace S := hide (S4.out.store (.slice A4 (no + 1) c4))
        clear S4 SM NB HO HSZ z1 z2 z3 y1 y2
        rw [← hQ2] at S
        clear hQ2
        obtain ⟨no2, hno2⟩ : ∃ q, q = no + 1 := ⟨_, rfl⟩
        rw [← hno2] at S HNQ
        rw [← hno2]
        have hno3 : no2 ≤ 1001 := by omega
        have HO2 := hide hno2
        clear hno2
        obtain ⟨wq, hwq⟩ : ∃ q, q = w4.setCell ⟨g5, 1, none⟩ (.slice A4 no2 c4) := ⟨_, rfl⟩
        rw [← hwq] at S
        rw [← hwq]
        clear hwq
        have x1 := S.out.X.cell 1
        simp at x1
        have e0 : wq.cell? ⟨g, k * 2, none⟩ = some (.int .i64 fk) := (S.out.KM.cell (p := ⟨g, k * 2, none⟩) HGL.out).trans d0
        have e1 : wq.cell? ⟨g, k * 2 + 1, none⟩ = some (.slice Ak nk ck) := (S.out.KM.cell (p := ⟨g, k * 2 + 1, none⟩) HGL.out).trans d1
        go_upto_region 10 with fail
        have KD : Below wq.heap.size wq wq.drew := below_drewN (brefl _) 1
        have S2 := hide (S.out.below KD)
        have D0 := hide (show wq.drew.cell? ⟨g, k * 2, none⟩ = some (.int .i64 fk) from (S2.out.KM.cell (p := ⟨g, k * 2, none⟩) HGL.out).trans d0)
        have D1 := hide (show wq.drew.cell? ⟨g, k * 2 + 1, none⟩ = some (.slice Ak nk ck) from (S2.out.KM.cell (p := ⟨g, k * 2 + 1, none⟩) HGL.out).trans d1)
        clear KD e0 e1 x1 d0 d1 S
        refine wp_region_noPanic ?_
        refine wp_region_held_drew (S := (fun W => (W.cell? ⟨g2, 0, none⟩ = some (.int .i64 ob) ∧ W.cell? ⟨g2, 1, none⟩ = some (.slice (some ⟨g, 0, none⟩) n c)) ∧ W.cell? ⟨g, k * 2, none⟩ = some (.int .i64 fk) ∧ W.cell? ⟨g, k * 2 + 1, none⟩ = some (.slice Ak nk ck))) (by kernel_rfl) ?_ (fun hHeld => ?_)
        · exact ⟨⟨S2.out.X.cell 0, S2.out.X.cell 1⟩, D0.out, D1.out⟩
        generalize wq.drew = wd at *
        have z1 := S2.out.Z.cell 1
        simp at z1
        refine wpAnyH_take (i := 0) (oi := ⟨some 42, _, _, _, _, _⟩) (v := ?_) rfl (by kernel_rfl) (by kernel_rfl) (by kernel_rfl) (fun _ _ _ h => h) (Or.inl ⟨by kernel_rfl, ?_⟩) (by assumption) ?_
        rotate_left 1
        · (intro w hSw; (try dsimp only at hSw); go_simp) <;> (with_reducible rfl)
        (try simp only [Act.put, List.setIfInBounds_toArray, List.set_cons_succ, List.set_cons_zero])
        refine wpAnyH_take (i := 2) (oi := ⟨some 44, _, _, _, _, _⟩) (v := ?_) rfl (by kernel_rfl) (by kernel_rfl) (by kernel_rfl) (fun _ _ _ h => h) (Or.inl ⟨by kernel_rfl, ?_⟩) (by assumption) ?_
        rotate_left 1
        · (intro w hSw; (try dsimp only at hSw); go_simp) <;> (with_reducible rfl)
        (try simp only [Act.put, List.setIfInBounds_toArray, List.set_cons_succ, List.set_cons_zero])
        refine wpAnyH_take (i := 3) (oi := ⟨some 45, _, _, _, _, _⟩) (v := ?_) rfl (by kernel_rfl) (by kernel_rfl) (by kernel_rfl) (fun _ _ _ h => h) (Or.inl ⟨by kernel_rfl, ?_⟩) (by assumption) ?_
        rotate_left 1
        · (intro w hSw; (try dsimp only at hSw); go_simp) <;> (with_reducible rfl)
        (try simp only [Act.put, List.setIfInBounds_toArray, List.set_cons_succ, List.set_cons_zero])
        refine wpAnyH_take (i := 4) (oi := ⟨some 46, _, _, _, _, _⟩) (v := ?_) rfl (by kernel_rfl) (by kernel_rfl) (by kernel_rfl) (fun _ _ _ h => h) (Or.inl ⟨by kernel_rfl, ?_⟩) (by assumption) ?_
        rotate_left 1
        · (intro w hSw; (try dsimp only at hSw); go_simp) <;> (with_reducible rfl)
        (try simp only [Act.put, List.setIfInBounds_toArray, List.set_cons_succ, List.set_cons_zero])
        refine wpAnyH_take (i := 5) (oi := ⟨some 47, _, _, _, _, _⟩) (v := ?_) rfl (by kernel_rfl) (by kernel_rfl) (by kernel_rfl) (fun _ _ _ h => h) (Or.inl ⟨by kernel_rfl, ?_⟩) (by assumption) ?_
        rotate_left 1
        · (intro w hSw; (try dsimp only at hSw); go_simp) <;> (with_reducible rfl)
        (try simp only [Act.put, List.setIfInBounds_toArray, List.set_cons_succ, List.set_cons_zero])
        refine wpAnyH_take (i := 6) (oi := ⟨some 48, _, _, _, _, _⟩) (v := ?_) rfl (by kernel_rfl) (by kernel_rfl) (by kernel_rfl) (fun _ _ _ h => h) (Or.inl ⟨by kernel_rfl, ?_⟩) (by assumption) ?_
        rotate_left 1
        · (intro w hSw; (try dsimp only at hSw); go_simp) <;> (with_reducible rfl)
        (try simp only [Act.put, List.setIfInBounds_toArray, List.set_cons_succ, List.set_cons_zero])
        refine wpAnyH_ready (rs := [1, 7]) (by kernel_rfl) (by simp) ?_
        refine AllReadyH.cons (o := ⟨some 43, _, _, _, _, _⟩) rfl (fun K' hK => ?_) ?_
        · go_simp
          refine hK.out _ _ ?_ (fun hHeld => ?_)
          · exact ⟨⟨S2.out.X.cell 0, S2.out.X.cell 1⟩, D0.out, D1.out⟩
          clear hK K'
          (try simp only [Act.put, List.setIfInBounds_toArray, List.set_cons_succ, List.set_cons_zero])
          refine wpAnyH_ready (rs := [7]) (by kernel_rfl) (by simp) ?_
          refine AllReadyH.cons (o := ⟨some 49, _, _, _, _, _⟩) rfl (fun K' hK => ?_) AllReadyH.nil
          go_simp
          have M2 := bal (brefl wd) (.cells #[.int .i64 fk, .slice Ak nk ck] 52)
          have NB := hide (cells_two (Box.new wd 52 #[.int .i64 fk, .slice Ak nk ck]))
          have HKD := hide (Nat.lt_of_lt_of_le HGL.out S2.out.KM.size)
          replace D0 := hide ((M2.cell (p := ⟨g, k * 2, none⟩) HKD.out).trans D0.out)
          replace D1 := hide ((M2.cell (p := ⟨g, k * 2 + 1, none⟩) HKD.out).trans D1.out)
          replace S2 := hide (S2.out.below M2)
          have HO := hide S2.out.O
          have HSZ := hide S2.out.sz
          clear M2 HKD z1
          have z1 := S2.out.Z.cell 1
          simp at z1
          refine hK.out _ _ ?_ (fun hHeld => ?_)
          · exact ⟨⟨S2.out.X.cell 0, S2.out.X.cell 1⟩, D0.out, D1.out⟩
          clear hK K'
          (try simp only [Act.put, List.setIfInBounds_toArray, List.set_cons_succ, List.set_cons_zero])
          refine wpAnyH_ready (rs := [8]) (by kernel_rfl) (by simp) ?_
          refine AllReadyH.cons (o := ⟨some 50, _, _, _, _, _⟩) rfl (fun K' hK => ?_) AllReadyH.nil
          refine step_append_own rfl (.tmp 43) (.tmp 49) 22 rfl B1 52 i0 _ 2 32 Try.underlying22 hi0 hzz0 hzz1 hzz2 rfl (by omega) (.slice A4 no2 c4) no2 (cC Q2) rfl HO.out ⟨wd.heap.size, 0, none⟩ 1 1 [.int .i64 fk, .slice Ak nk ck] rfl rfl NB.out (by intro u hu; rcases List.mem_cons.1 hu with rfl | hu; rfl; rw [List.mem_singleton.1 hu]; rfl) (by simp only [maxLen]; omega) (by omega) HSZ.out ?_
          intro v5 w5' hown5 hg5
          obtain ⟨A5, c5, ev5, _⟩ := row_form hown5
          subst ev5
          have KU := kp_own HO.out hg5 HSZ.out
          replace S2 := hide (S2.out.grow (Q' := Q2 ++ [(fk, lk, .slice Ak nk ck)]) KU (by rw [cC_append]; exact hown5))
          replace D0 := hide ((KU.below.cell (p := ⟨g, k * 2, none⟩) (Nat.lt_of_lt_of_le HGL.out HLE.out)).trans D0.out)
          replace D1 := hide ((KU.below.cell (p := ⟨g, k * 2 + 1, none⟩) (Nat.lt_of_lt_of_le HGL.out HLE.out)).trans D1.out)
          clear hown5 hg5 KU NB HO HSZ z1
          have z1 := S2.out.Z.cell 1
          have zf := S2.out.Z.frozen 1
          simp at z1
          refine hK.out _ _ ?_ (fun hHeld => ?_)
          · exact ⟨⟨S2.out.X.cell 0, S2.out.X.cell 1⟩, D0.out, D1.out⟩
          clear hK K'
          (try simp only [Act.put, List.setIfInBounds_toArray, List.set_cons_succ, List.set_cons_zero])
          refine wpAnyH_take (i := 9) (oi := ⟨some 51, _, _, _, _, _⟩) (v := ?_) rfl (by kernel_rfl) (by kernel_rfl) (by kernel_rfl) (fun _ _ _ h => h) (Or.inl ⟨by kernel_rfl, ?_⟩) (by assumption) ?_
          rotate_left 1
          · (intro w hSw; (try dsimp only at hSw); go_simp) <;> (with_reducible rfl)
          (try simp only [Act.put, List.setIfInBounds_toArray, List.set_cons_succ, List.set_cons_zero])
          refine wpAnyH_ready (rs := [10]) (by kernel_rfl) (by simp) ?_
          refine AllReadyH.cons (o := ⟨none, _, _, _, _, _⟩) rfl (fun K' hK => ?_) AllReadyH.nil
          go_simp
          have KS := Kp.boxset S2.out.Z S2.out.l5 1 (.slice A5 (no2 + 1) c5)
          replace S2 := hide (S2.out.store (.slice A5 (no2 + 1) c5))
          replace D0 := hide ((KS.below.cell (p := ⟨g, k * 2, none⟩) HGL.out).trans D0.out)
          replace D1 := hide ((KS.below.cell (p := ⟨g, k * 2 + 1, none⟩) HGL.out).trans D1.out)
          clear KS z1 zf
          refine hK.out _ _ ?_ (fun hHeld => ?_)
          · exact ⟨⟨S2.out.X.cell 0, S2.out.X.cell 1⟩, D0.out, D1.out⟩
          clear hK K'
          (try simp only [Act.put, List.setIfInBounds_toArray, List.set_cons_succ, List.set_cons_zero])
          refine wpAnyH_done (by kernel_rfl) ?_ _
          refine NoPanic.normal ?_
          clear hHeld
          go_wp2
          go_roundw
          case rel => first | exact ⟨k + 1, A5, c5, _, _, HDN.out, by go_num, by omega, HQ2, HNQ.out, S2⟩ | exact ⟨k + 1, A5, c5, _, _, by rw [HDN2.out], by go_num, by omega, HQ2, HNQ.out, S2⟩ | exact ⟨k + 1, A5, c5, _, _, by go_num, by omega, HQ2, HNQ.out, S2⟩
          case measure => simp [intOf]; omega
        refine AllReadyH.cons (o := ⟨some 49, _, _, _, _, _⟩) rfl (fun K' hK => ?_) AllReadyH.nil
        go_simp
        have M2 := bal (brefl wd) (.cells #[.int .i64 fk, .slice Ak nk ck] 52)
        have NB := hide (cells_two (Box.new wd 52 #[.int .i64 fk, .slice Ak nk ck]))
        have HKD := hide (Nat.lt_of_lt_of_le HGL.out S2.out.KM.size)
        replace D0 := hide ((M2.cell (p := ⟨g, k * 2, none⟩) HKD.out).trans D0.out)
        replace D1 := hide ((M2.cell (p := ⟨g, k * 2 + 1, none⟩) HKD.out).trans D1.out)
        replace S2 := hide (S2.out.below M2)
        have HO := hide S2.out.O
        have HSZ := hide S2.out.sz
        clear M2 HKD z1
        have z1 := S2.out.Z.cell 1
        simp at z1
        refine hK.out _ _ ?_ (fun hHeld => ?_)
        · exact ⟨⟨S2.out.X.cell 0, S2.out.X.cell 1⟩, D0.out, D1.out⟩
        clear hK K'
        (try simp only [Act.put, List.setIfInBounds_toArray, List.set_cons_succ, List.set_cons_zero])
        refine wpAnyH_ready (rs := [1]) (by kernel_rfl) (by simp) ?_
        refine AllReadyH.cons (o := ⟨some 43, _, _, _, _, _⟩) rfl (fun K' hK => ?_) AllReadyH.nil
        go_simp
        refine hK.out _ _ ?_ (fun hHeld => ?_)
        · exact ⟨⟨S2.out.X.cell 0, S2.out.X.cell 1⟩, D0.out, D1.out⟩
        clear hK K'
        (try simp only [Act.put, List.setIfInBounds_toArray, List.set_cons_succ, List.set_cons_zero])
        refine wpAnyH_ready (rs := [8]) (by kernel_rfl) (by simp) ?_
        refine AllReadyH.cons (o := ⟨some 50, _, _, _, _, _⟩) rfl (fun K' hK => ?_) AllReadyH.nil
        refine step_append_own rfl (.tmp 43) (.tmp 49) 22 rfl B1 52 i0 _ 2 32 Try.underlying22 hi0 hzz0 hzz1 hzz2 rfl (by omega) (.slice A4 no2 c4) no2 (cC Q2) rfl HO.out ⟨wd.heap.size, 0, none⟩ 1 1 [.int .i64 fk, .slice Ak nk ck] rfl rfl NB.out (by intro u hu; rcases List.mem_cons.1 hu with rfl | hu; rfl; rw [List.mem_singleton.1 hu]; rfl) (by simp only [maxLen]; omega) (by omega) HSZ.out ?_
        intro v5 w5' hown5 hg5
        obtain ⟨A5, c5, ev5, _⟩ := row_form hown5
        subst ev5
        have KU := kp_own HO.out hg5 HSZ.out
        replace S2 := hide (S2.out.grow (Q' := Q2 ++ [(fk, lk, .slice Ak nk ck)]) KU (by rw [cC_append]; exact hown5))
        replace D0 := hide ((KU.below.cell (p := ⟨g, k * 2, none⟩) (Nat.lt_of_lt_of_le HGL.out HLE.out)).trans D0.out)
        replace D1 := hide ((KU.below.cell (p := ⟨g, k * 2 + 1, none⟩) (Nat.lt_of_lt_of_le HGL.out HLE.out)).trans D1.out)
        clear hown5 hg5 KU NB HO HSZ z1
        have z1 := S2.out.Z.cell 1
        have zf := S2.out.Z.frozen 1
        simp at z1
        refine hK.out _ _ ?_ (fun hHeld => ?_)
        · exact ⟨⟨S2.out.X.cell 0, S2.out.X.cell 1⟩, D0.out, D1.out⟩
        clear hK K'
        (try simp only [Act.put, List.setIfInBounds_toArray, List.set_cons_succ, List.set_cons_zero])
        refine wpAnyH_take (i := 9) (oi := ⟨some 51, _, _, _, _, _⟩) (v := ?_) rfl (by kernel_rfl) (by kernel_rfl) (by kernel_rfl) (fun _ _ _ h => h) (Or.inl ⟨by kernel_rfl, ?_⟩) (by assumption) ?_
        rotate_left 1
        · (intro w hSw; (try dsimp only at hSw); go_simp) <;> (with_reducible rfl)
        (try simp only [Act.put, List.setIfInBounds_toArray, List.set_cons_succ, List.set_cons_zero])
        refine wpAnyH_ready (rs := [10]) (by kernel_rfl) (by simp) ?_
        refine AllReadyH.cons (o := ⟨none, _, _, _, _, _⟩) rfl (fun K' hK => ?_) AllReadyH.nil
        go_simp
        have KS := Kp.boxset S2.out.Z S2.out.l5 1 (.slice A5 (no2 + 1) c5)
        replace S2 := hide (S2.out.store (.slice A5 (no2 + 1) c5))
        replace D0 := hide ((KS.below.cell (p := ⟨g, k * 2, none⟩) HGL.out).trans D0.out)
        replace D1 := hide ((KS.below.cell (p := ⟨g, k * 2 + 1, none⟩) HGL.out).trans D1.out)
        clear KS z1 zf
        refine hK.out _ _ ?_ (fun hHeld => ?_)
        · exact ⟨⟨S2.out.X.cell 0, S2.out.X.cell 1⟩, D0.out, D1.out⟩
        clear hK K'
        (try simp only [Act.put, List.setIfInBounds_toArray, List.set_cons_succ, List.set_cons_zero])
        refine wpAnyH_done (by kernel_rfl) ?_ _
        refine NoPanic.normal ?_
        clear hHeld
        go_wp2
        go_roundw
        case rel => first | exact ⟨k + 1, A5, c5, _, _, HDN.out, by go_num, by omega, HQ2, HNQ.out, S2⟩ | exact ⟨k + 1, A5, c5, _, _, by rw [HDN2.out], by go_num, by omega, HQ2, HNQ.out, S2⟩ | exact ⟨k + 1, A5, c5, _, _, by go_num, by omega, HQ2, HNQ.out, S2⟩
        case measure => simp [intOf]; omega
      · have h9 : True := trivial
        have hd1 : decide (p < k) = true := decide_eq_true (by omega)
        have HDN := hide (show (Value.bool true) = .bool (decide (p < k + 1)) by rw [decide_eq_true (by omega)])
        have HDN2 := hide (show decide (p < k + 1) = true from decide_eq_true (by omega))
        have HQ2 := hide (show Q ++ [(fk, lk, .slice Ak nk ck)] = Qk R (f, List.replicate m false, u) p (k + 1) by rw [QH.out hkp, HQ.out])
        have HNQ := hide (show (Q ++ [(fk, lk, Value.slice Ak nk ck)]).length = no + 1 by rw [List.length_append, HN.out]; rfl)
        rw [hd1]
        clear hgt QL QH QA hd1 hkp HQ
        go_upto_region 10 with fail
        have KD : Below wr.heap.size wr wr.drew := below_drewN (brefl _) 1
        have S2 := hide (S.out.below KD)
        have D0 := hide (show wr.drew.cell? ⟨g, k * 2, none⟩ = some (.int .i64 fk) from (S2.out.KM.cell (p := ⟨g, k * 2, none⟩) HGL.out).trans d0)
        have D1 := hide (show wr.drew.cell? ⟨g, k * 2 + 1, none⟩ = some (.slice Ak nk ck) from (S2.out.KM.cell (p := ⟨g, k * 2 + 1, none⟩) HGL.out).trans d1)
        clear KD e0 e1 x1 d0 d1 S
        refine wp_region_noPanic ?_
        refine wp_region_held_drew (S := (fun W => (W.cell? ⟨g2, 0, none⟩ = some (.int .i64 ob) ∧ W.cell? ⟨g2, 1, none⟩ = some (.slice (some ⟨g, 0, none⟩) n c)) ∧ W.cell? ⟨g, k * 2, none⟩ = some (.int .i64 fk) ∧ W.cell? ⟨g, k * 2 + 1, none⟩ = some (.slice Ak nk ck))) (by kernel_rfl) ?_ (fun hHeld => ?_)
        · exact ⟨⟨S2.out.X.cell 0, S2.out.X.cell 1⟩, D0.out, D1.out⟩
        generalize wr.drew = wd at *
        have z1 := S2.out.Z.cell 1
        simp at z1
        refine wpAnyH_take (i := 0) (oi := ⟨some 42, _, _, _, _, _⟩) (v := ?_) rfl (by kernel_rfl) (by kernel_rfl) (by kernel_rfl) (fun _ _ _ h => h) (Or.inl ⟨by kernel_rfl, ?_⟩) (by assumption) ?_
        rotate_left 1
        · (intro w hSw; (try dsimp only at hSw); go_simp) <;> (with_reducible rfl)
        (try simp only [Act.put, List.setIfInBounds_toArray, List.set_cons_succ, List.set_cons_zero])
        refine wpAnyH_take (i := 2) (oi := ⟨some 44, _, _, _, _, _⟩) (v := ?_) rfl (by kernel_rfl) (by kernel_rfl) (by kernel_rfl) (fun _ _ _ h => h) (Or.inl ⟨by kernel_rfl, ?_⟩) (by assumption) ?_
        rotate_left 1
        · (intro w hSw; (try dsimp only at hSw); go_simp) <;> (with_reducible rfl)
        (try simp only [Act.put, List.setIfInBounds_toArray, List.set_cons_succ, List.set_cons_zero])
        refine wpAnyH_take (i := 3) (oi := ⟨some 45, _, _, _, _, _⟩) (v := ?_) rfl (by kernel_rfl) (by kernel_rfl) (by kernel_rfl) (fun _ _ _ h => h) (Or.inl ⟨by kernel_rfl, ?_⟩) (by assumption) ?_
        rotate_left 1
        · (intro w hSw; (try dsimp only at hSw); go_simp) <;> (with_reducible rfl)
        (try simp only [Act.put, List.setIfInBounds_toArray, List.set_cons_succ, List.set_cons_zero])
        refine wpAnyH_take (i := 4) (oi := ⟨some 46, _, _, _, _, _⟩) (v := ?_) rfl (by kernel_rfl) (by kernel_rfl) (by kernel_rfl) (fun _ _ _ h => h) (Or.inl ⟨by kernel_rfl, ?_⟩) (by assumption) ?_
        rotate_left 1
        · (intro w hSw; (try dsimp only at hSw); go_simp) <;> (with_reducible rfl)
        (try simp only [Act.put, List.setIfInBounds_toArray, List.set_cons_succ, List.set_cons_zero])
        refine wpAnyH_take (i := 5) (oi := ⟨some 47, _, _, _, _, _⟩) (v := ?_) rfl (by kernel_rfl) (by kernel_rfl) (by kernel_rfl) (fun _ _ _ h => h) (Or.inl ⟨by kernel_rfl, ?_⟩) (by assumption) ?_
        rotate_left 1
        · (intro w hSw; (try dsimp only at hSw); go_simp) <;> (with_reducible rfl)
        (try simp only [Act.put, List.setIfInBounds_toArray, List.set_cons_succ, List.set_cons_zero])
        refine wpAnyH_take (i := 6) (oi := ⟨some 48, _, _, _, _, _⟩) (v := ?_) rfl (by kernel_rfl) (by kernel_rfl) (by kernel_rfl) (fun _ _ _ h => h) (Or.inl ⟨by kernel_rfl, ?_⟩) (by assumption) ?_
        rotate_left 1
        · (intro w hSw; (try dsimp only at hSw); go_simp) <;> (with_reducible rfl)
        (try simp only [Act.put, List.setIfInBounds_toArray, List.set_cons_succ, List.set_cons_zero])
        refine wpAnyH_ready (rs := [1, 7]) (by kernel_rfl) (by simp) ?_
        refine AllReadyH.cons (o := ⟨some 43, _, _, _, _, _⟩) rfl (fun K' hK => ?_) ?_
        · go_simp
          refine hK.out _ _ ?_ (fun hHeld => ?_)
          · exact ⟨⟨S2.out.X.cell 0, S2.out.X.cell 1⟩, D0.out, D1.out⟩
          clear hK K'
          (try simp only [Act.put, List.setIfInBounds_toArray, List.set_cons_succ, List.set_cons_zero])
          refine wpAnyH_ready (rs := [7]) (by kernel_rfl) (by simp) ?_
          refine AllReadyH.cons (o := ⟨some 49, _, _, _, _, _⟩) rfl (fun K' hK => ?_) AllReadyH.nil
          go_simp
          have M2 := bal (brefl wd) (.cells #[.int .i64 fk, .slice Ak nk ck] 52)
          have NB := hide (cells_two (Box.new wd 52 #[.int .i64 fk, .slice Ak nk ck]))
          have HKD := hide (Nat.lt_of_lt_of_le HGL.out S2.out.KM.size)
          replace D0 := hide ((M2.cell (p := ⟨g, k * 2, none⟩) HKD.out).trans D0.out)
          replace D1 := hide ((M2.cell (p := ⟨g, k * 2 + 1, none⟩) HKD.out).trans D1.out)
          replace S2 := hide (S2.out.below M2)
          have HO := hide S2.out.O
          have HSZ := hide S2.out.sz
          clear M2 HKD z1
          have z1 := S2.out.Z.cell 1
          simp at z1
          refine hK.out _ _ ?_ (fun hHeld => ?_)
          · exact ⟨⟨S2.out.X.cell 0, S2.out.X.cell 1⟩, D0.out, D1.out⟩
          clear hK K'
          (try simp only [Act.put, List.setIfInBounds_toArray, List.set_cons_succ, List.set_cons_zero])
          refine wpAnyH_ready (rs := [8]) (by kernel_rfl) (by simp) ?_
          refine AllReadyH.cons (o := ⟨some 50, _, _, _, _, _⟩) rfl (fun K' hK => ?_) AllReadyH.nil
          refine step_append_own rfl (.tmp 43) (.tmp 49) 22 rfl B1 52 i0 _ 2 32 Try.underlying22 hi0 hzz0 hzz1 hzz2 rfl (by omega) (.slice Ao no co) no (cC Q) rfl HO.out ⟨wd.heap.size, 0, none⟩ 1 1 [.int .i64 fk, .slice Ak nk ck] rfl rfl NB.out (by intro u hu; rcases List.mem_cons.1 hu with rfl | hu; rfl; rw [List.mem_singleton.1 hu]; rfl) (by simp only [maxLen]; omega) (by omega) HSZ.out ?_
          intro v5 w5' hown5 hg5
          obtain ⟨A5, c5, ev5, _⟩ := row_form hown5
          subst ev5
          have KU := kp_own HO.out hg5 HSZ.out
          replace S2 := hide (S2.out.grow (Q' := Q ++ [(fk, lk, .slice Ak nk ck)]) KU (by rw [cC_append]; exact hown5))
          replace D0 := hide ((KU.below.cell (p := ⟨g, k * 2, none⟩) (Nat.lt_of_lt_of_le HGL.out HLE.out)).trans D0.out)
          replace D1 := hide ((KU.below.cell (p := ⟨g, k * 2 + 1, none⟩) (Nat.lt_of_lt_of_le HGL.out HLE.out)).trans D1.out)
          clear hown5 hg5 KU NB HO HSZ z1
          have z1 := S2.out.Z.cell 1
          have zf := S2.out.Z.frozen 1
          simp at z1
          refine hK.out _ _ ?_ (fun hHeld => ?_)
          · exact ⟨⟨S2.out.X.cell 0, S2.out.X.cell 1⟩, D0.out, D1.out⟩
          clear hK K'
          (try simp only [Act.put, List.setIfInBounds_toArray, List.set_cons_succ, List.set_cons_zero])
          refine wpAnyH_take (i := 9) (oi := ⟨some 51, _, _, _, _, _⟩) (v := ?_) rfl (by kernel_rfl) (by kernel_rfl) (by kernel_rfl) (fun _ _ _ h => h) (Or.inl ⟨by kernel_rfl, ?_⟩) (by assumption) ?_
          rotate_left 1
          · (intro w hSw; (try dsimp only at hSw); go_simp) <;> (with_reducible rfl)
          (try simp only [Act.put, List.setIfInBounds_toArray, List.set_cons_succ, List.set_cons_zero])
          refine wpAnyH_ready (rs := [10]) (by kernel_rfl) (by simp) ?_
          refine AllReadyH.cons (o := ⟨none, _, _, _, _, _⟩) rfl (fun K' hK => ?_) AllReadyH.nil
          go_simp
          have KS := Kp.boxset S2.out.Z S2.out.l5 1 (.slice A5 (no + 1) c5)
          replace S2 := hide (S2.out.store (.slice A5 (no + 1) c5))
          replace D0 := hide ((KS.below.cell (p := ⟨g, k * 2, none⟩) HGL.out).trans D0.out)
          replace D1 := hide ((KS.below.cell (p := ⟨g, k * 2 + 1, none⟩) HGL.out).trans D1.out)
          clear KS z1 zf
          refine hK.out _ _ ?_ (fun hHeld => ?_)
          · exact ⟨⟨S2.out.X.cell 0, S2.out.X.cell 1⟩, D0.out, D1.out⟩
          clear hK K'
          (try simp only [Act.put, List.setIfInBounds_toArray, List.set_cons_succ, List.set_cons_zero])
          refine wpAnyH_done (by kernel_rfl) ?_ _
          refine NoPanic.normal ?_
          clear hHeld
          go_wp2
          go_roundw
          case rel => first | exact ⟨k + 1, A5, c5, _, _, HDN.out, by go_num, by omega, HQ2, HNQ.out, S2⟩ | exact ⟨k + 1, A5, c5, _, _, by rw [HDN2.out], by go_num, by omega, HQ2, HNQ.out, S2⟩ | exact ⟨k + 1, A5, c5, _, _, by go_num, by omega, HQ2, HNQ.out, S2⟩
          case measure => simp [intOf]; omega
        refine AllReadyH.cons (o := ⟨some 49, _, _, _, _, _⟩) rfl (fun K' hK => ?_) AllReadyH.nil
        go_simp
        have M2 := bal (brefl wd) (.cells #[.int .i64 fk, .slice Ak nk ck] 52)
        have NB := hide (cells_two (Box.new wd 52 #[.int .i64 fk, .slice Ak nk ck]))
        have HKD := hide (Nat.lt_of_lt_of_le HGL.out S2.out.KM.size)
        replace D0 := hide ((M2.cell (p := ⟨g, k * 2, none⟩) HKD.out).trans D0.out)
        replace D1 := hide ((M2.cell (p := ⟨g, k * 2 + 1, none⟩) HKD.out).trans D1.out)
        replace S2 := hide (S2.out.below M2)
        have HO := hide S2.out.O
        have HSZ := hide S2.out.sz
        clear M2 HKD z1
        have z1 := S2.out.Z.cell 1
        simp at z1
        refine hK.out _ _ ?_ (fun hHeld => ?_)
        · exact ⟨⟨S2.out.X.cell 0, S2.out.X.cell 1⟩, D0.out, D1.out⟩
        clear hK K'
        (try simp only [Act.put, List.setIfInBounds_toArray, List.set_cons_succ, List.set_cons_zero])
        refine wpAnyH_ready (rs := [1]) (by kernel_rfl) (by simp) ?_
        refine AllReadyH.cons (o := ⟨some 43, _, _, _, _, _⟩) rfl (fun K' hK => ?_) AllReadyH.nil
        go_simp
        refine hK.out _ _ ?_ (fun hHeld => ?_)
        · exact ⟨⟨S2.out.X.cell 0, S2.out.X.cell 1⟩, D0.out, D1.out⟩
        clear hK K'
        (try simp only [Act.put, List.setIfInBounds_toArray, List.set_cons_succ, List.set_cons_zero])
        refine wpAnyH_ready (rs := [8]) (by kernel_rfl) (by simp) ?_
        refine AllReadyH.cons (o := ⟨some 50, _, _, _, _, _⟩) rfl (fun K' hK => ?_) AllReadyH.nil
        refine step_append_own rfl (.tmp 43) (.tmp 49) 22 rfl B1 52 i0 _ 2 32 Try.underlying22 hi0 hzz0 hzz1 hzz2 rfl (by omega) (.slice Ao no co) no (cC Q) rfl HO.out ⟨wd.heap.size, 0, none⟩ 1 1 [.int .i64 fk, .slice Ak nk ck] rfl rfl NB.out (by intro u hu; rcases List.mem_cons.1 hu with rfl | hu; rfl; rw [List.mem_singleton.1 hu]; rfl) (by simp only [maxLen]; omega) (by omega) HSZ.out ?_
        intro v5 w5' hown5 hg5
        obtain ⟨A5, c5, ev5, _⟩ := row_form hown5
        subst ev5
        have KU := kp_own HO.out hg5 HSZ.out
        replace S2 := hide (S2.out.grow (Q' := Q ++ [(fk, lk, .slice Ak nk ck)]) KU (by rw [cC_append]; exact hown5))
        replace D0 := hide ((KU.below.cell (p := ⟨g, k * 2, none⟩) (Nat.lt_of_lt_of_le HGL.out HLE.out)).trans D0.out)
        replace D1 := hide ((KU.below.cell (p := ⟨g, k * 2 + 1, none⟩) (Nat.lt_of_lt_of_le HGL.out HLE.out)).trans D1.out)
        clear hown5 hg5 KU NB HO HSZ z1
        have z1 := S2.out.Z.cell 1
        have zf := S2.out.Z.frozen 1
        simp at z1
        refine hK.out _ _ ?_ (fun hHeld => ?_)
        · exact ⟨⟨S2.out.X.cell 0, S2.out.X.cell 1⟩, D0.out, D1.out⟩
        clear hK K'
        (try simp only [Act.put, List.setIfInBounds_toArray, List.set_cons_succ, List.set_cons_zero])
        refine wpAnyH_take (i := 9) (oi := ⟨some 51, _, _, _, _, _⟩) (v := ?_) rfl (by kernel_rfl) (by kernel_rfl) (by kernel_rfl) (fun _ _ _ h => h) (Or.inl ⟨by kernel_rfl, ?_⟩) (by assumption) ?_
        rotate_left 1
        · (intro w hSw; (try dsimp only at hSw); go_simp) <;> (with_reducible rfl)
        (try simp only [Act.put, List.setIfInBounds_toArray, List.set_cons_succ, List.set_cons_zero])
        refine wpAnyH_ready (rs := [10]) (by kernel_rfl) (by simp) ?_
        refine AllReadyH.cons (o := ⟨none, _, _, _, _, _⟩) rfl (fun K' hK => ?_) AllReadyH.nil
        go_simp
        have KS := Kp.boxset S2.out.Z S2.out.l5 1 (.slice A5 (no + 1) c5)
        replace S2 := hide (S2.out.store (.slice A5 (no + 1) c5))
        replace D0 := hide ((KS.below.cell (p := ⟨g, k * 2, none⟩) HGL.out).trans D0.out)
        replace D1 := hide ((KS.below.cell (p := ⟨g, k * 2 + 1, none⟩) HGL.out).trans D1.out)
        clear KS z1 zf
        refine hK.out _ _ ?_ (fun hHeld => ?_)
        · exact ⟨⟨S2.out.X.cell 0, S2.out.X.cell 1⟩, D0.out, D1.out⟩
        clear hK K'
        (try simp only [Act.put, List.setIfInBounds_toArray, List.set_cons_succ, List.set_cons_zero])
        refine wpAnyH_done (by kernel_rfl) ?_ _
        refine NoPanic.normal ?_
        clear hHeld
        go_wp2
        go_roundw
        case rel => first | exact ⟨k + 1, A5, c5, _, _, HDN.out, by go_num, by omega, HQ2, HNQ.out, S2⟩ | exact ⟨k + 1, A5, c5, _, _, by rw [HDN2.out], by go_num, by omega, HQ2, HNQ.out, S2⟩ | exact ⟨k + 1, A5, c5, _, _, by go_num, by omega, HQ2, HNQ.out, S2⟩
        case measure => simp [intOf]; omega
    · obtain rfl : n = k := by omega
      have HY := hide S.out.Y
      by_cases hpn : p < n
      · rw [decide_eq_true hpn]
        have HQ2 := hide (show Q = R.take p ++ (f, List.replicate m false, u) :: R.drop p by
          rw [HQ.out]; unfold Qk; rw [if_neg (by omega), (show R.take n = R from List.take_of_length_le (by rw [HRn.out]; exact Nat.le_refl _))])
        have hN2 : no = n + 1 := by rw [← HN.out, HQ2.out, ins_len, HRn.out]
        subst hN2
        clear hpn HQ
        have z0 := S.out.Z.cell 0
        have z1 := S.out.Z.cell 1
        have y0 := S.out.Y.cell 0
        have y1 := S.out.Y.cell 1
        have yf0 := S.out.Y.frozen 0
        have yf1 := S.out.Y.frozen 1
        simp at z0 z1 y0 y1
        go_wp2
        have E1 := (S.out.Y.put 0 (.int .i64 ob)).put 1 (.slice Ao (n + 1) co)
        have KP1 := Kp.boxset S.out.Y HG4.out 0 (.int .i64 ob)
        have KP2 := Kp.boxset (S.out.Y.put 0 (.int .i64 ob)) HG4.out 1 (.slice Ao (n + 1) co)
        have KK := (S.out.KM.trans KP1.below).trans KP2.below
        refine ret_s1 (v := .slice Ao (n + 1) co) (g := g4) (k := 4) (o := ob) rfl rfl rfl E1 ?_
        exact ⟨_, _, rfl, ins_ownD HR.out.1 HR.out.2.1 HR.out.2.2 hB KK (row_kp (row_kp S.out.U KP1 (by decide)) KP2 (by decide)) HPL.out (by rw [HRn.out]) (Nat.le_trans hB HLE.out) (by rw [← HQ2.out]; exact row_kp (row_kp S.out.O KP1 (by decide)) KP2 (by decide)), KK⟩
      · rw [decide_eq_false hpn]
        have hpe : p = n := by have := HPL.out; have := HRn.out; omega
        have HQ2 := hide (show Q ++ [(f, List.replicate m false, u)] = R.take p ++ (f, List.replicate m false, u) :: R.drop p by
          rw [HQ.out]; unfold Qk; rw [if_pos (by omega), hpe, (show R.take n = R from List.take_of_length_le (by rw [HRn.out]; exact Nat.le_refl _)), List.drop_eq_nil_of_le (by rw [HRn.out]; exact Nat.le_refl _)])
        have hN2 : no = n := by rw [← HN.out, HQ.out]; unfold Qk; rw [if_pos (by omega), List.length_take, HRn.out]; omega
        subst hN2
        clear hpn hpe HQ
        go_upto_region 12 with fail
        clear x1
        have M := bal (brefl wr) (.cells #[.int .i64 f, u] 52)
        have SM := hide (S.out.below M)
        have NB := hide (cells_two (Box.new wr 52 #[.int .i64 f, u]))
        have z1 := S.out.Z.cell 1
        have z2 := S.out.T.cell 0
        have z3 := S.out.T.cell 1
        simp at z1 z2 z3
        have HO := hide SM.out.O
        have HSZ := hide SM.out.sz
        clear M
        go_upto_region 13 with (at_builtin; refine wpList_append_own_at _ rfl (.tmp 55) (.tmp 57) 22 rfl B1 52 i0 _ 2 32 Try.underlying22 hi0 hzz0 hzz1 hzz2 rfl (by omega) (.slice Ao no co) no (cC Q) rfl HO.out ⟨wr.heap.size, 0, none⟩ 1 1 [.int .i64 f, u] rfl rfl NB.out (by intro y hy; rcases List.mem_cons.1 hy with rfl | hy; rfl; rw [List.mem_singleton.1 hy]; exact HU1.out) (by simp only [maxLen]; omega) (by omega) HSZ.out ?_; intro v4 w4 hown4 hg4 _ hat4; obtain ⟨A4, c4, ev4, _⟩ := row_form hown4; subst ev4; have KU := kp_own HO.out hg4 HSZ.out; have S4 := hide (SM.out.grow (Q' := Q ++ [(f, List.replicate m false, u)]) KU (by rw [cC_append]; exact hown4)); have y1 := S4.out.Z.cell 1; have y2 := S4.out.Z.frozen 1; simp at y1; clear hown4 hg4 hat4 KU)
        replace S := hide (S4.out.store (.slice A4 (no + 1) c4))
        clear S4 SM NB HO HSZ z1 z2 z3 y1 y2
        have x1 : True := trivial
        obtain ⟨wq, hwq⟩ : ∃ q, q = w4.setCell ⟨g5, 1, none⟩ (.slice A4 (no + 1) c4) := ⟨_, rfl⟩
        rw [← hwq] at S
        rw [← hwq]
        clear hwq
        have z0 := S.out.Z.cell 0
        have z1 := S.out.Z.cell 1
        have y0 := S.out.Y.cell 0
        have y1 := S.out.Y.cell 1
        have yf0 := S.out.Y.frozen 0
        have yf1 := S.out.Y.frozen 1
        simp at z0 z1 y0 y1
        go_wp2
        have E1 := (S.out.Y.put 0 (.int .i64 ob)).put 1 (.slice A4 (no + 1) c4)
        have KP1 := Kp.boxset S.out.Y HG4.out 0 (.int .i64 ob)
        have KP2 := Kp.boxset (S.out.Y.put 0 (.int .i64 ob)) HG4.out 1 (.slice A4 (no + 1) c4)
        have KK := (S.out.KM.trans KP1.below).trans KP2.below
        refine ret_s1 (v := .slice A4 (no + 1) c4) (g := g4) (k := 4) (o := ob) rfl rfl rfl E1 ?_
        exact ⟨_, _, rfl, ins_ownD HR.out.1 HR.out.2.1 HR.out.2.2 hB KK (row_kp (row_kp S.out.U KP1 (by decide)) KP2 (by decide)) HPL.out (by rw [HRn.out]) (Nat.le_trans hB HLE.out) (by rw [← HQ2.out]; exact row_kp (row_kp S.out.O KP1 (by decide)) KP2 (by decide)), KK⟩
end Go.Proofs.Ytncjicggolmofaa.Sb
namespace Go.Proofs.Ytncjicggolmofaa.Sb
open Go Go.RowKit
set_option linter.unusedVariables false
set_option linter.unusedSimpArgs false
/-- one slab more, without an object -/
def ins0 (m : Nat) (L : List Ca) (f : Int) : List Ca := L.take (caP L f) ++ (f, List.replicate m false) :: L.drop (caP L f)
theorem ins0s {m : Nat} : ∀ (gs : Is) (L : List Ca), Sg m L → gs.Nodup → (∀ g, g ∈ gs → g ∉ frs L) →
    Sg m (gs.foldl (ins0 m) L) ∧ (∀ x, x ∈ frs (gs.foldl (ins0 m) L) ↔ x ∈ frs L ∨ x ∈ gs) ∧ (∀ o, Ob m (gs.foldl (ins0 m) L) o ↔ Ob m L o) ∧ (gs.foldl (ins0 m) L).length = L.length + gs.length
  | [], L, h, _, _ => ⟨h, fun x => by simp, fun o => Iff.rfl, rfl⟩
  | g :: gs, L, h, hn, hg => by
    obtain ⟨a1, a2⟩ := Ob.new h (hg g (List.mem_cons_self ..))
    have hi : ∀ x, x ∈ frs (ins0 m L g) ↔ x = g ∨ x ∈ frs L := fun x => frs_ins
    obtain ⟨b1, b2, b3, b4⟩ := ins0s gs (ins0 m L g) a2 (List.nodup_cons.1 hn).2 (fun y hy c => by
      rcases (hi y).1 c with e | e
      · exact (List.nodup_cons.1 hn).1 (e ▸ hy)
      · exact hg y (List.mem_cons_of_mem _ hy) e)
    refine ⟨b1, fun x => ?_, fun o => (b3 o).trans (a1 o), ?_⟩
    · show x ∈ frs (gs.foldl (ins0 m) (ins0 m L g)) ↔ _
      rw [b2, hi, List.mem_cons]
      constructor
      · rintro ((e | e) | e)
        · exact .inr (.inl e)
        · exact .inl e
        · exact .inr (.inr e)
      · rintro (e | e | e)
        · exact .inl (.inr e)
        · exact .inl (.inl e)
        · exact .inr e
    · show (gs.foldl (ins0 m) (ins0 m L g)).length = _
      rw [b4]
      show (L.take _ ++ _ :: L.drop _).length + _ = _
      rw [ins_len, List.length_cons]; omega
theorem sg_nil (m : Nat) : Sg m [] := ⟨fun s t _ ht => absurd ht (Nat.not_lt_zero _), fun i hi => absurd hi (Nat.not_lt_zero _)⟩
/-- new slabs alone: their frames ascend, nothing in them is used -/
theorem fresh_is {m : Nat} {gs : Is} (hn : gs.Nodup) : frs (gs.foldl (ins0 m) []) = srt gs ∧ ∀ i, i < (gs.foldl (ins0 m) []).length → (cAt (gs.foldl (ins0 m) []) i).2 = List.replicate m false := by
  obtain ⟨b1, b2, b3, b4⟩ := ins0s gs [] (sg_nil m) hn (fun g _ h => by cases h)
  generalize gs.foldl (ins0 m) [] = T at *
  constructor
  · have n1 := (asc_frs b1.asc).imp (fun h => Int.ne_of_lt h)
    have hp := (List.perm_ext_iff_of_nodup n1 (srt_nodup hn)).2 (fun x => by rw [b2, srt_mem]; exact ⟨fun h => h.elim (fun h => by cases h) id, .inr⟩)
    have hs : (srt gs).Pairwise (· ≤ ·) := by
      have := List.pairwise_mergeSort (le := fun a b : Int => decide (a ≤ b)) (fun a b c h1 h2 => by simp at *; omega) (fun a b => by simp; omega) gs
      exact this.imp (fun h => by simpa using h)
    exact hp.eq_of_pairwise (fun a b _ _ h1 h2 => by omega) ((asc_frs b1.asc).imp (fun h => Int.le_of_lt h)) hs
  · intro i hi
    have hl := b1.len i hi
    refine List.ext_getElem (by rw [hl, List.length_replicate]) fun j j1 j2 => ?_
    rw [List.getElem_replicate]
    cases e : (cAt T i).2[j]
    · rfl
    · have : Ob m T ((cAt T i).1 * (m : Int) + (j : Int)) := ⟨i, hi, j, by omega, by rw [List.getD_eq_getElem?_getD, List.getElem?_eq_getElem j1, e]; rfl, rfl⟩
      obtain ⟨q, hq, _⟩ := (b3 _).1 this
      exact absurd hq (Nat.not_lt_zero _)
/-- the free objects of a new slab -/
def gO (m : Nat) (f : Int) : Is := nb f m (List.replicate m false) false m
theorem take_app {α : Type} (X Y : List α) (n : Nat) : X.take n ++ Y.take (n - (X.take n).length) = (X ++ Y).take n := by
  rw [List.take_append]
  congr 1
  rw [List.length_take]
  by_cases h : X.length ≤ n
  · rw [Nat.min_eq_right h]
  · rw [Nat.min_eq_left (by omega)]
    rw [show n - n = 0 by omega, show n - X.length = 0 by omega]
theorem uO_rep (f : Int) (m n : Nat) : uO f (List.replicate m false) n = (gO m f).take n := by
  unfold uO gO
  rw [List.length_replicate]
theorem alZs_snd {n m : Nat} : ∀ (zs : Is) (s : List Ca × Is) (X : Is), s.2 = X.take n → (zs.foldl (alZ n m) s).2 = (X ++ zs.flatMap (gO m)).take n
  | [], s, X, h => by simpa using h
  | z :: zs, s, X, h => by
    show (zs.foldl (alZ n m) (alZ n m s z)).2 = _
    rw [alZs_snd zs (alZ n m s z) (X ++ gO m z) (by
      show s.2 ++ uO z (List.replicate m false) (n - s.2.length) = _
      rw [uO_rep, h, take_app])]
    rw [List.flatMap_cons, List.append_assoc]
theorem alK_snd {S : Sc} (V : Vd S) (n : Nat) : ∀ k, k ≤ S.sl.length → (alK n S.sl k).2 = (ls S false k).take n
  | 0, _ => by simp [alK, ls]
  | k + 1, hk => by
    have ih := alK_snd V n k (by omega)
    have hl := V.ln k (by omega)
    show (alK n S.sl k).2 ++ uO (cAt S.sl k).1 (cAt S.sl k).2 (n - (alK n S.sl k).2.length) = (ls S false k ++ nb (fr S k) S.ob (us S k) false (us S k).length).take n
    rw [ih]
    have e : uO (cAt S.sl k).1 (cAt S.sl k).2 (n - ((ls S false k).take n).length) = (nb (fr S k) S.ob (us S k) false (us S k).length).take (n - ((ls S false k).take n).length) := by
      unfold uO
      rw [← hl]; rfl
    rw [e, take_app]
theorem ls_fresh {ob : Int} {m : Nat} (hm : ob = m) {T : List Ca} (h : ∀ i, i < T.length → (cAt T i).2 = List.replicate m false) : ∀ k, k ≤ T.length → ls ⟨ob, T⟩ false k = ((frs T).take k).flatMap (gO m)
  | 0, _ => by simp [ls]
  | k + 1, hk => by
    have ih := ls_fresh hm h k (by omega)
    have hu : us ⟨ob, T⟩ k = List.replicate m false := h k (by omega)
    have hk2 : k < (frs T).length := by unfold frs; rw [List.length_map]; omega
    show ls ⟨ob, T⟩ false k ++ nb (fr ⟨ob, T⟩ k) ob (us ⟨ob, T⟩ k) false (us ⟨ob, T⟩ k).length = _
    rw [ih, hu, hm, List.length_replicate, List.take_succ_eq_append_getElem hk2, List.flatMap_append, List.flatMap_singleton]
    have e : (frs T)[k] = fr ⟨(m : Int), T⟩ k := by
      have h9 : (frs T)[k]? = some (cAt T k).1 := by
        unfold frs
        rw [List.getElem?_map, List.getElem?_eq_getElem (show k < T.length by omega), cAt_get (show k < T.length by omega)]; rfl
      rw [List.getElem?_eq_getElem hk2] at h9
      exact Option.some.inj h9
    rw [e]
    rfl
/-- the objects that Alloc answers: the first n of the free ones and the new ones -/
theorem alI_eq {S : Sc} {n : Int} {fs : Is} (h : alE S n fs = 0) {m : Nat} (hm : S.ob = m) : alI S n fs = (ls S false S.sl.length ++ ls ⟨S.ob, fs.foldl (ins0 m) []⟩ false (fs.foldl (ins0 m) []).length).take n.toNat := by
  obtain ⟨g1, g2, g3, g4⟩ := al_frs h
  obtain ⟨f1, f2⟩ := fresh_is (m := m) g3
  have V := vd_of g4
  have e : alI S n fs = (alR S n fs).2 := if_pos h
  rw [e]
  unfold alR
  rw [hm, Int.toNat_natCast, alZs_snd (srt fs) _ _ (alK_snd V n.toNat S.sl.length (Nat.le_refl _)), ls_fresh rfl f2 _ (Nat.le_refl _), f1, (show (srt fs).take (fs.foldl (ins0 m) []).length = srt fs from List.take_of_length_le (by rw [← f1]; unfold frs; rw [List.length_map]; exact Nat.le_refl _))]
/-- a flag set -/
theorem Ob.set {m : Nat} {L : List Ca} (g : Sg m L) {k a : Nat} (hk : k < L.length) (ha : a < m) : (∀ x, Ob m (L.set k ((cAt L k).1, (cAt L k).2.set a true)) x ↔ Ob m L x ∨ x = (cAt L k).1 * (m : Int) + (a : Int)) ∧ Sg m (L.set k ((cAt L k).1, (cAt L k).2.set a true)) ∧ frs (L.set k ((cAt L k).1, (cAt L k).2.set a true)) = frs L := by
  have hl := g.len k hk
  have hfr : ∀ q, (cAt (L.set k ((cAt L k).1, (cAt L k).2.set a true)) q).1 = (cAt L q).1 := fun q => by
    rw [cAt_set hk]
    by_cases e : k = q
    · subst e; rw [if_pos rfl]
    · rw [if_neg e]
  refine ⟨fun x => ⟨?_, ?_⟩, ⟨fun s t hs ht => ?_, fun i hi => ?_⟩, ?_⟩
  · rintro ⟨i, hi, j, hj, h1, h2⟩
    rw [List.length_set] at hi
    rw [cAt_set hk] at h1 h2
    by_cases e : k = i
    · subst e
      rw [if_pos rfl] at h1 h2
      rw [show ((cAt L k).1, (cAt L k).2.set a true).2 = (cAt L k).2.set a true from rfl, getD_set_eq (by omega)] at h1
      by_cases ej : a = j
      · subst ej; exact .inr h2
      · rw [if_neg ej] at h1; exact .inl ⟨k, hk, j, hj, h1, h2⟩
    · rw [if_neg e] at h1 h2; exact .inl ⟨i, hi, j, hj, h1, h2⟩
  · rintro (⟨i, hi, j, hj, h1, h2⟩ | e)
    · refine ⟨i, by rw [List.length_set]; exact hi, j, hj, ?_, by rw [hfr]; exact h2⟩
      rw [cAt_set hk]
      by_cases e : k = i
      · subst e
        rw [if_pos rfl]
        show ((cAt L k).2.set a true).getD j false = true
        rw [getD_set_eq (by omega)]
        split
        · rfl
        · exact h1
      · rw [if_neg e]; exact h1
    · refine ⟨k, by rw [List.length_set]; exact hk, a, ha, ?_, by rw [hfr]; exact e⟩
      rw [cAt_set hk, if_pos rfl]
      show ((cAt L k).2.set a true).getD a false = true
      rw [getD_set_eq (by omega), if_pos rfl]
  · rw [List.length_set] at ht
    rw [hfr, hfr]; exact g.asc s t hs ht
  · rw [List.length_set] at hi
    rw [cAt_set hk]
    by_cases e : k = i
    · subst e; rw [if_pos rfl]; show ((cAt L k).2.set a true).length = m; rw [List.length_set]; exact hl
    · rw [if_neg e]; exact g.len i hi
  · unfold frs
    refine List.ext_getElem (by rw [List.length_map, List.length_map, List.length_set]) fun q q1 q2 => ?_
    rw [List.length_map] at q1 q2
    rw [List.getElem_map, List.getElem_map, ← cAt_get q1, ← cAt_get q2]
    exact hfr q
/-- slabs with the same frames and the same used objects are the same -/
theorem canon2 {m : Nat} {L T : List Ca} (g : Sg m L) (t : Sg m T) (hf : ∀ f, f ∈ frs L ↔ f ∈ frs T) (h : ∀ o, Ob m L o ↔ Ob m T o) : L = T := by
  have n1 := (asc_frs g.asc).imp (fun h => Int.ne_of_lt h)
  have n2 := (asc_frs t.asc).imp (fun h => Int.ne_of_lt h)
  have hp := (List.perm_ext_iff_of_nodup n1 n2).2 hf
  have he : frs L = frs T := hp.eq_of_pairwise (fun a b _ _ h1 h2 => absurd (Int.lt_trans h1 h2) (Int.lt_irrefl _)) (asc_frs g.asc) (asc_frs t.asc)
  have hl : L.length = T.length := by have := congrArg List.length he; unfold frs at this; rw [List.length_map, List.length_map] at this; exact this
  refine List.ext_getElem hl fun i h1 h2 => ?_
  have e1 : (cAt L i).1 = (cAt T i).1 := by
    have a : (frs L)[i]'(by unfold frs; rw [List.length_map]; exact h1) = (frs T)[i]'(by unfold frs; rw [List.length_map]; exact h2) := by simp only [he]
    unfold frs at a
    rw [List.getElem_map, List.getElem_map] at a
    rw [cAt_get h1, cAt_get h2]; exact a
  have l1 := g.len i h1
  have l2 := t.len i h2
  have key : ∀ {A B : List Ca} (hA : i < A.length) (hB : i < B.length) (e : (cAt A i).1 = (cAt B i).1) (hab : ∀ o, Ob m A o → Ob m B o) (sb : Sg m B) (j : Nat), j < m → (cAt A i).2.getD j false = true → (cAt B i).2.getD j false = true := by
    intro A B hA hB e hab sb j hj hg
    obtain ⟨i', hi', j', hj', g1, g2⟩ := hab _ ⟨i, hA, j, hj, hg, rfl⟩
    obtain ⟨e3, e4⟩ := quo_eq hj hj' g2
    obtain rfl := sb.asc.inj hB hi' (e.symm.trans e3)
    subst e4
    exact g1
  have e2 : (cAt L i).2 = (cAt T i).2 := by
    refine List.ext_getElem (by omega) fun j j1 j2 => ?_
    have a1 := key h1 h2 e1 (fun o => (h o).1) t j (by omega)
    have a2 := key h2 h1 e1.symm (fun o => (h o).2) g j (by omega)
    rw [List.getD_eq_getElem?_getD, List.getD_eq_getElem?_getD, List.getElem?_eq_getElem j1, List.getElem?_eq_getElem j2] at a1 a2
    simp only [Option.getD_some] at a1 a2
    cases x : (cAt L i).2[j] <;> cases y : (cAt T i).2[j]
    · rfl
    · rw [a2 y] at x; cases x
    · rw [a1 x] at y; cases y
    · rfl
  rw [← cAt_get h1, ← cAt_get h2]
  exact Prod.ext e1 e2
end Go.Proofs.Ytncjicggolmofaa.Sb
namespace Go.Proofs.Ytncjicggolmofaa.Sb
open Go Go.RowKit
set_option linter.unusedVariables false
set_option linter.unusedSimpArgs false
set_option maxRecDepth 100000 in
/-- numbers that are read, in a drawn region, appended to an empty row of one's own -/
theorem step_app_i {w : World} {ops : Array Oper} {o : Oper} {a : Act} {K : Act → World → Prop} {Q : Exit → Act → World → Prop} {E : Prop} (hgd : o.guard = none) (s x : Operand) (ho : o.op = .call { callee := .builtin .append, args := #[s, x], argTypes := #[35, 35] })
    (B g : Nat) (A : Option Addr) (c n : Nat) (l : Is) (hs : a.eval s = .slice (some ⟨g, 0, none⟩) 0 0) (hx : a.eval x = .slice A n c) (h1 : w.ownsRow B 3 1 (.slice (some ⟨g, 0, none⟩) 0 0) 0 (([] : Is).map ic)) (h2 : Bi w A l) (hn : l.length = n) (hl : l.length ≤ 20000) (hbase : B ≤ w.heap.size) (hnc : n ≤ c)
    (h : ∀ A4 c4 w4, w4.ownsRow B 3 1 (.slice A4 n c4) l.length (l.map ic) → Kp B 3 w w4 → K (a.put o.dst (.slice A4 n c4)) w4) :
    if Region.wanted o (yielded ops a.tmps) = true then Oper.wp Try.prog o a w K Q else E := by
  obtain ⟨i0, hi0, hz0, hz1, hz2⟩ := info_parts info3
  by_cases h0 : A = none
  · subst h0
    have hl0 : l = [] := by
      by_cases e : l = []
      · exact e
      · obtain ⟨_, _, e', _⟩ := h2 e; cases e'
    subst hl0
    obtain rfl : n = 0 := hn.symm
    have hw : Region.wanted o (yielded ops a.tmps) = true := by simp [Region.wanted, hgd]
    rw [if_pos hw]
    have hr := run_append_nothing (P := Try.prog) w 35 35 o.type 3 i0 Try.underlying35 hi0 (some ⟨g, 0, none⟩) 0 0 (Nat.le_refl _) (.slice none 0 c) (Src.ofNil w Try.underlying35 c)
    unfold Oper.wp execOp
    simp only [ho, resolve, invoke, builtin, Sem.run_bind, Sem.run_pure, Result.andThen_ok, List.map_toArray, List.map_cons, List.map_nil, hs, hx, hr]
    exact h _ _ w h1 (Kp.refl _ _ _)
  · obtain ⟨ad, rfl⟩ := Option.ne_none_iff_exists'.1 h0
    have hc : ∀ j u, (l.map ic)[j]? = some u → w.cell? (ad.add j) = some u := fun j u hu => by
      have hj : j < l.length := by
        rcases Nat.lt_or_ge j l.length with z | z
        · exact z
        · rw [List.getElem?_eq_none (by rw [List.length_map]; exact z)] at hu; cases hu
      obtain ⟨b, off, e, _, hcell⟩ := h2 (fun e => by rw [e] at hj; exact absurd hj (Nat.not_lt_zero _))
      injection e with e
      subst e
      rw [addr_add, hcell j hj]
      rw [List.getElem?_map, List.getElem?_eq_getElem hj] at hu
      rw [List.getD_eq_getElem?_getD, List.getElem?_eq_getElem hj]
      exact hu
    refine step_append_own hgd s x 35 ho B 3 i0 _ 1 8 Try.underlying35 hi0 hz0 hz1 hz2 rfl (by omega) (.slice (some ⟨g, 0, none⟩) 0 0) 0 (([] : Is).map ic) hs h1 ad n c (l.map ic) hx (by rw [List.length_map, hn, Nat.mul_one]) hc (ic_one l) (by simp only [maxLen]; omega) (by omega) hbase ?_
    intro v4 w4 hown4 hg4
    rw [Nat.zero_add] at hown4
    obtain ⟨A4, cp4, ev4, _⟩ := row_form hown4
    subst ev4
    exact h A4 cp4 w4 (by rw [hn]; exact hown4) (Kp.grown h1 hg4 (Nat.le_refl B) hbase)
/-- one frame more is looked at -/
theorem feE_step {seen fs : Is} {q : Nat} (hq : q < fs.length) : feE (seen ++ fs.take q) (fs.drop q) = if 0 ≤ fs.getD q 0 ∧ fs.getD q 0 < 256 then (if fs.getD q 0 ∈ seen ++ fs.take q then 7 else feE (seen ++ fs.take (q + 1)) (fs.drop (q + 1))) else 2 := by
  rw [List.drop_eq_getElem_cons hq]
  show (if 0 ≤ fs[q] ∧ fs[q] < 256 then (if fs[q] ∈ seen ++ fs.take q then 7 else feE ((seen ++ fs.take q) ++ [fs[q]]) (fs.drop (q + 1))) else 2) = _
  rw [take_snocI hq, getD_get hq, List.append_assoc]
/-- what is known of the frames put in so far -/
structure Fq (m : Nat) (S : Sc) (fs : Is) (q : Nat) : Prop where
  nd : (fs.take q).Nodup
  new : ∀ g, g ∈ fs.take q → g ∉ frs S.sl ∧ 0 ≤ g ∧ g < 256
theorem Fq.step {m : Nat} {S : Sc} {fs : Is} {q : Nat} (h : Fq m S fs q) (hq : q < fs.length) (h1 : 0 ≤ fs.getD q 0 ∧ fs.getD q 0 < 256) (h2 : fs.getD q 0 ∉ frs S.sl ++ fs.take q) : Fq m S fs (q + 1) := by
  rw [List.mem_append] at h2
  refine ⟨?_, fun g hg => ?_⟩
  · rw [take_snocI hq]
    exact List.nodup_append.2 ⟨h.nd, List.nodup_cons.2 ⟨by simp, List.nodup_nil⟩, fun a ha b hb e => h2 (.inr (by rw [List.mem_singleton] at hb; rw [← hb, ← e]; exact ha))⟩
  · rw [take_snocI hq, List.mem_append, List.mem_singleton] at hg
    rcases hg with hg | hg
    · exact h.new g hg
    · subst hg; exact ⟨fun c => h2 (.inl c), h1⟩
theorem Fq.out {m : Nat} {S : Sc} {fs : Is} {q : Nat} (h : Fq m S fs q) (g : Sg m S.sl) : Sg m ((fs.take q).foldl (ins0 m) S.sl) ∧ (∀ x, x ∈ frs ((fs.take q).foldl (ins0 m) S.sl) ↔ x ∈ frs S.sl ∨ x ∈ fs.take q) ∧ (∀ o, Ob m ((fs.take q).foldl (ins0 m) S.sl) o ↔ Ob m S.sl o) ∧ ((fs.take q).foldl (ins0 m) S.sl).length = S.sl.length + (fs.take q).length := ins0s (m := m) (fs.take q) S.sl g h.nd (fun x hx => (h.new x hx).1)
theorem Fq.fresh {m : Nat} {S : Sc} {fs : Is} {q : Nat} (h : Fq m S fs q) : Sg m ((fs.take q).foldl (ins0 m) []) ∧ (∀ x, x ∈ frs ((fs.take q).foldl (ins0 m) []) ↔ x ∈ frs ([] : List Ca) ∨ x ∈ fs.take q) ∧ (∀ o, Ob m ((fs.take q).foldl (ins0 m) []) o ↔ Ob m [] o) ∧ ((fs.take q).foldl (ins0 m) []).length = ([] : List Ca).length + (fs.take q).length := ins0s (m := m) (fs.take q) [] (sg_nil m) h.nd (fun x hx c => by cases c)
theorem ins0_step {m : Nat} {L : List Ca} {fs : Is} {q : Nat} (hq : q < fs.length) : (fs.take (q + 1)).foldl (ins0 m) L = ins0 m ((fs.take q).foldl (ins0 m) L) (fs.getD q 0) := by
  rw [take_snocI hq, List.foldl_append]; rfl
theorem atI_frs {L : List Ca} {f : Int} (h : f ∈ frs L) (ha : Asc L) : ∃ k : Nat, k < L.length ∧ (cAt L k).1 = f ∧ atI L f = (k : Int) := by
  obtain ⟨c, hc, rfl⟩ := List.mem_map.1 h
  obtain ⟨k, hk, rfl⟩ := List.mem_iff_getElem.1 hc
  refine ⟨k, hk, by rw [cAt_get hk], atI_hit hk (by rw [cAt_get hk]) (fun j hj => ?_)⟩
  have := ha j k hj hk
  rw [cAt_get hk] at this
  omega
theorem atI_out {L : List Ca} {f : Int} (h : f ∉ frs L) : atI L f = -1 := atI_no fun j hj e => h (List.mem_map.2 ⟨_, cAt_mem hj, e⟩)
/-- what is known while the frames are put in -/
structure Ra (w : World) (g3 g6 g11 g12 : Nat) (ob : Int) (v vl z1 z2 v1 v2 : Value) (ol : Is) (L1 L2 : List Ca) (W : World) : Prop where
  K : Below w.heap.size w W
  X : Box W g3 24 #[.int .i64 ob, v]
  Y : Box W g6 24 #[.int .i64 0, .slice none 0 0]
  Z1 : Box W g11 24 #[.int .i64 ob, z1]
  Z2 : Box W g12 24 #[.int .i64 ob, z2]
  OL : OwI w.heap.size W vl ol
  D1 : OwnD w.heap.size W v1 L1
  D2 : OwnD w.heap.size W v2 L2
  n1 : g3 < g11
  n2 : g6 < g11
  n3 : g11 < g12
  l1 : w.heap.size ≤ g11
section
variable {w W : World} {g3 g6 g11 g12 : Nat} {ob : Int} {v vl z1 z2 v1 v2 : Value} {ol : Is} {L1 L2 : List Ca}
theorem Ra.below (h : Ra w g3 g6 g11 g12 ob v vl z1 z2 v1 v2 ol L1 L2 W) {W' : World} (hb : Below W.heap.size W W') : Ra w g3 g6 g11 g12 ob v vl z1 z2 v1 v2 ol L1 L2 W' :=
  ⟨btrans h.K hb, h.X.below hb, h.Y.below hb, h.Z1.below hb, h.Z2.below hb, row_below h.OL hb, h.D1.below hb, h.D2.below hb, h.n1, h.n2, h.n3, h.l1⟩
theorem Ra.new1 (h : Ra w g3 g6 g11 g12 ob v vl z1 z2 v1 v2 ol L1 L2 W) {W' : World} {v1' : Value} {L1' : List Ca} (hb : Below W.heap.size W W') (hd : OwnD w.heap.size W' v1' L1') : Ra w g3 g6 g11 g12 ob v vl z1 z2 v1' v2 ol L1' L2 W' :=
  ⟨btrans h.K hb, h.X.below hb, h.Y.below hb, h.Z1.below hb, h.Z2.below hb, row_below h.OL hb, hd, h.D2.below hb, h.n1, h.n2, h.n3, h.l1⟩
theorem Ra.new2 (h : Ra w g3 g6 g11 g12 ob v vl z1 z2 v1 v2 ol L1 L2 W) {W' : World} {v2' : Value} {L2' : List Ca} (hb : Below W.heap.size W W') (hd : OwnD w.heap.size W' v2' L2') : Ra w g3 g6 g11 g12 ob v vl z1 z2 v1 v2' ol L1 L2' W' :=
  ⟨btrans h.K hb, h.X.below hb, h.Y.below hb, h.Z1.below hb, h.Z2.below hb, row_below h.OL hb, h.D1.below hb, hd, h.n1, h.n2, h.n3, h.l1⟩
theorem Ra.set1 (h : Ra w g3 g6 g11 g12 ob v vl z1 z2 v1 v2 ol L1 L2 W) (x : Value) : Ra w g3 g6 g11 g12 ob v vl x z2 v1 v2 ol L1 L2 (W.setRow g11 #[.int .i64 ob, x]) :=
  have hk := kp_row24 (cs := #[.int .i64 ob, x]) h.Z1 h.l1
  ⟨h.K.trans hk.below, box_row_far24 h.X (by have := h.n1; omega), box_row_far24 h.Y (by have := h.n2; omega), box_row24 h.Z1, box_row_far24 h.Z2 (by have := h.n3; omega), row_kp h.OL hk (by decide), h.D1.kp hk (by decide) (by decide), h.D2.kp hk (by decide) (by decide), h.n1, h.n2, h.n3, h.l1⟩
theorem Ra.set2 (h : Ra w g3 g6 g11 g12 ob v vl z1 z2 v1 v2 ol L1 L2 W) (x : Value) : Ra w g3 g6 g11 g12 ob v vl z1 x v1 v2 ol L1 L2 (W.setRow g12 #[.int .i64 ob, x]) :=
  have hk := kp_row24 (cs := #[.int .i64 ob, x]) h.Z2 (Nat.le_trans h.l1 (Nat.le_of_lt h.n3))
  ⟨h.K.trans hk.below, box_row_far24 h.X (by have := h.n1; have := h.n3; omega), box_row_far24 h.Y (by have := h.n2; have := h.n3; omega), box_row_far24 h.Z1 (by have := h.n3; omega), box_row24 h.Z2, row_kp h.OL hk (by decide), h.D1.kp hk (by decide) (by decide), h.D2.kp hk (by decide) (by decide), h.n1, h.n2, h.n3, h.l1⟩
end
theorem Ra.grow3 {w W : World} {g3 g6 g11 g12 : Nat} {ob : Int} {v vl z1 z2 v1 v2 : Value} {ol : Is} {L1 L2 : List Ca} (h : Ra w g3 g6 g11 g12 ob v vl z1 z2 v1 v2 ol L1 L2 W) {W' : World} {vl' : Value} {ol' : Is} (hk : Kp w.heap.size 3 W W') (ho : OwI w.heap.size W' vl' ol') : Ra w g3 g6 g11 g12 ob v vl' z1 z2 v1 v2 ol' L1 L2 W' :=
  ⟨h.K.trans hk.below, h.X.kp hk (by decide), h.Y.kp hk (by decide), h.Z1.kp hk (by decide), h.Z2.kp hk (by decide), ho, h.D1.kp hk (by decide) (by decide), h.D2.kp hk (by decide) (by decide), h.n1, h.n2, h.n3, h.l1⟩
theorem Bi.take {w : World} {A : Option Addr} {l : Is} (h : Bi w A l) (n : Nat) : Bi w A (l.take n) := fun hne => by
  obtain ⟨b, off, e, h1, h2⟩ := h (by rintro rfl; exact hne (by simp))
  refine ⟨b, off, e, h1, fun q hq => ?_⟩
  rw [List.length_take] at hq
  rw [h2 q (by omega), List.getD_eq_getElem?_getD, List.getD_eq_getElem?_getD, List.getElem?_take_of_lt (by omega)]
/-- what is known while the flags are set -/
structure Rb (w : World) (g3 g6 g11 : Nat) (ob : Int) (v vl z1 v1 : Value) (ol : Is) (L1 : List Ca) (W : World) : Prop where
  K : Below w.heap.size w W
  X : Box W g3 24 #[.int .i64 ob, v]
  Y : Box W g6 24 #[.int .i64 0, .slice none 0 0]
  Z1 : Box W g11 24 #[.int .i64 ob, z1]
  OL : OwI w.heap.size W vl ol
  D1 : OwnD w.heap.size W v1 L1
theorem Rb.below {w W : World} {g3 g6 g11 : Nat} {ob : Int} {v vl z1 v1 : Value} {ol : Is} {L1 : List Ca} (h : Rb w g3 g6 g11 ob v vl z1 v1 ol L1 W) {W' : World} (hb : Below W.heap.size W W') : Rb w g3 g6 g11 ob v vl z1 v1 ol L1 W' :=
  ⟨btrans h.K hb, h.X.below hb, h.Y.below hb, h.Z1.below hb, row_below h.OL hb, h.D1.below hb⟩
theorem Rb.flag {w W : World} {g3 g6 g11 : Nat} {ob : Int} {v vl z1 v1 : Value} {ol : Is} {L1 L1' : List Ca} (h : Rb w g3 g6 g11 ob v vl z1 v1 ol L1 W) {g a : Nat} {cur : Array Value} (hx : Box W g 4 cur) (hB : w.heap.size ≤ g) (b : Bool) (hd : OwnD w.heap.size (W.setCell ⟨g, a, none⟩ (.bool b)) v1 L1') : Rb w g3 g6 g11 ob v vl z1 v1 ol L1' (W.setCell ⟨g, a, none⟩ (.bool b)) :=
  have hk := Kp.boxset hx hB a (.bool b)
  ⟨h.K.trans hk.below, h.X.kp hk (by decide), h.Y.kp hk (by decide), h.Z1.kp hk (by decide), row_kp h.OL hk (by decide), hd⟩
set_option maxRecDepth 100000 in
set_option maxHeartbeats 16000000 in
/-- the reference's Alloc -/
theorem ralloc_any (A : Option Addr) (cp : Nat) (S : Sc) (n : Int) (Af : Option Addr) (cf : Nat) (fs : Is) (w : World) (hr : RdC w A S.sl) (hn : S.sl.length ≤ 300) (hln : ∀ k, k < S.sl.length → (us S k).length ≤ 1000) (hnr : n ≤ 9223372036854775807 ∧ -9223372036854775808 ≤ n) (hf : Bi w Af fs) (hfl : fs.length ≤ 100) : Calls Try.prog 27 #[.agg #[.int .i64 S.ob, .slice A S.sl.length cp], .int .i64 n, .slice Af fs.length cf] w (AlR S n fs w) := by
  have CK := hide (fun w' (h : Below w.heap.size w w') => rcheck_any A cp S w' (hr.below h) (by omega) (fun k hk => by have := hln k hk; omega))
  have ND := hide (fun w' (h : Below w.heap.size w w') => rneed_any A cp S n w' (hr.below h) hnr (by omega) (fun k hk => by have := hln k hk; omega))
  have K := hide (bal (bal (brefl w) (.cells #[.int .i64 S.ob, .slice A S.sl.length cp] 24)) (.cells #[.int .i64 0, .slice none 0 0] 24))
  have X := hide ((Box.new w 24 #[.int .i64 S.ob, .slice A S.sl.length cp]).below (bal (brefl _) (.cells #[.int .i64 0, .slice none 0 0] 24)))
  have Y := hide (Box.new (w.alloc (.cells #[.int .i64 S.ob, .slice A S.sl.length cp] 24)) 24 #[.int .i64 0, .slice none 0 0])
  obtain ⟨g3, hg3⟩ : ∃ g, g = w.heap.size := ⟨_, rfl⟩
  obtain ⟨g6, hg6⟩ : ∃ g, g = (w.alloc (.cells #[.int .i64 S.ob, .slice A S.sl.length cp] 24)).heap.size := ⟨_, rfl⟩
  have hg5 : g6 = g3 + 1 := by rw [hg6, hg3, alloc_size']
  have HG3 := hide hg3
  have HGE := hide hg5
  have HG6 := hide (show w.heap.size ≤ g6 by omega)
  have HN36 := hide (show g3 ≠ g6 by omega)
  rw [← hg3] at X
  rw [← hg6] at Y
  have HR := hide (fun w' (h : Below w.heap.size w w') => hr.below h)
  have HF := hide (fun w' (h : Below w.heap.size w w') => hf.below h)
  clear hg3 hg6 hg5 hr hf
  have ERR := hide (show ∀ (er : Int) (w' : World), (alE S n fs = er ∧ er ≠ 0) → Below w.heap.size w w' → AlR S n fs w (.returned (.tuple #[.agg #[.int .i64 0, .slice none 0 0], .slice none 0 0, .int .i64 er])) w' from fun er w' h hb => by
    obtain ⟨e1, e2, e3⟩ := al_no (show alE S n fs ≠ 0 by rw [h.1]; exact h.2)
    unfold AlR
    rw [e1, e2, e3, h.1]
    exact ⟨_, none, 0, rfl, OwnD.nil _ _, ow_nil _ _, hb⟩)
  have E0 := hide (show chE S ≠ 0 → alE S n fs = chE S from fun h => if_neg h)
  have E1 := hide (show chE S = 0 → alE S n fs = if n < 1 ∨ (fs.length : Int) ≠ ndN S n then 1 else feE (frs S.sl) fs from fun h => if_pos h)
  have HV := hide (fun h : chE S = 0 => vd_of h)
  generalize chE S = ce at *
  generalize ndN S n = nd at *
  go_enter Try.func27, Try.ntmps27
  go_upto_region 1 with fail
  rw [← HG3.out, ← HGE.out]
  generalize (w.alloc (.cells #[.int .i64 S.ob, .slice A S.sl.length cp] 24)).alloc (.cells #[.int .i64 0, .slice none 0 0] 24) = w1 at *
  obtain ⟨x0, x1⟩ : w1.cell? ⟨g3, 0, none⟩ = some (.int .i64 S.ob) ∧ w1.cell? ⟨g3, 1, none⟩ = some (.slice A S.sl.length cp) := ⟨X.out.cell 0, X.out.cell 1⟩
  go_wp2_with fail
  refine (CK.out _ K.out).mono ?_
  rintro e w2 ⟨rfl, hb⟩
  replace K := hide (btrans K.out hb)
  replace Y := hide (Y.out.below hb)
  replace X := hide (X.out.below hb)
  clear hb x0 x1 CK
  by_cases hce : ce = 0
  rotate_left 1
  · have hd : (ce != 0) = true := bne_iff_ne.2 hce
    have EE := hide (And.intro (E0.out hce) hce)
    have y0 : w2.cell? ⟨g6, 0, none⟩ = some (.int .i64 0) := Y.out.cell 0
    have y1 : w2.cell? ⟨g6, 1, none⟩ = some (.slice none 0 0) := Y.out.cell 1
    have yf0 := Y.out.frozen 0
    have yf1 := Y.out.frozen 1
    go_wp2
    have E1 := (Y.out.put 0 (.int .i64 0)).put 1 (.slice none 0 0)
    refine ret_s4 (v := .slice none 0 0) (g := g6) (k := 6) (o := 0) (A := none) (n := 0) (c := 0) (er2 := ce) (m := 7) (m2 := 8) rfl rfl rfl rfl rfl E1 ?_
    exact ERR.out _ _ EE.out (bset (bset K.out (by show w.heap.size ≤ g6; exact HG6.out) _) (by show w.heap.size ≤ g6; exact HG6.out) _)
  subst hce
  replace E1 := hide (E1.out rfl)
  replace HV := hide (HV.out rfl)
  clear E0
  by_cases hn1 : n < 1
  · have EE := hide (show alE S n fs = 1 ∧ (1 : Int) ≠ 0 from ⟨by rw [E1.out, if_pos (.inl hn1)], by decide⟩)
    have y0 : w2.cell? ⟨g6, 0, none⟩ = some (.int .i64 0) := Y.out.cell 0
    have y1 : w2.cell? ⟨g6, 1, none⟩ = some (.slice none 0 0) := Y.out.cell 1
    have yf0 := Y.out.frozen 0
    have yf1 := Y.out.frozen 1
    go_wp2
    have E1 := (Y.out.put 0 (.int .i64 0)).put 1 (.slice none 0 0)
    refine ret_s4 (v := .slice none 0 0) (g := g6) (k := 6) (o := 0) (A := none) (n := 0) (c := 0) (er2 := 1) (m := 7) (m2 := 8) rfl rfl rfl rfl rfl E1 ?_
    exact ERR.out _ _ EE.out (bset (bset K.out (by show w.heap.size ≤ g6; exact HG6.out) _) (by show w.heap.size ≤ g6; exact HG6.out) _)
  obtain ⟨x0, x1⟩ : w2.cell? ⟨g3, 0, none⟩ = some (.int .i64 S.ob) ∧ w2.cell? ⟨g3, 1, none⟩ = some (.slice A S.sl.length cp) := ⟨X.out.cell 0, X.out.cell 1⟩
  go_wp2_with fail
  refine (ND.out _ K.out).mono ?_
  rintro e w3 ⟨rfl, hb⟩
  replace K := hide (btrans K.out hb)
  replace Y := hide (Y.out.below hb)
  replace X := hide (X.out.below hb)
  clear hb x0 x1 ND
  by_cases hnd : (fs.length : Int) = nd
  rotate_left 1
  · have hd : ((fs.length : Int) != nd) = true := bne_iff_ne.2 hnd
    have EE := hide (show alE S n fs = 1 ∧ (1 : Int) ≠ 0 from ⟨by rw [E1.out, if_pos (.inr hnd)], by decide⟩)
    clear hnd
    obtain ⟨x0, x1⟩ : w3.cell? ⟨g3, 0, none⟩ = some (.int .i64 S.ob) ∧ w3.cell? ⟨g3, 1, none⟩ = some (.slice A S.sl.length cp) := ⟨X.out.cell 0, X.out.cell 1⟩
    have y0 : w3.cell? ⟨g6, 0, none⟩ = some (.int .i64 0) := Y.out.cell 0
    have y1 : w3.cell? ⟨g6, 1, none⟩ = some (.slice none 0 0) := Y.out.cell 1
    have yf0 := Y.out.frozen 0
    have yf1 := Y.out.frozen 1
    go_wp2
    have E1 := (Y.out.put 0 (.int .i64 0)).put 1 (.slice none 0 0)
    refine ret_s4 (v := .slice none 0 0) (g := g6) (k := 6) (o := 0) (A := none) (n := 0) (c := 0) (er2 := 1) (m := 7) (m2 := 8) rfl rfl rfl rfl rfl E1 ?_
    exact ERR.out _ _ EE.out (bset (bset K.out (by show w.heap.size ≤ g6; exact HG6.out) _) (by show w.heap.size ≤ g6; exact HG6.out) _)
  replace E1 := hide (show alE S n fs = feE (frs S.sl) fs by rw [E1.out, if_neg (by omega)])
  subst hnd
  have hn1' : 1 ≤ n := by omega
  have HN1 := hide hn1'
  obtain ⟨x0, x1⟩ : w3.cell? ⟨g3, 0, none⟩ = some (.int .i64 S.ob) ∧ w3.cell? ⟨g3, 1, none⟩ = some (.slice A S.sl.length cp) := ⟨X.out.cell 0, X.out.cell 1⟩
  go_upto_region 6 with fail
  go_wp2_with fail
  refine (list_any A cp S false w3 (HR.out _ K.out) HV.out.wf).mono ?_
  rintro e w4 ⟨⟨Al, cl, rfl, hol⟩, hb⟩
  have OL := hide (show OwI w.heap.size w4 (.slice Al (ls S false S.sl.length).length cl) (ls S false S.sl.length) from row_mono hol K.out.size)
  have OLB := hide (show w.heap.size ≤ w3.heap.size from K.out.size)
  replace K := hide (btrans K.out hb)
  replace Y := hide (Y.out.below hb)
  replace X := hide (X.out.below hb)
  clear hb x0 x1 hol
  obtain ⟨x0, x1⟩ : w4.cell? ⟨g3, 0, none⟩ = some (.int .i64 S.ob) ∧ w4.cell? ⟨g3, 1, none⟩ = some (.slice A S.sl.length cp) := ⟨X.out.cell 0, X.out.cell 1⟩
  go_wp2_with fail
  refine (own_any A cp S w4 (HR.out _ K.out) (by omega) hln).mono ?_
  rintro e w5 ⟨v, rfl, hD, hb⟩
  obtain ⟨A1, c1, ev, _⟩ := hD.c.form
  subst ev
  have D1 := hide (OwnD.mono hD K.out.size)
  replace K := hide (btrans K.out hb)
  replace Y := hide (Y.out.below hb)
  replace X := hide (X.out.below hb)
  replace OL := hide (row_below OL.out hb)
  clear hb x0 x1 hD OLB
  go_upto_region 8 with fail
  have M := bal (brefl w5) (.cells #[.int .i64 S.ob, .slice A1 S.sl.length c1] 24)
  have Z1 := hide (Box.new w5 24 #[.int .i64 S.ob, .slice A1 S.sl.length c1])
  have L6 := hide (show g6 < w5.heap.size from Y.out.lt)
  have L3 := hide (show g3 < w5.heap.size from X.out.lt)
  have KS := hide K.out.size
  replace K := hide (btrans K.out M)
  replace Y := hide (Y.out.below M)
  replace X := hide (X.out.below M)
  replace OL := hide (row_below OL.out M)
  replace D1 := hide (D1.out.below M)
  clear M
  obtain ⟨g11, hg11⟩ : ∃ q, q = w5.heap.size := ⟨_, rfl⟩
  rw [← hg11] at Z1 L6 L3 KS
  rw [← hg11]
  clear hg11
  generalize w5.alloc (.cells #[.int .i64 S.ob, .slice A1 S.sl.length c1] 24) = w6 at *
  obtain ⟨x0, x1⟩ : w6.cell? ⟨g3, 0, none⟩ = some (.int .i64 S.ob) ∧ w6.cell? ⟨g3, 1, none⟩ = some (.slice A S.sl.length cp) := ⟨X.out.cell 0, X.out.cell 1⟩
  go_upto_region 9 with fail
  have M := bal (brefl w6) (.cells #[.int .i64 S.ob, .slice none 0 0] 24)
  have Z2 := hide (Box.new w6 24 #[.int .i64 S.ob, .slice none 0 0])
  have L12 := hide (show g11 < w6.heap.size from Z1.out.lt)
  replace K := hide (btrans K.out M)
  replace Y := hide (Y.out.below M)
  replace X := hide (X.out.below M)
  replace OL := hide (row_below OL.out M)
  replace D1 := hide (D1.out.below M)
  replace Z1 := hide (Z1.out.below M)
  clear M x0 x1
  obtain ⟨g12, hg12⟩ : ∃ q, q = w6.heap.size := ⟨_, rfl⟩
  rw [← hg12] at Z2 L12
  rw [← hg12]
  clear hg12
  generalize w6.alloc (.cells #[.int .i64 S.ob, .slice none 0 0] 24) = w7 at *
  obtain ⟨m, hm⟩ : ∃ m : Nat, S.ob = m := ⟨S.ob.toNat, by have := HV.out.ob; omega⟩
  have HM := hide hm
  have SG := hide (HV.out.sg hm)
  clear hm
  have D2 := hide (show OwnD w.heap.size w7 (.slice none 0 0) [] from OwnD.nil _ _)
  have HE := hide (show feE (frs S.sl ++ fs.take 0) (fs.drop 0) = alE S n fs by rw [E1.out]; simp)
  have FQ := hide (show Fq m S fs 0 from ⟨by simp, fun g hg => by simp at hg⟩)
  obtain ⟨ol, hol⟩ : ∃ l, l = ls S false S.sl.length := ⟨_, rfl⟩
  have HOL := hide hol
  rw [← hol] at OL
  rw [← hol]
  clear hol
  have RA := hide (show Ra w g3 g6 g11 g12 S.ob (.slice A S.sl.length cp) (.slice Al ol.length cl) (.slice A1 S.sl.length c1) (.slice none 0 0) (.slice A1 S.sl.length c1) (.slice none 0 0) ol S.sl [] w7 from ⟨K.out, X.out, Y.out, Z1.out, Z2.out, OL.out, D1.out, D2.out, L3.out, L6.out, L12.out, KS.out⟩)
  clear K X Y Z1 Z2 OL D1 D2 L3 L6 L12 KS hn1 hn1'
  go_upto_region 10 with fail
  go_loopw [13] (fun i wx => ∃ (q : Nat) (A1 : Option Addr) (n1 c1 : Nat) (A2 : Option Addr) (n2 c2 : Nat) (L1 L2 : List Ca), i = .int .i64 q ∧ q ≤ fs.length ∧ Hid (Ra w g3 g6 g11 g12 S.ob (.slice A S.sl.length cp) (.slice Al ol.length cl) (.slice A1 n1 c1) (.slice A2 n2 c2) (.slice A1 n1 c1) (.slice A2 n2 c2) ol L1 L2 wx) ∧ Hid (L1.length = n1) ∧ Hid (L2.length = n2) ∧ Hid (L1 = (fs.take q).foldl (ins0 m) S.sl) ∧ Hid (L2 = (fs.take q).foldl (ins0 m) []) ∧ Hid (Fq m S fs q) ∧ Hid (feE (frs S.sl ++ fs.take q) (fs.drop q) = alE S n fs)) (fun i _ => fs.length - (intOf i).toNat)
  case atStart => exact ⟨0, A1, _, c1, none, 0, 0, S.sl, [], rfl, Nat.zero_le _, RA, hide rfl, hide rfl, hide (by simp), hide (by simp), FQ, HE⟩
  case round =>
    clear RA FQ HE
    obtain ⟨q, A1, n1, c1, A2, n2, c2, L1, L2, rfl, hq, RA, HN1', HN2, HL1, HL2, FQ, HE⟩ := hrel
    by_cases hlq : q < fs.length
    · have hl2 : (q : Int) < (fs.length : Int) := by omega
      have hq0 : (0 : Int) ≤ (q : Int) := by omega
      have Y0 := hide (show ∀ W, Below w.heap.size w W → ∃ b off, Af = some ⟨b, off, none⟩ ∧ W.cell? ⟨b, off + q, none⟩ = some (.int .i64 (fs.getD q 0)) from fun W h => Bi.at (HF.out W h) hlq)
      obtain ⟨b, off, eA, y9⟩ := Y0.out wr RA.out.K
      have Y1 := hide (show ∀ W, Below w.heap.size w W → W.cell? ⟨b, off + q, none⟩ = some (.int .i64 (fs.getD q 0)) from fun W h => by
        obtain ⟨b', off', e', h'⟩ := Y0.out W h
        rw [eA] at e'
        injection e' with e'
        injection e' with e1 e2
        subst e1 e2
        exact h')
      subst eA
      have ST := feE_step (seen := frs S.sl) hlq
      rw [HE.out] at ST
      have FS := fun h1 h2 => FQ.out.step hlq h1 h2
      have IS1 := ins0_step (m := m) (L := S.sl) hlq
      have IS2 := ins0_step (m := m) (L := []) hlq
      rw [← HL1.out] at IS1
      rw [← HL2.out] at IS2
      obtain ⟨o1, o2, o3, o4⟩ := FQ.out.out SG.out
      obtain ⟨p1, p2, p3, p4⟩ := FQ.out.fresh
      rw [← HL1.out] at o1 o2 o4
      rw [← HL2.out] at p1 p2 p4
      rw [List.length_take] at o4 p4
      generalize fs.getD q 0 = f at *
      have HST := hide ST
      have HFS := hide FS
      have HI1 := hide IS1
      have HI2 := hide IS2
      have O12 := hide (And.intro o1 o2)
      have P12 := hide (And.intro p1 p2)
      have LB := hide (show n1 ≤ 400 ∧ n2 ≤ 400 by have := HN1'.out; have := HN2.out; simp at p4; omega)
      clear ST FS IS1 IS2 o1 o2 o3 o4 p1 p2 p3 p4
      by_cases hf0 : f < 0
      · have EE := hide (show alE S n fs = 2 ∧ (2 : Int) ≠ 0 from ⟨by rw [HST.out, if_neg (by omega)], by decide⟩)
        have Y := hide RA.out.Y
        have K := hide RA.out.K
        have y0 : wr.cell? ⟨g6, 0, none⟩ = some (.int .i64 0) := Y.out.cell 0
        have y1 : wr.cell? ⟨g6, 1, none⟩ = some (.slice none 0 0) := Y.out.cell 1
        have yf0 := Y.out.frozen 0
        have yf1 := Y.out.frozen 1
        go_wp2
        have E1 := (Y.out.put 0 (.int .i64 0)).put 1 (.slice none 0 0)
        refine ret_s4 (v := .slice none 0 0) (g := g6) (k := 6) (o := 0) (A := none) (n := 0) (c := 0) (er2 := 2) (m := 7) (m2 := 8) rfl rfl rfl rfl rfl E1 ?_
        exact ERR.out _ _ EE.out (bset (bset K.out (by show w.heap.size ≤ g6; exact HG6.out) _) (by show w.heap.size ≤ g6; exact HG6.out) _)
      by_cases hf1 : 256 ≤ f
      · have EE := hide (show alE S n fs = 2 ∧ (2 : Int) ≠ 0 from ⟨by rw [HST.out, if_neg (by omega)], by decide⟩)
        have Y := hide RA.out.Y
        have K := hide RA.out.K
        have y0 : wr.cell? ⟨g6, 0, none⟩ = some (.int .i64 0) := Y.out.cell 0
        have y1 : wr.cell? ⟨g6, 1, none⟩ = some (.slice none 0 0) := Y.out.cell 1
        have yf0 := Y.out.frozen 0
        have yf1 := Y.out.frozen 1
        go_wp2
        have E1 := (Y.out.put 0 (.int .i64 0)).put 1 (.slice none 0 0)
        refine ret_s4 (v := .slice none 0 0) (g := g6) (k := 6) (o := 0) (A := none) (n := 0) (c := 0) (er2 := 2) (m := 7) (m2 := 8) rfl rfl rfl rfl rfl E1 ?_
        exact ERR.out _ _ EE.out (bset (bset K.out (by show w.heap.size ≤ g6; exact HG6.out) _) (by show w.heap.size ≤ g6; exact HG6.out) _)
      replace HST := hide (show alE S n fs = if f ∈ frs S.sl ++ fs.take q then 7 else feE (frs S.sl ++ fs.take (q + 1)) (fs.drop (q + 1)) by rw [HST.out, if_pos (by omega)])
      have HR6 := hide (show 0 ≤ f ∧ f < 256 by omega)
      have MM := hide (show f ∈ frs L1 ↔ f ∈ frs S.sl ++ fs.take q by rw [O12.out.2, List.mem_append])
      have AT := fun W (h : RdC W A1 L1) => at_any A1 c1 ⟨S.ob, L1⟩ f W h (by have h1 := HN1'.out; have := LB.out; show L1.length ≤ _; omega)
      dsimp only at AT
      rw [HN1'.out] at AT
      obtain ⟨ai, hai⟩ : ∃ z, z = atI L1 f := ⟨_, rfl⟩
      rw [← hai] at AT
      have HAI := hide hai
      replace AT := hide AT
      clear hai
      go_upto_region 14 with fail
      have KD : Below wr.heap.size wr wr.drew := below_drewN (brefl _) 1
      replace RA := hide (RA.out.below KD)
      clear KD y9 Y0
      refine wp_region_noPanic ?_
      refine wp_region_held_drew (S := (fun W => (W.cell? ⟨g11, 0, none⟩ = some (.int .i64 S.ob) ∧ W.cell? ⟨g11, 1, none⟩ = some (.slice A1 n1 c1)) ∧ W.cell? ⟨b, off + q, none⟩ = some (.int .i64 f))) (by kernel_rfl) ?_ (fun hHeld => ?_)
      · exact ⟨⟨RA.out.Z1.cell 0, RA.out.Z1.cell 1⟩, Y1.out _ RA.out.K⟩
      generalize wr.drew = wd at *
      refine wpAnyH_take (i := 0) (oi := ⟨some 58, _, _, _, _, _⟩) (v := ?_) rfl (by kernel_rfl) (by kernel_rfl) (by kernel_rfl) (fun _ _ _ h => h) (Or.inl ⟨by kernel_rfl, ?_⟩) (by assumption) ?_
      rotate_left 1
      · (intro w hSw; (try dsimp only at hSw); go_simp) <;> (with_reducible rfl)
      (try simp only [Act.put, List.setIfInBounds_toArray, List.set_cons_succ, List.set_cons_zero])
      refine wpAnyH_take (i := 1) (oi := ⟨some 59, _, _, _, _, _⟩) (v := ?_) rfl (by kernel_rfl) (by kernel_rfl) (by kernel_rfl) (fun _ _ _ h => h) (Or.inl ⟨by kernel_rfl, ?_⟩) (by assumption) ?_
      rotate_left 1
      · (intro w hSw; (try dsimp only at hSw); go_simp) <;> (with_reducible rfl)
      (try simp only [Act.put, List.setIfInBounds_toArray, List.set_cons_succ, List.set_cons_zero])
      refine wpAnyH_take (i := 2) (oi := ⟨some 60, _, _, _, _, _⟩) (v := ?_) rfl (by kernel_rfl) (by kernel_rfl) (by kernel_rfl) (fun _ _ _ h => h) (Or.inl ⟨by kernel_rfl, ?_⟩) (by assumption) ?_
      rotate_left 1
      · (intro w hSw; (try dsimp only at hSw); go_simp) <;> (with_reducible rfl)
      (try simp only [Act.put, List.setIfInBounds_toArray, List.set_cons_succ, List.set_cons_zero])
      refine wpAnyH_take (i := 3) (oi := ⟨some 61, _, _, _, _, _⟩) (v := ?_) rfl (by kernel_rfl) (by kernel_rfl) (by kernel_rfl) (fun _ _ _ h => h) (Or.inl ⟨by kernel_rfl, ?_⟩) (by assumption) ?_
      rotate_left 1
      · (intro w hSw; (try dsimp only at hSw); go_simp) <;> (with_reducible rfl)
      (try simp only [Act.put, List.setIfInBounds_toArray, List.set_cons_succ, List.set_cons_zero])
      refine wpAnyH_take (i := 4) (oi := ⟨some 62, _, _, _, _, _⟩) (v := ?_) rfl (by kernel_rfl) (by kernel_rfl) (by kernel_rfl) (fun _ _ _ h => h) (Or.inl ⟨by kernel_rfl, ?_⟩) (by assumption) ?_
      rotate_left 1
      · (intro w hSw; (try dsimp only at hSw); go_simp) <;> (with_reducible rfl)
      (try simp only [Act.put, List.setIfInBounds_toArray, List.set_cons_succ, List.set_cons_zero])
      refine wpAnyH_ready (rs := [5]) (by kernel_rfl) (by simp) ?_
      refine AllReadyH.cons (o := ⟨some 63, _, _, _, _, _⟩) rfl (fun K' hK => ?_) AllReadyH.nil
      go_simp
      refine (AT.out _ RA.out.D1.c.rd).mono ?_
      rintro e wa ⟨rfl, hb⟩
      replace RA := hide (RA.out.below hb)
      clear hb
      refine hK.out _ _ ?_ (fun hHeld => ?_)
      · exact ⟨⟨RA.out.Z1.cell 0, RA.out.Z1.cell 1⟩, Y1.out _ RA.out.K⟩
      clear hK K'
      (try simp only [Act.put, List.setIfInBounds_toArray, List.set_cons_succ, List.set_cons_zero])
      refine wpAnyH_take (i := 6) (oi := ⟨some 64, _, _, _, _, _⟩) (v := ?_) rfl (by kernel_rfl) (by kernel_rfl) (by kernel_rfl) (fun _ _ _ h => h) (Or.inl ⟨by kernel_rfl, ?_⟩) (by assumption) ?_
      rotate_left 1
      · (intro w hSw; (try dsimp only at hSw); go_simp) <;> (with_reducible rfl)
      (try simp only [Act.put, List.setIfInBounds_toArray, List.set_cons_succ, List.set_cons_zero])
      refine wpAnyH_done (by kernel_rfl) ?_ _
      refine NoPanic.normal ?_
      clear hHeld AT
      by_cases hin : f ∈ frs L1
      · obtain ⟨k, _, _, ek⟩ := atI_frs hin O12.out.1.asc
        have hge : (0 : Int) ≤ ai := by rw [HAI.out, ek]; omega
        have hd9 : decide ((0 : Int) ≤ ai) = true := decide_eq_true hge
        have EE := hide (show alE S n fs = 7 ∧ (7 : Int) ≠ 0 from ⟨by rw [HST.out, if_pos (MM.out.1 hin)], by decide⟩)
        have Y := hide RA.out.Y
        have K := hide RA.out.K
        clear ek hin
        have y0 : wa.cell? ⟨g6, 0, none⟩ = some (.int .i64 0) := Y.out.cell 0
        have y1 : wa.cell? ⟨g6, 1, none⟩ = some (.slice none 0 0) := Y.out.cell 1
        have yf0 := Y.out.frozen 0
        have yf1 := Y.out.frozen 1
        go_wp2
        have E1 := (Y.out.put 0 (.int .i64 0)).put 1 (.slice none 0 0)
        refine ret_s4 (v := .slice none 0 0) (g := g6) (k := 6) (o := 0) (A := none) (n := 0) (c := 0) (er2 := 7) (m := 7) (m2 := 8) rfl rfl rfl rfl rfl E1 ?_
        exact ERR.out _ _ EE.out (bset (bset K.out (by show w.heap.size ≤ g6; exact HG6.out) _) (by show w.heap.size ≤ g6; exact HG6.out) _)
      have hlt : ai = -1 := by rw [HAI.out, atI_out hin]
      subst hlt
      have FQ2 := hide (HFS.out HR6.out (fun c => hin (MM.out.2 c)))
      have HE2 := hide (show feE (frs S.sl ++ fs.take (q + 1)) (fs.drop (q + 1)) = alE S n fs by rw [HST.out, if_neg (fun c => hin (MM.out.2 c))])
      have W1 := hide (fun W (h : OwnD w.heap.size W (.slice A1 n1 c1) L1) (hs : w.heap.size ≤ W.heap.size) => with_any w.heap.size A1 n1 c1 L1 S.ob f m W h HN1'.out hs HM.out (by have := HV.out.ob; have := HM.out; omega) LB.out.1 O12.out.1.asc hin)
      have hin2 : f ∉ frs L2 := fun c => by
        rcases (P12.out.2 f).1 c with h | h
        · cases h
        · exact hin (MM.out.2 (List.mem_append.2 (.inr h)))
      have W2 := hide (fun W (h : OwnD w.heap.size W (.slice A2 n2 c2) L2) (hs : w.heap.size ≤ W.heap.size) => with_any w.heap.size A2 n2 c2 L2 S.ob f m W h HN2.out hs HM.out (by have := HV.out.ob; have := HM.out; omega) LB.out.2 P12.out.1.asc hin2)
      have N1' := hide (show (ins0 m L1 f).length = n1 + 1 by unfold ins0; rw [ins_len, HN1'.out])
      have N2' := hide (show (ins0 m L2 f).length = n2 + 1 by unfold ins0; rw [ins_len, HN2.out])
      clear hin hin2 HFS HST MM HAI
      go_upto_region 16 with fail
      have KD : Below wa.heap.size wa wa.drew := below_drewN (brefl _) 1
      replace RA := hide (RA.out.below KD)
      clear KD
      refine wp_region_noPanic ?_
      refine wp_region_held_drew (S := (fun W => W.cell? ⟨b, off + q, none⟩ = some (.int .i64 f))) (by kernel_rfl) ?_ (fun hHeld => ?_)
      · exact Y1.out _ RA.out.K
      generalize wa.drew = wd at *
      have z0 := RA.out.Z1.cell 0
      have z1 := RA.out.Z1.cell 1
      simp at z0 z1
      refine wpAnyH_take (i := 1) (oi := ⟨some 67, _, _, _, _, _⟩) (v := ?_) rfl (by kernel_rfl) (by kernel_rfl) (by kernel_rfl) (fun _ _ _ h => h) (Or.inl ⟨by kernel_rfl, ?_⟩) (by assumption) ?_
      rotate_left 1
      · (intro w hSw; (try dsimp only at hSw); go_simp) <;> (with_reducible rfl)
      (try simp only [Act.put, List.setIfInBounds_toArray, List.set_cons_succ, List.set_cons_zero])
      refine wpAnyH_take (i := 2) (oi := ⟨some 68, _, _, _, _, _⟩) (v := ?_) rfl (by kernel_rfl) (by kernel_rfl) (by kernel_rfl) (fun _ _ _ h => h) (Or.inl ⟨by kernel_rfl, ?_⟩) (by assumption) ?_
      rotate_left 1
      · (intro w hSw; (try dsimp only at hSw); go_simp) <;> (with_reducible rfl)
      (try simp only [Act.put, List.setIfInBounds_toArray, List.set_cons_succ, List.set_cons_zero])
      refine wpAnyH_take (i := 3) (oi := ⟨some 69, _, _, _, _, _⟩) (v := ?_) rfl (by kernel_rfl) (by kernel_rfl) (by kernel_rfl) (fun _ _ _ h => h) (Or.inl ⟨by kernel_rfl, ?_⟩) (by assumption) ?_
      rotate_left 1
      · (intro w hSw; (try dsimp only at hSw); go_simp) <;> (with_reducible rfl)
      (try simp only [Act.put, List.setIfInBounds_toArray, List.set_cons_succ, List.set_cons_zero])
      refine wpAnyH_take (i := 4) (oi := ⟨some 70, _, _, _, _, _⟩) (v := ?_) rfl (by kernel_rfl) (by kernel_rfl) (by kernel_rfl) (fun _ _ _ h => h) (Or.inl ⟨by kernel_rfl, ?_⟩) (by assumption) ?_
      rotate_left 1
      · (intro w hSw; (try dsimp only at hSw); go_simp) <;> (with_reducible rfl)
      (try simp only [Act.put, List.setIfInBounds_toArray, List.set_cons_succ, List.set_cons_zero])
      refine wpAnyH_ready (rs := [0]) (by kernel_rfl) (by simp) ?_
      refine AllReadyH.cons (o := ⟨some 66, _, _, _, _, _⟩) rfl (fun K' hK => ?_) AllReadyH.nil
      go_simp
      clear z0 z1
      refine hK.out _ _ ?_ (fun hHeld => ?_)
      · exact Y1.out _ RA.out.K
      clear hK K'
      (try simp only [Act.put, List.setIfInBounds_toArray, List.set_cons_succ, List.set_cons_zero])
      refine wpAnyH_ready (rs := [5]) (by kernel_rfl) (by simp) ?_
      refine AllReadyH.cons (o := ⟨some 71, _, _, _, _, _⟩) rfl (fun K' hK => ?_) AllReadyH.nil
      go_simp
      refine (W1.out _ RA.out.D1 RA.out.K.size).mono ?_
      rintro e wb ⟨A91, c91, rfl, hd9, hb⟩
      replace RA := hide (RA.out.new1 hb hd9)
      clear hb hd9
      refine hK.out _ _ ?_ (fun hHeld => ?_)
      · exact Y1.out _ RA.out.K
      clear hK K'
      (try simp only [Act.put, List.setIfInBounds_toArray, List.set_cons_succ, List.set_cons_zero])
      refine wpAnyH_ready (rs := [6]) (by kernel_rfl) (by simp) ?_
      refine AllReadyH.cons (o := ⟨none, _, _, _, _, _⟩) rfl (fun K' hK => ?_) AllReadyH.nil
      refine wp_store_row 24 _ _ rfl g11 #[.int .i64 S.ob, .slice A91 (n1 + 1) c91] rfl rfl 24 _ RA.out.Z1 (by kernel_rfl) rfl (by kernel_rfl) ?_
      replace RA := hide (RA.out.set1 (.slice A91 (n1 + 1) c91))
      obtain ⟨wc, hwc⟩ : ∃ q, q = wb.setRow g11 #[.int .i64 S.ob, .slice A91 (n1 + 1) c91] := ⟨_, rfl⟩
      rw [← hwc] at RA
      rw [← hwc]
      clear hwc
      refine hK.out _ _ ?_ (fun hHeld => ?_)
      · exact Y1.out _ RA.out.K
      clear hK K'
      (try simp only [Act.put, List.setIfInBounds_toArray, List.set_cons_succ, List.set_cons_zero])
      refine wpAnyH_done (by kernel_rfl) ?_ _
      refine NoPanic.normal ?_
      clear hHeld
      go_upto_region 17 with fail
      have KD : Below wc.heap.size wc wc.drew := below_drewN (brefl _) 1
      replace RA := hide (RA.out.below KD)
      clear KD
      refine wp_region_noPanic ?_
      refine wp_region_held_drew (S := (fun W => W.cell? ⟨b, off + q, none⟩ = some (.int .i64 f))) (by kernel_rfl) ?_ (fun hHeld => ?_)
      · exact Y1.out _ RA.out.K
      generalize wc.drew = wd at *
      have z0 := RA.out.Z2.cell 0
      have z1 := RA.out.Z2.cell 1
      simp at z0 z1
      refine wpAnyH_take (i := 1) (oi := ⟨some 73, _, _, _, _, _⟩) (v := ?_) rfl (by kernel_rfl) (by kernel_rfl) (by kernel_rfl) (fun _ _ _ h => h) (Or.inl ⟨by kernel_rfl, ?_⟩) (by assumption) ?_
      rotate_left 1
      · (intro w hSw; (try dsimp only at hSw); go_simp) <;> (with_reducible rfl)
      (try simp only [Act.put, List.setIfInBounds_toArray, List.set_cons_succ, List.set_cons_zero])
      refine wpAnyH_take (i := 2) (oi := ⟨some 74, _, _, _, _, _⟩) (v := ?_) rfl (by kernel_rfl) (by kernel_rfl) (by kernel_rfl) (fun _ _ _ h => h) (Or.inl ⟨by kernel_rfl, ?_⟩) (by assumption) ?_
      rotate_left 1
      · (intro w hSw; (try dsimp only at hSw); go_simp) <;> (with_reducible rfl)
      (try simp only [Act.put, List.setIfInBounds_toArray, List.set_cons_succ, List.set_cons_zero])
      refine wpAnyH_take (i := 3) (oi := ⟨some 75, _, _, _, _, _⟩) (v := ?_) rfl (by kernel_rfl) (by kernel_rfl) (by kernel_rfl) (fun _ _ _ h => h) (Or.inl ⟨by kernel_rfl, ?_⟩) (by assumption) ?_
      rotate_left 1
      · (intro w hSw; (try dsimp only at hSw); go_simp) <;> (with_reducible rfl)
      (try simp only [Act.put, List.setIfInBounds_toArray, List.set_cons_succ, List.set_cons_zero])
      refine wpAnyH_take (i := 4) (oi := ⟨some 76, _, _, _, _, _⟩) (v := ?_) rfl (by kernel_rfl) (by kernel_rfl) (by kernel_rfl) (fun _ _ _ h => h) (Or.inl ⟨by kernel_rfl, ?_⟩) (by assumption) ?_
      rotate_left 1
      · (intro w hSw; (try dsimp only at hSw); go_simp) <;> (with_reducible rfl)
      (try simp only [Act.put, List.setIfInBounds_toArray, List.set_cons_succ, List.set_cons_zero])
      refine wpAnyH_ready (rs := [0]) (by kernel_rfl) (by simp) ?_
      refine AllReadyH.cons (o := ⟨some 72, _, _, _, _, _⟩) rfl (fun K' hK => ?_) AllReadyH.nil
      go_simp
      clear z0 z1
      refine hK.out _ _ ?_ (fun hHeld => ?_)
      · exact Y1.out _ RA.out.K
      clear hK K'
      (try simp only [Act.put, List.setIfInBounds_toArray, List.set_cons_succ, List.set_cons_zero])
      refine wpAnyH_ready (rs := [5]) (by kernel_rfl) (by simp) ?_
      refine AllReadyH.cons (o := ⟨some 77, _, _, _, _, _⟩) rfl (fun K' hK => ?_) AllReadyH.nil
      go_simp
      refine (W2.out _ RA.out.D2 RA.out.K.size).mono ?_
      rintro e we ⟨A92, c92, rfl, hd9, hb⟩
      replace RA := hide (RA.out.new2 hb hd9)
      clear hb hd9
      refine hK.out _ _ ?_ (fun hHeld => ?_)
      · exact Y1.out _ RA.out.K
      clear hK K'
      (try simp only [Act.put, List.setIfInBounds_toArray, List.set_cons_succ, List.set_cons_zero])
      refine wpAnyH_ready (rs := [6]) (by kernel_rfl) (by simp) ?_
      refine AllReadyH.cons (o := ⟨none, _, _, _, _, _⟩) rfl (fun K' hK => ?_) AllReadyH.nil
      refine wp_store_row 24 _ _ rfl g12 #[.int .i64 S.ob, .slice A92 (n2 + 1) c92] rfl rfl 24 _ RA.out.Z2 (by kernel_rfl) rfl (by kernel_rfl) ?_
      replace RA := hide (RA.out.set2 (.slice A92 (n2 + 1) c92))
      obtain ⟨wc, hwc⟩ : ∃ q, q = we.setRow g12 #[.int .i64 S.ob, .slice A92 (n2 + 1) c92] := ⟨_, rfl⟩
      rw [← hwc] at RA
      rw [← hwc]
      clear hwc
      refine hK.out _ _ ?_ (fun hHeld => ?_)
      · exact Y1.out _ RA.out.K
      clear hK K'
      (try simp only [Act.put, List.setIfInBounds_toArray, List.set_cons_succ, List.set_cons_zero])
      refine wpAnyH_done (by kernel_rfl) ?_ _
      refine NoPanic.normal ?_
      clear hHeld
      go_wp2
      go_roundw
      case rel => exact ⟨q + 1, _, _, _, _, _, _, _, _, by go_num, by omega, RA, N1', N2', hide HI1.out.symm, hide HI2.out.symm, FQ2, HE2⟩
      case measure => simp [intOf]; omega
    · obtain rfl : q = fs.length := by omega
      have EA := hide (show alE S n fs = 0 by
        rw [← HE.out, List.drop_eq_nil_of_le (Nat.le_refl _)]; rfl)
      obtain ⟨o1, o2, o3, o4⟩ := FQ.out.out SG.out
      obtain ⟨p1, p2, p3, p4⟩ := FQ.out.fresh
      rw [← HL1.out] at o1 o2 o3 o4
      rw [← HL2.out] at p1 p2 p4
      rw [List.take_of_length_le (Nat.le_refl _)] at o2 o4 p2 p4
      have WF2 := hide (show Wf ⟨S.ob, L2⟩ from ⟨HV.out.ob, fun k hk => by
        have hx : (cAt L2 k).1 ∈ frs L2 := List.mem_map.2 ⟨_, cAt_mem hk, rfl⟩
        rcases (p2 _).1 hx with h | h
        · cases h
        · have := (FQ.out.new _ (by rw [List.take_of_length_le (Nat.le_refl _)]; exact h)).2
          show 0 ≤ (cAt L2 k).1 ∧ (cAt L2 k).1 < 256
          omega, fun k hk => p1.asc k (k + 1) (by omega) hk, fun k hk => by
        show ((cAt L2 k).2.length : Int) = S.ob
        rw [p1.len k hk, HM.out]⟩)
      obtain ⟨nn, hnn⟩ : ∃ nn : Nat, n = nn := ⟨n.toNat, by have := HN1.out; omega⟩
      have EI := alI_eq EA.out HM.out
      have HLA := alI_len EA.out (.inr trivial)
      rw [← HOL.out, ← (show fs.take fs.length = fs from List.take_of_length_le (Nat.le_refl _)), ← HL2.out, List.take_of_length_le (Nat.le_refl _)] at EI
      have LI2 := fun W (h : RdC W A2 L2) => list_any A2 c2 ⟨S.ob, L2⟩ false W h WF2.out
      have hl2b := ls_len WF2.out false L2.length (Nat.le_refl _)
      obtain ⟨l2, hl2⟩ : ∃ l, l = ls ⟨S.ob, L2⟩ false L2.length := ⟨_, rfl⟩
      dsimp only at LI2
      rw [← hl2] at LI2 EI hl2b
      rw [HN2.out] at LI2
      have hol2 : ol.length ≤ 9600 := by
        have := ls_len HV.out.wf false S.sl.length (Nat.le_refl _)
        rw [← HOL.out] at this
        omega
      have LB2 := hide (show ol.length + l2.length ≤ 20000 by simp at p4; omega)
      have AF := al_facts EA.out
      have AG := al_frs EA.out
      have VT := vd_of AF.1
      have HOB := hide (show ∀ o, o ∈ alI S n fs → ∃ (f : Int) (a : Nat), f ∈ frs L1 ∧ 0 ≤ f ∧ f < 256 ∧ a < m ∧ o = f * (m : Int) + (a : Int) from fun o ho => by
        have h1 : o ∈ obj ⟨S.ob, alL S n fs⟩ := (AF.2.1 o).2 (.inr ho)
        have h2 : obj ⟨S.ob, alL S n fs⟩ = ls ⟨S.ob, alL S n fs⟩ true (alL S n fs).length := if_pos AF.1
        rw [h2] at h1
        obtain ⟨i, hi, j, hj, _, e⟩ := (ls_ob VT (m := m) HM.out).1 h1
        refine ⟨(cAt (alL S n fs) i).1, j, (o2 _).2 ((AG.1 _).1 (List.mem_map.2 ⟨_, cAt_mem hi, rfl⟩)), (VT.fr i hi).1, (VT.fr i hi).2, hj, e⟩)
      have FIN := hide (show ∀ Lk, Sg m Lk → frs Lk = frs L1 → (∀ o, Ob m Lk o ↔ Ob m S.sl o ∨ o ∈ alI S n fs) → Lk = alL S n fs from fun Lk g1 g2 g3 => canon2 g1 (VT.sg HM.out) (fun f => by rw [g2, o2, AG.1]) (fun o => by
        rw [g3]
        have a := AF.2.1 o
        have oS : obj S = ls S true S.sl.length := if_pos AG.2.2.2
        have oT : obj ⟨S.ob, alL S n fs⟩ = ls ⟨S.ob, alL S n fs⟩ true (alL S n fs).length := if_pos AF.1
        rw [oS, oT] at a
        exact ((ls_ob VT (m := m) HM.out (o := o)).symm.trans (a.trans (or_congr_left (ls_ob HV.out HM.out (o := o))))).symm))
      have EB := hide (show alB S n fs = S.ob from if_pos EA.out)
      have O1' := hide o1
      have O3' := hide o3
      have HL4 := hide (show n1 ≤ 1000 by have := HN1'.out; omega)
      have HMB := hide (show 1 ≤ m ∧ m ≤ 32 by have := HV.out.ob; have := HM.out; omega)
      clear AF AG VT o1 o2 o3 o4 p1 p2 p3 p4 hl2 hl2b hol2 WF2 FQ HE HL1 HL2 HV ERR
      obtain ⟨li, hli⟩ : ∃ l, l = alI S n fs := ⟨_, rfl⟩
      rw [← hli] at EI HLA HOB FIN
      rw [hnn] at EI HLA
      have HLI := hide hli
      have EI' := hide (show li = (ol ++ l2).take nn by rw [EI]; rfl)
      have HLA' := hide (show li.length = nn by omega)
      have hcap : nn ≤ ol.length + l2.length := by
        have h := HLA'.out
        rw [EI'.out, List.length_take, List.length_append] at h
        omega
      have HCAP := hide hcap
      have HNN := hide hnn
      clear EI HLA hcap hli
      subst hnn
      have LI2' := hide LI2
      have z0 := RA.out.Z2.cell 0
      have z1 := RA.out.Z2.cell 1
      simp at z0 z1
      clear LI2
      go_wp2_with fail
      refine (LI2'.out _ RA.out.D2.c.rd).mono ?_
      rintro e wk ⟨⟨A9, c9, rfl, ho9⟩, hb⟩
      have HSZ := hide (show w.heap.size ≤ wk.heap.size from Nat.le_trans RA.out.K.size hb.size)
      replace RA := hide (RA.out.below hb)
      have HOA := hide RA.out.OL
      have H9 := hide ho9
      have hsum : ol.length + l2.length ≤ 1000000 := by have := LB2.out; omega
      clear hb z0 z1 LI2' ho9
      obtain ⟨m1, hm1⟩ : ∃ q, q = ol.length := ⟨_, rfl⟩
      obtain ⟨m2, hm2⟩ : ∃ q, q = l2.length := ⟨_, rfl⟩
      unfold OwI at HOA H9
      rw [← hm1] at HOA hsum HCAP LB2
      rw [← hm2] at H9 hsum HCAP LB2
      rw [← hm1, ← hm2]
      have HM1 := hide hm1
      have HM2 := hide hm2
      clear hm1 hm2
      have hcap2 : ((nn : Nat) : Int) ≤ ((m1 + m2 : Nat) : Int) := by have := HCAP.out; omega
      have hnn0 : (0 : Int) ≤ ((nn : Nat) : Int) := by omega
      go_upto_region 19 with (at_builtin; refine app_src _ rfl (.tmp 78) (.tmp 80) rfl w.heap.size _ Al A9 cl c9 m1 m2 ol l2 rfl rfl HOA.out H9.out HM1.out.symm HM2.out.symm hsum HSZ.out ?_; intro A8 c8 w8 hown8 hg8 hat8; have hc8 : ((nn : Nat) : Int) ≤ (c8 : Int) := (by obtain ⟨A7, c7, e7, h7⟩ := row_form hown8; injection e7 with _ _ e7; have := HCAP.out; omega))
      have KU := Kp.grown HOA.out hg8 (Nat.le_refl _) HSZ.out
      have HV8 := hide (show (ol ++ l2).length = m1 + m2 by rw [List.length_append, HM1.out, HM2.out])
      have RA2 := RA.out.grow3 KU (vl' := .slice A8 (m1 + m2) c8) (ol' := ol ++ l2) (by unfold OwI; rw [HV8.out]; exact hown8)
      have RB := hide (show Rb w g3 g6 g11 S.ob (.slice A S.sl.length cp) (.slice A8 (m1 + m2) c8) (.slice A1 n1 c1) (.slice A1 n1 c1) (ol ++ l2) L1 w8 from ⟨RA2.K, RA2.X, RA2.Y, RA2.Z1, RA2.OL, RA2.D1⟩)
      have HBI := hide (show ∀ W, OwI w.heap.size W (.slice A8 (m1 + m2) c8) (ol ++ l2) → Bi W A8 li from fun W h => by rw [EI'.out]; exact (OwI.bi h).take nn)
      have HC8 := hide (And.intro hc8 hcap2)
      have HL11 := hide (show w.heap.size ≤ g11 from RA2.l1)
      have HL12 := hide (And.intro RA2.n1 RA2.n2)
      clear hown8 hg8 hat8 hc8 KU RA2 RA HOA H9 HSZ hsum hcap2 EI' HM1 HM2 HV8
      have HS0 := hide (show ∀ o, Ob m L1 o ↔ Ob m S.sl o ∨ o ∈ li.take 0 from fun o => by rw [O3'.out]; simp)
      go_upto_region 20 with fail
      go_loopw [14] (fun i wx => ∃ (j : Nat) (Lk : List Ca), i = .int .i64 j ∧ j ≤ nn ∧ Hid (Rb w g3 g6 g11 S.ob (.slice A S.sl.length cp) (.slice A8 (m1 + m2) c8) (.slice A1 n1 c1) (.slice A1 n1 c1) (ol ++ l2) Lk wx) ∧ Hid (Lk.length = n1) ∧ Hid (Sg m Lk) ∧ Hid (frs Lk = frs L1) ∧ Hid (∀ o, Ob m Lk o ↔ Ob m S.sl o ∨ o ∈ li.take j)) (fun i _ => nn - (intOf i).toNat)
      case atStart => exact ⟨0, L1, rfl, Nat.zero_le _, RB, HN1', O1', hide rfl, HS0⟩
      case round =>
        clear RB HS0
        obtain ⟨j, Lk, rfl, hj, RB, HNk, SGk, FRk, OBk⟩ := hrel
        by_cases hlj : j < nn
        · have hl2 : (j : Int) < (nn : Int) := by omega
          have hj0 : (0 : Int) ≤ (j : Int) := by omega
          have hjl : j < li.length := by rw [HLA'.out]; exact hlj
          have hj8 : (j : Int) ≤ 20000 := by have := HCAP.out; have := LB2.out; omega
          have hmem : li.getD j 0 ∈ li := by rw [getD_get hjl]; exact List.getElem_mem hjl
          obtain ⟨fo, ao, hfo, hf0, hf1, hao, eo⟩ := HOB.out _ hmem
          obtain ⟨ci, hci, hcf, hat⟩ := atI_frs (L := Lk) (by rw [FRk.out]; exact hfo) SGk.out.asc
          have hcl : (cAt Lk ci).2.length = m := SGk.out.len ci hci
          obtain ⟨s1, s2, s3⟩ := Ob.set SGk.out hci hao
          have OB2 := hide (show ∀ o, Ob m (Lk.set ci ((cAt Lk ci).1, (cAt Lk ci).2.set ao true)) o ↔ Ob m S.sl o ∨ o ∈ li.take (j + 1) from fun o => by
            rw [s1, OBk.out, take_snocI hjl, List.mem_append, List.mem_singleton, hcf, ← eo, or_assoc])
          have SG2 := hide s2
          have FR2 := hide (s3.trans FRk.out)
          have NL2 := hide (show (Lk.set ci ((cAt Lk ci).1, (cAt Lk ci).2.set ao true)).length = n1 by rw [List.length_set]; exact HNk.out)
          obtain ⟨bo, oo, eA8, y9⟩ := Bi.at (HBI.out _ RB.out.OL) hjl
          have Y1 := hide (show ∀ W, OwI w.heap.size W (.slice A8 (m1 + m2) c8) (ol ++ l2) → W.cell? ⟨bo, oo + j, none⟩ = some (.int .i64 (li.getD j 0)) from fun W h => by
            obtain ⟨b', o', e', h'⟩ := Bi.at (HBI.out W h) hjl
            rw [eA8] at e'
            injection e' with e'
            injection e' with e1 e2
            subst e1 e2
            exact h')
          have hob : S.ob = (m : Int) := HM.out
          have hm1 : 1 ≤ m ∧ m ≤ 32 := HMB.out
          generalize li.getD j 0 = o at *
          have hm0 : ¬ S.ob = 0 := by omega
          have ho0 : 0 ≤ fo * (m : Int) := Int.mul_nonneg hf0 (by omega)
          have ho1 : fo * (m : Int) ≤ 255 * (m : Int) := Int.mul_le_mul_of_nonneg_right (by omega) (by omega)
          have hq1 : o / S.ob = fo := by rw [eo, hob, Int.add_comm, Int.add_mul_ediv_right _ _ (by omega), Int.ediv_eq_zero_of_lt (by omega) (by omega), Int.zero_add]
          have hq2 : o % S.ob = (ao : Int) := by rw [eo, hob, Int.add_comm, Int.add_mul_emod_self_right]; exact Int.emod_eq_of_lt (by omega) (by omega)
          have hw1 : IntKind.i64.wrap (o.tdiv S.ob) = fo := by
            rw [IntKind.wrap_i64, Int.tdiv_eq_ediv_of_nonneg (by omega), hq1]; omega
          have EM : o.tmod S.ob = (ao : Int) := by rw [Int.tmod_eq_emod_of_nonneg (by omega), hq2]
          have AT := hide (fun W (h : RdC W A1 Lk) => (show Calls Try.prog 46 #[.agg #[.int .i64 S.ob, .slice A1 n1 c1], .int .i64 fo] W fun e w' => e = .returned (.int .i64 (ci : Int)) ∧ Below W.heap.size W w' from by
            have := at_any A1 c1 ⟨S.ob, Lk⟩ fo W h (by have := HNk.out; have := HL4.out; show Lk.length ≤ _; omega)
            dsimp only at this
            rw [HNk.out, hat] at this
            exact this))
          have KD : Below wr.heap.size wr wr.drew := below_drewN (brefl _) 1
          have RB2 := hide (RB.out.below KD)
          obtain ⟨g, c, gf, cf5, ev, hBg, hgl, hBgf, hgfl, -, e1, e2, e3, -, hxf, hxg, -, hcf5⟩ := RB2.out.D1.flag hci (a := ao) (by rw [hcl]; exact hao) true
          rw [HNk.out] at ev
          injection ev with ev1 _ ev2
          rw [hcl] at e1 hcf5
          have hci1 : (ci : Int) < (n1 : Int) := by have := HNk.out; omega
          have hci0 : (0 : Int) ≤ (ci : Int) := by omega
          have hai1 : (ao : Int) < (m : Int) := by omega
          have hai0 : (0 : Int) ≤ (ao : Int) := by omega
          subst ev1 ev2 eA8
          have FL := hide (show ∀ W, Rb w g3 g6 g11 S.ob (.slice A S.sl.length cp) (.slice (some ⟨bo, oo, none⟩) (m1 + m2) c8) (.slice (some ⟨g, 0, none⟩) n1 c1) (.slice (some ⟨g, 0, none⟩) n1 c1) (ol ++ l2) Lk W → W.cell? ⟨g, ci * 2 + 1, none⟩ = some (.slice (some ⟨gf, 0, none⟩) m cf5) → OwnD w.heap.size (W.setCell ⟨gf, ao, none⟩ (.bool true)) (.slice (some ⟨g, 0, none⟩) n1 c1) (Lk.set ci ((cAt Lk ci).1, (cAt Lk ci).2.set ao true)) ∧ ∃ cur, Box W gf 4 cur from fun W h hc => by
            obtain ⟨g', c', gf', cf', ev', -, -, -, -, -, e1', -, -, D6, hx', -, -, -⟩ := h.D1.flag hci (a := ao) (by rw [hcl]; exact hao) true
            injection ev' with ev1 _ _
            injection ev1 with ev1
            injection ev1 with ev1
            subst ev1
            rw [hc] at e1'
            injection e1' with e1'
            injection e1' with e1' _ _
            injection e1' with e1'
            injection e1' with e1'
            subst e1'
            exact ⟨D6, hx'⟩)
          have HBG := hide hBgf
          have HNG := hide (show g ≠ gf by obtain ⟨cu, hx⟩ := hxg; obtain ⟨cu2, hx2⟩ := hxf; exact Box.ne hx hx2 (by decide))
          have E1 := hide e1
          have E2 := hide e2
          have E3 := hide e3
          have HGS := hide (And.intro hgl hgfl)
          generalize (cAt Lk ci).2.getD ao false = bf at *
          clear KD hBg hgl hBgf hgfl e1 e2 e3 hxf hxg y9 s1 s2 s3 hcl hfo hq1 hq2 ho0 ho1 eo hob hf0 hf1 hat hcf RB hmem hao hci hm1
          go_upto_region 22 with fail
          refine wp_region_noPanic ?_
          refine wp_region_held_drew (S := (fun W => ((W.cell? ⟨g11, 0, none⟩ = some (.int .i64 S.ob) ∧ W.cell? ⟨g11, 1, none⟩ = some (.slice (some ⟨g, 0, none⟩) n1 c1)) ∧ W.cell? ⟨g3, 0, none⟩ = some (.int .i64 S.ob)) ∧ W.cell? ⟨bo, oo + j, none⟩ = some (.int .i64 o) ∧ W.cell? ⟨g, ci * 2 + 1, none⟩ = some (.slice (some ⟨gf, 0, none⟩) m cf5))) (by kernel_rfl) ?_ (fun hHeld => ?_)
          · exact ⟨⟨⟨RB2.out.Z1.cell 0, RB2.out.Z1.cell 1⟩, RB2.out.X.cell 0⟩, Y1.out _ RB2.out.OL, E1.out⟩
          generalize wr.drew = wd at *
          refine wpAnyH_take (i := 0) (oi := ⟨some 89, _, _, _, _, _⟩) (v := ?_) rfl (by kernel_rfl) (by kernel_rfl) (by kernel_rfl) (fun _ _ _ h => h) (Or.inl ⟨by kernel_rfl, ?_⟩) (by assumption) ?_
          rotate_left 1
          · (intro w hSw; (try dsimp only at hSw); go_simp) <;> (with_reducible rfl)
          (try simp only [Act.put, List.setIfInBounds_toArray, List.set_cons_succ, List.set_cons_zero])
          refine wpAnyH_take (i := 1) (oi := ⟨some 90, _, _, _, _, _⟩) (v := ?_) rfl (by kernel_rfl) (by kernel_rfl) (by kernel_rfl) (fun _ _ _ h => h) (Or.inl ⟨by kernel_rfl, ?_⟩) (by assumption) ?_
          rotate_left 1
          · (intro w hSw; (try dsimp only at hSw); go_simp) <;> (with_reducible rfl)
          (try simp only [Act.put, List.setIfInBounds_toArray, List.set_cons_succ, List.set_cons_zero])
          refine wpAnyH_take (i := 2) (oi := ⟨some 91, _, _, _, _, _⟩) (v := ?_) rfl (by kernel_rfl) (by kernel_rfl) (by kernel_rfl) (fun _ _ _ h => h) (Or.inl ⟨by kernel_rfl, ?_⟩) (by assumption) ?_
          rotate_left 1
          · (intro w hSw; (try dsimp only at hSw); go_simp) <;> (with_reducible rfl)
          (try simp only [Act.put, List.setIfInBounds_toArray, List.set_cons_succ, List.set_cons_zero])
          refine wpAnyH_take (i := 3) (oi := ⟨some 92, _, _, _, _, _⟩) (v := ?_) rfl (by kernel_rfl) (by kernel_rfl) (by kernel_rfl) (fun _ _ _ h => h) (Or.inl ⟨by kernel_rfl, ?_⟩) (by assumption) ?_
          rotate_left 1
          · (intro w hSw; (try dsimp only at hSw); go_simp) <;> (with_reducible rfl)
          (try simp only [Act.put, List.setIfInBounds_toArray, List.set_cons_succ, List.set_cons_zero])
          refine wpAnyH_take (i := 4) (oi := ⟨some 93, _, _, _, _, _⟩) (v := ?_) rfl (by kernel_rfl) (by kernel_rfl) (by kernel_rfl) (fun _ _ _ h => h) (Or.inl ⟨by kernel_rfl, ?_⟩) (by assumption) ?_
          rotate_left 1
          · (intro w hSw; (try dsimp only at hSw); go_simp) <;> (with_reducible rfl)
          (try simp only [Act.put, List.setIfInBounds_toArray, List.set_cons_succ, List.set_cons_zero])
          refine wpAnyH_take (i := 5) (oi := ⟨some 94, _, _, _, _, _⟩) (v := ?_) rfl (by kernel_rfl) (by kernel_rfl) (by kernel_rfl) (fun _ _ _ h => h) (Or.inl ⟨by kernel_rfl, ?_⟩) (by assumption) ?_
          rotate_left 1
          · (intro w hSw; (try dsimp only at hSw); go_simp) <;> (with_reducible rfl)
          (try simp only [Act.put, List.setIfInBounds_toArray, List.set_cons_succ, List.set_cons_zero])
          refine wpAnyH_take (i := 6) (oi := ⟨some 95, _, _, _, _, _⟩) (v := ?_) rfl (by kernel_rfl) (by kernel_rfl) (by kernel_rfl) (fun _ _ _ h => h) (Or.inl ⟨by kernel_rfl, ?_⟩) (by assumption) ?_
          rotate_left 1
          · (intro w hSw; (try dsimp only at hSw); go_simp) <;> (with_reducible rfl)
          (try simp only [Act.put, List.setIfInBounds_toArray, List.set_cons_succ, List.set_cons_zero])
          refine wpAnyH_take (i := 7) (oi := ⟨some 96, _, _, _, _, _⟩) (v := ?_) rfl (by kernel_rfl) (by kernel_rfl) (by kernel_rfl) (fun _ _ _ h => h) (Or.inl ⟨by kernel_rfl, ?_⟩) (by assumption) ?_
          rotate_left 1
          · (intro w hSw; (try dsimp only at hSw); go_simp) <;> (with_reducible rfl)
          (try simp only [Act.put, List.setIfInBounds_toArray, List.set_cons_succ, List.set_cons_zero])
          refine wpAnyH_take (i := 8) (oi := ⟨some 97, _, _, _, _, _⟩) (v := ?_) rfl (by kernel_rfl) (by kernel_rfl) (by kernel_rfl) (fun _ _ _ h => h) (Or.inl ⟨by kernel_rfl, ?_⟩) (by assumption) ?_
          rotate_left 1
          · (intro w hSw; (try dsimp only at hSw); go_simp) <;> (with_reducible rfl)
          (try simp only [Act.put, List.setIfInBounds_toArray, List.set_cons_succ, List.set_cons_zero])
          refine wpAnyH_take (i := 9) (oi := ⟨some 98, _, _, _, _, _⟩) (v := ?_) rfl (by kernel_rfl) (by kernel_rfl) (by kernel_rfl) (fun _ _ _ h => h) (Or.inl ⟨by kernel_rfl, ?_⟩) (by assumption) ?_
          rotate_left 1
          · (intro w hSw; (try dsimp only at hSw); go_simp) <;> (with_reducible rfl)
          (try simp only [Act.put, List.setIfInBounds_toArray, List.set_cons_succ, List.set_cons_zero])
          refine wpAnyH_take (i := 14) (oi := ⟨some 103, _, _, _, _, _⟩) (v := ?_) rfl (by kernel_rfl) (by kernel_rfl) (by kernel_rfl) (fun _ _ _ h => h) (Or.inl ⟨by kernel_rfl, ?_⟩) (by assumption) ?_
          rotate_left 1
          · (intro w hSw; (try dsimp only at hSw); go_simp) <;> (with_reducible rfl)
          (try simp only [Act.put, List.setIfInBounds_toArray, List.set_cons_succ, List.set_cons_zero])
          refine wpAnyH_take (i := 15) (oi := ⟨some 104, _, _, _, _, _⟩) (v := ?_) rfl (by kernel_rfl) (by kernel_rfl) (by kernel_rfl) (fun _ _ _ h => h) (Or.inl ⟨by kernel_rfl, ?_⟩) (by assumption) ?_
          rotate_left 1
          · (intro w hSw; (try dsimp only at hSw); go_simp) <;> (with_reducible rfl)
          (try simp only [Act.put, List.setIfInBounds_toArray, List.set_cons_succ, List.set_cons_zero])
          refine wpAnyH_take (i := 16) (oi := ⟨some 105, _, _, _, _, _⟩) (v := ?_) rfl (by kernel_rfl) (by kernel_rfl) (by kernel_rfl) (fun _ _ _ h => h) (Or.inl ⟨by kernel_rfl, ?_⟩) (by assumption) ?_
          rotate_left 1
          · (intro w hSw; (try dsimp only at hSw); go_simp) <;> (with_reducible rfl)
          (try simp only [Act.put, List.setIfInBounds_toArray, List.set_cons_succ, List.set_cons_zero])
          refine wpAnyH_take (i := 17) (oi := ⟨some 106, _, _, _, _, _⟩) (v := ?_) rfl (by kernel_rfl) (by kernel_rfl) (by kernel_rfl) (fun _ _ _ h => h) (Or.inl ⟨by kernel_rfl, ?_⟩) (by assumption) ?_
          rotate_left 1
          · (intro w hSw; (try dsimp only at hSw); go_simp) <;> (with_reducible rfl)
          (try simp only [Act.put, List.setIfInBounds_toArray, List.set_cons_succ, List.set_cons_zero])
          refine wpAnyH_take (i := 18) (oi := ⟨some 107, _, _, _, _, _⟩) (v := ?_) rfl (by kernel_rfl) (by kernel_rfl) (by kernel_rfl) (fun _ _ _ h => h) (Or.inl ⟨by kernel_rfl, ?_⟩) (by assumption) ?_
          rotate_left 1
          · (intro w hSw; (try dsimp only at hSw); go_simp) <;> (with_reducible rfl)
          (try simp only [Act.put, List.setIfInBounds_toArray, List.set_cons_succ, List.set_cons_zero])
          refine wpAnyH_take (i := 19) (oi := ⟨some 108, _, _, _, _, _⟩) (v := ?_) rfl (by kernel_rfl) (by kernel_rfl) (by kernel_rfl) (fun _ _ _ h => h) (Or.inl ⟨by kernel_rfl, ?_⟩) (by assumption) ?_
          rotate_left 1
          · (intro w hSw; (try dsimp only at hSw); go_simp) <;> (with_reducible rfl)
          (try simp only [Act.put, List.setIfInBounds_toArray, List.set_cons_succ, List.set_cons_zero])
          refine wpAnyH_take (i := 20) (oi := ⟨some 109, _, _, _, _, _⟩) (v := ?_) rfl (by kernel_rfl) (by kernel_rfl) (by kernel_rfl) (fun _ _ _ h => h) (Or.inl ⟨by kernel_rfl, ?_⟩) (by assumption) ?_
          rotate_left 1
          · (intro w hSw; (try dsimp only at hSw); go_simp) <;> (with_reducible rfl)
          (try simp only [Act.put, List.setIfInBounds_toArray, List.set_cons_succ, List.set_cons_zero])
          refine wpAnyH_ready (rs := [10]) (by kernel_rfl) (by simp) ?_
          refine AllReadyH.cons (o := ⟨some 99, _, _, _, _, _⟩) rfl (fun K' hK => ?_) AllReadyH.nil
          go_simp
          refine (AT.out _ RB2.out.D1.c.rd).mono ?_
          rintro e wq ⟨rfl, hb⟩
          replace E1 := hide ((hb.cell (p := ⟨g, ci * 2 + 1, none⟩) HGS.out.1).trans E1.out)
          replace E2 := hide ((hb.cell (p := ⟨gf, ao, none⟩) HGS.out.2).trans E2.out)
          replace E3 := hide ((hb.frozen (p := ⟨gf, ao, none⟩) HGS.out.2).trans E3.out)
          replace RB2 := hide (RB2.out.below hb)
          clear hb
          have e2 := E2.out
          have e3 := E3.out
          refine hK.out _ _ ?_ (fun hHeld => ?_)
          · exact ⟨⟨⟨RB2.out.Z1.cell 0, RB2.out.Z1.cell 1⟩, RB2.out.X.cell 0⟩, Y1.out _ RB2.out.OL, E1.out⟩
          clear hK K'
          (try simp only [Act.put, List.setIfInBounds_toArray, List.set_cons_succ, List.set_cons_zero])
          refine wpAnyH_take (i := 11) (oi := ⟨some 100, _, _, _, _, _⟩) (v := ?_) rfl (by kernel_rfl) (by kernel_rfl) (by kernel_rfl) (fun _ _ _ h => h) (Or.inl ⟨by kernel_rfl, ?_⟩) (by assumption) ?_
          rotate_left 1
          · (intro w hSw; (try dsimp only at hSw); go_simp) <;> (with_reducible rfl)
          (try simp only [Act.put, List.setIfInBounds_toArray, List.set_cons_succ, List.set_cons_zero])
          refine wpAnyH_take (i := 12) (oi := ⟨some 101, _, _, _, _, _⟩) (v := ?_) rfl (by kernel_rfl) (by kernel_rfl) (by kernel_rfl) (fun _ _ _ h => h) (Or.inl ⟨by kernel_rfl, ?_⟩) (by assumption) ?_
          rotate_left 1
          · (intro w hSw; (try dsimp only at hSw); go_simp) <;> (with_reducible rfl)
          (try simp only [Act.put, List.setIfInBounds_toArray, List.set_cons_succ, List.set_cons_zero])
          refine wpAnyH_take (i := 13) (oi := ⟨some 102, _, _, _, _, _⟩) (v := ?_) rfl (by kernel_rfl) (by kernel_rfl) (by kernel_rfl) (fun _ _ _ h => h) (Or.inl ⟨by kernel_rfl, ?_⟩) (by assumption) ?_
          rotate_left 1
          · (intro w hSw; (try dsimp only at hSw); go_simp) <;> (with_reducible rfl)
          (try simp only [Act.put, List.setIfInBounds_toArray, List.set_cons_succ, List.set_cons_zero])
          refine wpAnyH_take (i := 21) (oi := ⟨some 110, _, _, _, _, _⟩) (v := ?_) rfl (by kernel_rfl) (by kernel_rfl) (by kernel_rfl) (fun _ _ _ h => h) (Or.inl ⟨by kernel_rfl, ?_⟩) (by assumption) ?_
          rotate_left 1
          · (intro w hSw; (try dsimp only at hSw); go_simp) <;> (with_reducible rfl)
          (try simp only [Act.put, List.setIfInBounds_toArray, List.set_cons_succ, List.set_cons_zero])
          refine wpAnyH_ready (rs := [22]) (by kernel_rfl) (by simp) ?_
          refine AllReadyH.cons (o := ⟨none, _, _, _, _, _⟩) rfl (fun K' hK => ?_) AllReadyH.nil
          go_simp
          obtain ⟨D6, cur9, hx9⟩ := FL.out _ RB2.out E1.out
          replace RB2 := hide (RB2.out.flag hx9 HBG.out true D6)
          replace E1 := hide (show (wq.setCell ⟨gf, ao, none⟩ (.bool true)).cell? ⟨g, ci * 2 + 1, none⟩ = some (.slice (some ⟨gf, 0, none⟩) m cf5) by rw [cell_far HNG.out]; exact E1.out)
          clear D6 hx9 e2 e3
          refine hK.out _ _ ?_ (fun hHeld => ?_)
          · exact ⟨⟨⟨RB2.out.Z1.cell 0, RB2.out.Z1.cell 1⟩, RB2.out.X.cell 0⟩, Y1.out _ RB2.out.OL, E1.out⟩
          clear hK K'
          (try simp only [Act.put, List.setIfInBounds_toArray, List.set_cons_succ, List.set_cons_zero])
          refine wpAnyH_done (by kernel_rfl) ?_ _
          refine NoPanic.normal ?_
          clear hHeld
          go_wp2
          go_roundw
          case rel => exact ⟨j + 1, _, by go_num, by omega, RB2, NL2, SG2, FR2, OB2⟩
          case measure => simp [intOf]; omega
        · obtain rfl : j = nn := by omega
          have EL := hide (FIN.out Lk SGk.out FRk.out (fun o => by rw [OBk.out, List.take_of_length_le (by rw [HLA'.out]; exact Nat.le_refl _)]))
          have BIR := hide (fun W h => HBI.out W h)
          go_upto_region 23 with fail
          have KD : Below wr.heap.size wr wr.drew := below_drewN (brefl _) 1
          replace RB := hide (RB.out.below KD)
          clear KD
          refine wp_region_noPanic ?_
          refine wp_region_held_drew (S := (fun W => W.cell? ⟨g11, 0, none⟩ = some (.int .i64 S.ob) ∧ W.cell? ⟨g11, 1, none⟩ = some (.slice A1 n1 c1))) (by kernel_rfl) ?_ (fun hHeld => ?_)
          · exact ⟨RB.out.Z1.cell 0, RB.out.Z1.cell 1⟩
          generalize wr.drew = wd at *
          refine wpAnyH_take (i := 0) (oi := ⟨some 111, _, _, _, _, _⟩) (v := ?_) rfl (by kernel_rfl) (by kernel_rfl) (by kernel_rfl) (fun _ _ _ h => h) (Or.inl ⟨by kernel_rfl, ?_⟩) (by assumption) ?_
          rotate_left 1
          · (intro w hSw; (try dsimp only at hSw); go_simp) <;> (with_reducible rfl)
          (try simp only [Act.put, List.setIfInBounds_toArray, List.set_cons_succ, List.set_cons_zero])
          refine wpAnyH_take (i := 2) (oi := ⟨some 113, _, _, _, _, _⟩) (v := ?_) rfl (by kernel_rfl) (by kernel_rfl) (by kernel_rfl) (fun _ _ _ h => h) (Or.inl ⟨by kernel_rfl, ?_⟩) (by assumption) ?_
          rotate_left 1
          · (intro w hSw; (try dsimp only at hSw); go_simp) <;> (with_reducible rfl)
          (try simp only [Act.put, List.setIfInBounds_toArray, List.set_cons_succ, List.set_cons_zero])
          refine wpAnyH_ready (rs := [1]) (by kernel_rfl) (by simp) ?_
          refine AllReadyH.cons (o := ⟨some 112, _, _, _, _, _⟩) rfl (fun K' hK => ?_) AllReadyH.nil
          go_simp
          have M := bal (brefl wd) (.cells #[] 3)
          have HE := hide (empty_i wd w.heap.size RB.out.K.size)
          replace RB := hide (RB.out.below M)
          have HSZ := hide (Nat.le_trans RB.out.K.size (Nat.le_refl _))
          have HBX := hide (BIR.out _ RB.out.OL)
          clear M
          refine hK.out _ _ ?_ (fun hHeld => ?_)
          · exact ⟨RB.out.Z1.cell 0, RB.out.Z1.cell 1⟩
          clear hK K'
          (try simp only [Act.put, List.setIfInBounds_toArray, List.set_cons_succ, List.set_cons_zero])
          refine wpAnyH_ready (rs := [3]) (by kernel_rfl) (by simp) ?_
          refine AllReadyH.cons (o := ⟨some 114, _, _, _, _, _⟩) rfl (fun K' hK => ?_) AllReadyH.nil
          refine step_app_i rfl (.tmp 112) (.tmp 113) rfl w.heap.size wd.heap.size A8 c8 j li rfl rfl HE.out HBX.out HLA'.out (by have := HLA'.out; have := HCAP.out; have := LB2.out; omega) HSZ.out (by have := HC8.out.1; omega) ?_
          intro A7 c7 wv hown7 KU7
          have O7 := hide hown7
          have RY := hide (RB.out.Y.kp KU7 (by decide))
          have RZ := hide (RB.out.Z1.kp KU7 (by decide))
          have RK := hide (RB.out.K.trans KU7.below)
          have RD := hide (RB.out.D1.kp KU7 (by decide) (by decide))
          clear hown7 KU7 HE HSZ HBX
          refine hK.out _ _ ?_ (fun hHeld => ?_)
          · exact ⟨RZ.out.cell 0, RZ.out.cell 1⟩
          clear hK K'
          (try simp only [Act.put, List.setIfInBounds_toArray, List.set_cons_succ, List.set_cons_zero])
          refine wpAnyH_ready (rs := [4]) (by kernel_rfl) (by simp) ?_
          refine AllReadyH.cons (o := ⟨none, _, _, _, _, _⟩) rfl (fun K' hK => ?_) AllReadyH.nil
          refine wp_store_row 24 _ _ rfl g6 #[.int .i64 S.ob, .slice A1 n1 c1] rfl rfl 24 _ RY.out (by kernel_rfl) rfl (by kernel_rfl) ?_
          have KP := kp_row24 (cs := #[.int .i64 S.ob, .slice A1 n1 c1]) RY.out HG6.out
          replace RZ := hide (box_row_far24 (cs := #[.int .i64 S.ob, .slice A1 n1 c1]) RZ.out (show g11 ≠ g6 by have := HL12.out.2; omega))
          replace RK := hide (RK.out.trans KP.below)
          replace RD := hide (RD.out.kp KP (by decide) (by decide))
          replace O7 := hide (row_kp O7.out KP (by decide))
          have RYf := hide (box_row24 (cs := #[.int .i64 S.ob, .slice A1 n1 c1]) RY.out)
          clear KP
          refine hK.out _ _ ?_ (fun hHeld => ?_)
          · exact ⟨RZ.out.cell 0, RZ.out.cell 1⟩
          clear hK K'
          (try simp only [Act.put, List.setIfInBounds_toArray, List.set_cons_succ, List.set_cons_zero])
          refine wpAnyH_take (i := 5) (oi := ⟨some 7, _, _, _, _, _⟩) (v := ?_) rfl (by kernel_rfl) (by kernel_rfl) (by kernel_rfl) (fun _ _ _ h => h) (Or.inl ⟨by kernel_rfl, ?_⟩) (by assumption) ?_
          rotate_left 1
          · (intro w hSw; (try dsimp only at hSw); go_simp) <;> (with_reducible rfl)
          (try simp only [Act.put, List.setIfInBounds_toArray, List.set_cons_succ, List.set_cons_zero])
          refine wpAnyH_take (i := 6) (oi := ⟨some 8, _, _, _, _, _⟩) (v := ?_) rfl (by kernel_rfl) (by kernel_rfl) (by kernel_rfl) (fun _ _ _ h => h) (Or.inl ⟨by kernel_rfl, ?_⟩) (by assumption) ?_
          rotate_left 1
          · (intro w hSw; (try dsimp only at hSw); go_simp) <;> (with_reducible rfl)
          (try simp only [Act.put, List.setIfInBounds_toArray, List.set_cons_succ, List.set_cons_zero])
          refine wpAnyH_done (by kernel_rfl) ?_ _
          refine NoPanic.normal ?_
          clear hHeld
          go_wp2
          refine ret_s4 (v := .slice A1 n1 c1) (g := g6) (k := 6) (o := S.ob) (A := A7) (n := j) (c := c7) (er2 := 0) (m := 7) (m2 := 8) rfl rfl rfl rfl rfl RYf.out ?_
          unfold AlR
          rw [EB.out, EA.out, ← HLI.out, HLA'.out, ← EL.out]
          exact ⟨_, A7, c7, rfl, RD.out, (by unfold OwI; rw [HLA'.out] at *; exact O7.out), RK.out⟩
end Go.Proofs.Ytncjicggolmofaa.Sb
namespace Go.Proofs.Ytncjicggolmofaa.Sb
open Go Go.RowKit
set_option linter.unusedVariables false
set_option linter.unusedSimpArgs false
theorem al_bd (S : Sc) (n : Int) (fs : Is) (hnr : n ≤ 9223372036854775807) : (alL S n fs).length ≤ 256 ∧ (∀ k, k < (alL S n fs).length → (cAt (alL S n fs) k).2.length ≤ 9223372036854775807) ∧ (alI S n fs).length ≤ 9223372036854775807 := by
  by_cases h0 : alE S n fs = 0
  · have f6 := alI_len h0 (.inr trivial)
    have V := vd_of (al_facts h0).1
    have hl := V.wf.len
    exact ⟨hl, fun k hk => by have h := V.wf.l32 hk; exact Nat.le_trans h (by omega), by omega⟩
  · have e := al_no h0
    have hl : alL S n fs = [] := e.1
    have hi : alI S n fs = [] := e.2.1
    rw [hl, hi]
    exact ⟨Nat.zero_le _, fun k hk => absurd hk (Nat.not_lt_zero k), Nat.zero_le _⟩
set_option maxRecDepth 100000 in
set_option maxHeartbeats 16000000 in
theorem law_allocs (A : Option Addr) (cp : Nat) (S : Sc) (n : Int) (Af : Option Addr) (cf : Nat) (fs : Is) (w : World) (hr : RdC w A S.sl) (hn : S.sl.length ≤ 9223372036854775807) (hln : ∀ k, k < S.sl.length → (us S k).length ≤ 9223372036854775807) (hnr : n ≤ 9223372036854775807 ∧ -9223372036854775808 ≤ n) (hq : Bi w Af fs) (hqn : fs.length ≤ 9223372036854775807) : Calls Try.prog 5 #[.agg #[.int .i64 S.ob, .slice A S.sl.length cp], .int .i64 n, .slice Af fs.length cf] w fun e w' => e = .returned (.bool true) ∧ Below w.heap.size w w' := by
  have AWK := hide (fun w => awake_any w)
  have K := hide (bal (brefl w) (.cells #[.int .i64 S.ob, .slice A S.sl.length cp] 24))
  have X := hide (Box.new w 24 #[.int .i64 S.ob, .slice A S.sl.length cp])
  have FW := hide (fun w' (h : Below w.heap.size w w') => few_any A cp S w' (hr.below h) hn)
  obtain ⟨g2, hg2⟩ : ∃ g, g = w.heap.size := ⟨_, rfl⟩
  have HG2 := hide hg2
  rw [← hg2] at X
  clear hg2
  have HR := hide (fun w' (h : Below w.heap.size w w') => hr.below h)
  have HQ := hide (fun w' (h : Below w.heap.size w w') => hq.below h)
  clear hr hq
  go_enter Try.func5, Try.ntmps5
  go_upto_region 1 with fail
  rw [← HG2.out]
  generalize (w.alloc (.cells #[.int .i64 S.ob, .slice A S.sl.length cp] 24)) = w1 at *
  obtain ⟨x0, x1⟩ : w1.cell? ⟨g2, 0, none⟩ = some (.int .i64 S.ob) ∧ w1.cell? ⟨g2, 1, none⟩ = some (.slice A S.sl.length cp) := ⟨X.out.cell 0, X.out.cell 1⟩
  go_wp2_with fail
  refine (FW.out _ K.out).mono ?_
  rintro e w2 ⟨rfl, hb⟩
  replace K := hide (btrans K.out hb)
  replace X := hide (X.out.below hb)
  clear hb x0 x1 FW
  cases hf : fw S
  · go_wp2_with fail
    refine (AWK.out _).mono ?_
    rintro e w9 ⟨rfl, hb⟩
    replace K := hide (btrans K.out hb)
    clear hb
    go_wp2
    go_ret
    exact ⟨rfl, K.out⟩
  have hfw : S.sl.length ≤ 20 ∧ ∀ k, k < S.sl.length → (us S k).length ≤ 40 := of_decide_eq_true hf
  by_cases h40 : 40 < fs.length
  · have hd : decide ((40 : Int) < (fs.length : Int)) = true := decide_eq_true (by omega)
    have hd2 : (40 : Int) < (fs.length : Int) := by omega
    go_wp2_with fail
    refine (AWK.out _).mono ?_
    rintro e w9 ⟨rfl, hb⟩
    replace K := hide (btrans K.out hb)
    clear hb
    go_wp2
    go_ret
    exact ⟨rfl, K.out⟩
  have hd : decide ((40 : Int) < (fs.length : Int)) = false := decide_eq_false (by omega)
  have FR := hide (fun w' (h : Below w.heap.size w w') => alloc_any A cp S n Af cf fs w' (HR.out w' h) (by omega) (fun k hk => by have := hfw.2 k hk; omega) hnr (HQ.out w' h) (by omega))
  have RF := hide (fun w' (h : Below w.heap.size w w') => ralloc_any A cp S n Af cf fs w' (HR.out w' h) (by omega) (fun k hk => by have := hfw.2 k hk; omega) hnr (HQ.out w' h) (by omega))
  unfold AlR at FR RF
  have BD := hide (al_bd S n fs hnr.1)
  have SM := hide (fun A1 c1 A2 c2 W (h1 : RdC W A1 (alL S n fs)) (h2 : RdC W A2 (alL S n fs)) => (show Calls Try.prog 18 #[.agg #[.int .i64 (alB S n fs), .slice A1 (alL S n fs).length c1], .agg #[.int .i64 (alB S n fs), .slice A2 (alL S n fs).length c2]] W fun e w' => e = .returned (.bool true) ∧ Below W.heap.size W w' from
    (same_any A1 A2 c1 c2 ⟨alB S n fs, alL S n fs⟩ ⟨alB S n fs, alL S n fs⟩ W h1 h2 (by have := BD.out.1; show (alL S n fs).length ≤ _; omega) (by have := BD.out.1; show (alL S n fs).length ≤ _; omega) BD.out.2.1 BD.out.2.1).mono (fun e w' h => ⟨by rw [h.1, decide_eq_true ⟨rfl, rfl⟩], h.2⟩)))
  have EQ := hide (fun A1 c1 A2 c2 W (h1 : Bi W A1 (alI S n fs)) (h2 : Bi W A2 (alI S n fs)) => (show Calls Try.prog 23 #[.slice A1 (alI S n fs).length c1, .slice A2 (alI S n fs).length c2] W fun e w' => e = .returned (.bool true) ∧ Below W.heap.size W w' from
    (equal_any A1 A2 c1 c2 (alI S n fs) (alI S n fs) W h1 h2 BD.out.2.2).mono (fun e w' h => ⟨by rw [h.1, decide_eq_true rfl], h.2⟩)))
  clear hfw BD
  generalize alB S n fs = fo at *
  generalize alE S n fs = fe at *
  obtain ⟨fl, hfl⟩ : ∃ l, l = alL S n fs := ⟨_, rfl⟩
  obtain ⟨fi, hfi⟩ : ∃ l, l = alI S n fs := ⟨_, rfl⟩
  rw [← hfl] at FR RF SM
  rw [← hfi] at FR RF EQ
  obtain ⟨ln, hln'⟩ : ∃ m, m = fl.length := ⟨_, rfl⟩
  obtain ⟨li, hli'⟩ : ∃ m, m = fi.length := ⟨_, rfl⟩
  rw [← hln'] at SM
  rw [← hli'] at EQ FR RF
  have HLN := hide hln'
  clear hfl hln' hfi hli'
  obtain ⟨x0, x1⟩ : w2.cell? ⟨g2, 0, none⟩ = some (.int .i64 S.ob) ∧ w2.cell? ⟨g2, 1, none⟩ = some (.slice A S.sl.length cp) := ⟨X.out.cell 0, X.out.cell 1⟩
  go_wp2_with fail
  refine (FR.out _ K.out).mono ?_
  rintro e w3 ⟨v, Ai3, ci3, rfl, hD, hO, hb⟩
  obtain ⟨A3, c3, ev, _⟩ := hD.c.form
  subst ev
  rw [← HLN.out] at hD ⊢
  have R3 := hide (show RdC w3 A3 fl from hD.c.rd)
  have B3 := hide (show Bi w3 Ai3 fi from OwI.bi hO)
  replace K := hide (btrans K.out hb)
  replace X := hide (X.out.below hb)
  clear hb x0 x1 hD hO FR
  have M := bal (brefl w3) (.cells #[.int .i64 fo, .slice A3 ln c3] 24)
  have X5 := hide (Box.new w3 24 #[.int .i64 fo, .slice A3 ln c3])
  replace K := hide (btrans K.out M)
  replace X := hide (X.out.below M)
  replace R3 := hide (R3.out.below M)
  replace B3 := hide (B3.out.below M)
  clear M
  go_upto_region 4 with fail
  obtain ⟨g5, hg5⟩ : ∃ g, g = w3.heap.size := ⟨_, rfl⟩
  rw [← hg5] at X5 ⊢
  clear hg5
  generalize w3.alloc (.cells #[.int .i64 fo, .slice A3 ln c3] 24) = w4 at *
  obtain ⟨x0, x1⟩ : w4.cell? ⟨g2, 0, none⟩ = some (.int .i64 S.ob) ∧ w4.cell? ⟨g2, 1, none⟩ = some (.slice A S.sl.length cp) := ⟨X.out.cell 0, X.out.cell 1⟩
  go_wp2_with fail
  refine (RF.out _ K.out).mono ?_
  rintro e w6 ⟨v, Ai6, ci6, rfl, hD, hO, hb⟩
  obtain ⟨A6, c6, ev, _⟩ := hD.c.form
  subst ev
  rw [← HLN.out] at hD ⊢
  have R6 := hide (show RdC w6 A6 fl from hD.c.rd)
  have B6 := hide (show Bi w6 Ai6 fi from OwI.bi hO)
  replace K := hide (btrans K.out hb)
  replace X5 := hide (X5.out.below hb)
  replace R3 := hide (R3.out.below hb)
  replace B3 := hide (B3.out.below hb)
  clear hb x0 x1 hD hO RF X
  have M := bal (brefl w6) (.cells #[.int .i64 fo, .slice A6 ln c6] 24)
  have X8 := hide (Box.new w6 24 #[.int .i64 fo, .slice A6 ln c6])
  replace K := hide (btrans K.out M)
  replace X5 := hide (X5.out.below M)
  replace R3 := hide (R3.out.below M)
  replace R6 := hide (R6.out.below M)
  replace B3 := hide (B3.out.below M)
  replace B6 := hide (B6.out.below M)
  clear M
  go_upto_region 5 with fail
  obtain ⟨g8, hg8⟩ : ∃ g, g = w6.heap.size := ⟨_, rfl⟩
  rw [← hg8] at X8 ⊢
  clear hg8
  generalize w6.alloc (.cells #[.int .i64 fo, .slice A6 ln c6] 24) = w7 at *
  obtain ⟨x0, x1⟩ : w7.cell? ⟨g5, 0, none⟩ = some (.int .i64 fo) ∧ w7.cell? ⟨g5, 1, none⟩ = some (.slice A3 ln c3) := ⟨X5.out.cell 0, X5.out.cell 1⟩
  obtain ⟨y0, y1⟩ : w7.cell? ⟨g8, 0, none⟩ = some (.int .i64 fo) ∧ w7.cell? ⟨g8, 1, none⟩ = some (.slice A6 ln c6) := ⟨X8.out.cell 0, X8.out.cell 1⟩
  go_wp2_with fail
  refine (SM.out A3 c3 A6 c6 _ R3.out R6.out).mono ?_
  rintro e w8 ⟨rfl, hb⟩
  replace K := hide (btrans K.out hb)
  replace B3 := hide (B3.out.below hb)
  replace B6 := hide (B6.out.below hb)
  clear hb x0 x1 y0 y1
  go_wp2_with fail
  refine (EQ.out Ai3 ci3 Ai6 ci6 _ B3.out B6.out).mono ?_
  rintro e w10 ⟨rfl, hb⟩
  replace K := hide (btrans K.out hb)
  clear hb
  go_wp2_with fail
  refine (AWK.out _).mono ?_
  rintro e w9 ⟨rfl, hb⟩
  replace K := hide (btrans K.out hb)
  clear hb
  go_wp2
  go_ret
  exact ⟨rfl, K.out⟩
end Go.Proofs.Ytncjicggolmofaa.Sb
