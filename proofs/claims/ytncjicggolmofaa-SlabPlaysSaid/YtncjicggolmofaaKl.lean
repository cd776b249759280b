import Derived.Test.YtncjicggolmofaaAt
import Derived.Laws.CopyRow
import Derived.Lib.SliceRun
import Derived.Maps.AppendAt
import Derived.Deep.Slices
namespace Go.Proofs.Ytncjicggolmofaa.Sb
open Go Go.RowKit
set_option linter.unusedVariables false
set_option linter.unusedSimpArgs false
theorem info4 : (Try.prog.info? 4).map (fun i => (i.zero, i.size, i.bytes)) = some (some (.bool false), 1, 1) := by kernel_rfl
theorem info52 : (Try.prog.info? 52).map (fun i => (i.zero, i.size, i.bytes)) = some (some (.agg #[.int .i64 0, .slice none 0 0]), 2, 32) := by kernel_rfl
theorem own_row4 (w : World) : (w.alloc (.cells #[] 4)).ownsRow w.heap.size 4 1 (.slice (some ⟨w.heap.size, 0, none⟩) 0 0) 0 [] :=
  World.ownsRow_made w #[] 0 (Nat.le_refl _) (Nat.zero_le _) (by simp)
theorem add_at' (b off k : Nat) : (⟨b, off, none⟩ : Addr).add k = ⟨b, off + k, none⟩ := by
  unfold Addr.add
  by_cases h : k = 0 <;> simp [h]
theorem row_grown {base n size : Nat} {t : TypeId} {v : Value} {xs : List Value} {w w' : World} (h : w.ownsRow base t size v n xs) (hg : w.grownBy w' v.ownBlock) (hs : base ≤ w.heap.size) : Below base w w' :=
  (Kp.grown (B := base) h hg (Nat.le_refl _) hs).below
theorem bs_news {w : World} {a : Addr} {l : By} (hr : Bs w (some a) l) (j : Nat) (u : Value) (hu : (l.map bc)[j]? = some u) : w.cell? (a.add j) = some u := by
  have hj : j < l.length := by
    rcases Nat.lt_or_ge j l.length with h | h
    · exact h
    · rw [List.getElem?_eq_none (by rw [List.length_map]; exact h)] at hu; cases hu
  obtain ⟨b, off, e, hb, hc⟩ := hr (by rintro rfl; simp at hj)
  injection e with e
  subst e
  rw [add_at', hc j hj]
  rw [List.getElem?_map, List.getElem?_eq_getElem hj] at hu
  injection hu with hu
  subst hu
  unfold bc
  rw [List.getD_eq_getElem?_getD, List.getElem?_eq_getElem hj]; rfl
theorem bc_one (l : By) : ∀ u ∈ l.map bc, u.oneCell' = true := by
  intro u hu
  obtain ⟨z, _, rfl⟩ := List.mem_map.1 hu
  rfl
/-- what a call that hands back bytes of its own leaves -/
def ByR (l : By) (w : World) (e : Ending) (w' : World) : Prop := ∃ v, e = .returned v ∧ w'.ownsRow w.heap.size 4 1 v l.length (l.map bc) ∧ Below w.heap.size w w'
theorem bclone_some (a : Addr) (l : By) (c : Nat) (w : World) (hr : Bs w (some a) l) (hn : l.length ≤ 1000) : Calls Try.prog 51 #[.slice (some a) l.length c] w (ByR l w) := by
  obtain ⟨i0, hi0, hz0, hz1, hz2⟩ := info_parts info4
  have HR := hide (hr.below (bal (brefl w) (.cells #[] 4)))
  clear hr
  have q50 : ∀ (w : World) (a : Option Addr) (n c n' c' : Nat), (binOp .eql 50 (.slice a n c) (.slice none n' c')).run Try.prog w = .ok (.bool a.isNone) w := fun w a n c n' c' => Lib.run_eql_slice_nil w _ _ a n c n' c' Try.underlying50
  go_enter Try.func51, Try.ntmps51
  go_wp2_with (at_builtin; refine wpList_append_own _ rfl (.tmp 5) (.tmp 6) _ rfl w.heap.size 4 i0 _ 1 1 Try.underlying50 hi0 hz0 hz1 hz2 rfl (by omega) (.slice (some ⟨w.heap.size, 0, none⟩) 0 0) 0 [] rfl (own_row4 w) a l.length c (l.map bc) rfl (by simp) (fun j u hu => bs_news HR.out j u hu) (bc_one _) (by simp only [maxLen]; omega) (by omega) (by simp) ?_; intro v1 w1 hown1 hg1 hat1; obtain ⟨A1, n1, rfl, _⟩ := row_form hown1; have HB := hide (show Below w.heap.size w w1 from (bal (brefl w) _).trans (row_grown (own_row4 w) hg1 (by simp))); have HM := hide hown1; clear hown1 hg1 hat1)
  go_wp2
  go_ret
  rw [Nat.zero_add, List.nil_append] at HM
  exact ⟨_, rfl, HM.out, HB.out⟩
theorem bclone_nil (c : Nat) (w : World) : Calls Try.prog 51 #[.slice none 0 c] w (ByR [] w) := by
  have q50 : ∀ (w : World) (a : Option Addr) (n c n' c' : Nat), (binOp .eql 50 (.slice a n c) (.slice none n' c')).run Try.prog w = .ok (.bool a.isNone) w := fun w a n c n' c' => Lib.run_eql_slice_nil w _ _ a n c n' c' Try.underlying50
  go_enter Try.func51, Try.ntmps51
  go_wp2
  go_ret
  exact ⟨_, rfl, ⟨rfl, .inl ⟨rfl, rfl⟩⟩, brefl _⟩
theorem bclone_any (v : Value) (l : By) (w : World) (hr : IsBs w v l) (hn : l.length ≤ 1000) : Calls Try.prog 51 #[v] w (ByR l w) := by
  obtain ⟨A, c, rfl, hc, hb⟩ := hr
  rcases A with _ | a
  · have hL : l = [] := by
      rcases l with _ | ⟨x, xs⟩
      · rfl
      · obtain ⟨b, off, e, _⟩ := hb (by simp)
        cases e
    subst hL
    exact bclone_nil c w
  · exact bclone_some a l c w hb hn
theorem OwnBy.one {w : World} {v : Value} {l : By} (h : OwnBy w v l) : v.oneCell' = true := by
  obtain ⟨A, c, rfl, _⟩ := h; rfl
theorem kp_grown {B n size : Nat} {T : TypeId} {v : Value} {xs : List Value} {w w' : World} (h : w.ownsRow B T size v n xs) (hg : w.grownBy w' v.ownBlock) (hs : B ≤ w.heap.size) : Kp B T w w' := Kp.grown h hg (Nat.le_refl _) hs
theorem OwnC.push {B n : Nat} {w w' : World} {v' u : Value} {z : Int} {l : By} {R : List PC} (ho : ∀ r ∈ R, OwnBy w r.2.2 r.2.1) (hu : OwnBy w u l) (hn : R.length = n) (hown : w'.ownsRow B 52 2 v' (n + 1) (cC R ++ [.int .i64 z, u])) (hk : Kp B 52 w w') :
    OwnC B w' v' (R.map pcC ++ [(z, l)]) :=
  ⟨R ++ [(z, l, u)], by simp [pcC], by rw [cC_append]; rw [show (R.map pcC ++ [(z, l)]).length = n + 1 by simp [hn]]; exact hown, fun r hr => by
    rcases List.mem_append.1 hr with h | h
    · exact (ho r h).kp hk (by decide)
    · rw [List.mem_singleton.1 h]; exact hu.kp hk (by decide)⟩
def RdCP (P : Value → By → Prop) (w : World) (A : Option Addr) (L : List Ca) : Prop :=
  L ≠ [] → ∃ b off, A = some ⟨b, off, none⟩ ∧ b < w.heap.size ∧ ∀ k, k < L.length → ∃ v, w.cell? ⟨b, off + k * 2, none⟩ = some (.int .i64 (cAt L k).1) ∧ w.cell? ⟨b, off + k * 2 + 1, none⟩ = some v ∧ P v (cAt L k).2
def Slc (P : Value → By → Prop) : Prop := ∀ v l, P v l → ∃ A c, v = .slice A l.length c
section
variable {P : Value → By → Prop} {w w' : World} {A : Option Addr}
theorem RdC.cp {L : List Ca} (h : RdC w A L) : RdCP (IsBs w) w A L := h
theorem RdCP.below {L : List Ca} (h : RdCP P w A L) (hb : Below w.heap.size w w') : RdCP P w' A L := fun hn => by
  obtain ⟨b, off, e, hl, hc⟩ := h hn
  refine ⟨b, off, e, Nat.lt_of_lt_of_le hl hb.size, fun k hk => ?_⟩
  obtain ⟨v, h1, h2, h3⟩ := hc k hk
  exact ⟨v, (hb.cell (p := ⟨b, _, none⟩) hl).trans h1, (hb.cell (p := ⟨b, _, none⟩) hl).trans h2, h3⟩
theorem OwnC.cp {B n c : Nat} {L : List Ca} (h : OwnC B w (.slice A n c) L) : RdCP (OwnBy w) w A L := fun hn => by
  obtain ⟨R, e, hr, ho⟩ := h
  have hl : R.length = L.length := by rw [← e, List.length_map]
  obtain ⟨A', c', e1, _⟩ := row_form hr
  injection e1 with e1 e2 e3
  subst e1 e2 e3
  obtain ⟨g, rfl, hg, _, hc, _⟩ := row_cell hr (fun h0 => hn (List.eq_nil_of_length_eq_zero h0))
  refine ⟨g, 0, rfl, hg, fun k hk => ⟨(R[k]'(by omega)).2.2, ?_, ?_, ?_⟩⟩
  · have : (cAt L k).1 = (R[k]'(by omega)).1 := by rw [cAt_get hk]; simp [← e, pcC]
    rw [this, Nat.zero_add]; exact hc _ _ (cC_at (by omega)).1
  · have q := hc _ _ (cC_at (R := R) (k := k) (by omega)).2
    rw [Nat.zero_add]; exact q
  · have : (cAt L k).2 = (R[k]'(by omega)).2.1 := by rw [cAt_get hk]; simp [← e, pcC]
    rw [this]
    exact ho _ (List.getElem_mem _)
theorem cC_one {R : List PC} (hP : ∀ r ∈ R, ∃ l : By, ∃ A c, r.2.2 = .slice A l.length c) : ∀ u ∈ cC R, u.oneCell' = true := by
  induction R with
  | nil => intro u hu; cases hu
  | cons r R ih =>
    intro u hu
    simp only [cC, List.mem_cons] at hu
    rcases hu with rfl | rfl | hu
    · rfl
    · obtain ⟨l, A, c, e⟩ := hP r (by simp)
      rw [e]; rfl
    · exact ih (fun r hr => hP r (by simp [hr])) u hu
/-- the values behind a row -/
theorem RdCP.rows {L : List Ca} {a : Addr} (h : RdCP P w (some a) L) : ∃ R : List PC, R.map pcC = L ∧ (∀ r ∈ R, P r.2.2 r.2.1) ∧ ∀ j u, (cC R)[j]? = some u → w.cell? (a.add j) = some u := by
  by_cases hL : L = []
  · subst hL; exact ⟨[], rfl, fun r hr => (by cases hr), fun j u hu => (by simp [cC] at hu)⟩
  obtain ⟨b, off, e, hl, hc⟩ := h hL
  injection e with e
  subst e
  obtain ⟨f, hf⟩ := Go.Deep.choose_lt (α := Value) (n := L.length) hc
  have hlen : ((List.range L.length).map fun k => ((cAt L k).1, (cAt L k).2, f k)).length = L.length := by simp
  refine ⟨(List.range L.length).map fun k => ((cAt L k).1, (cAt L k).2, f k), ?_, fun r hr => ?_, fun j u hu => ?_⟩
  · apply List.ext_getElem
    · simp
    · intro i h1 h2
      simp only [List.getElem_map, List.getElem_range, pcC]
      rw [← cAt_get h2]
  · obtain ⟨k, hk, rfl⟩ := List.mem_map.1 hr
    exact (hf k (List.mem_range.1 hk)).2.2
  · have hj : j < L.length * 2 := by
      rcases Nat.lt_or_ge j (L.length * 2) with h | h
      · exact h
      · rw [List.getElem?_eq_none (by rw [cC_length, hlen]; exact h)] at hu; cases hu
    have hk : j / 2 < L.length := by omega
    obtain ⟨t0, t1⟩ := cC_at (R := (List.range L.length).map fun k => ((cAt L k).1, (cAt L k).2, f k)) (k := j / 2) (by rw [hlen]; exact hk)
    obtain ⟨c0, c1, _⟩ := hf (j / 2) hk
    rw [add_at']
    rcases (by omega : j = j / 2 * 2 ∨ j = j / 2 * 2 + 1) with h | h
    · rw [h] at hu ⊢
      rw [t0] at hu
      injection hu with hu
      rw [← hu]
      simpa using c0
    · rw [h] at hu ⊢
      rw [t1] at hu
      injection hu with hu
      rw [← hu, ← Nat.add_assoc]
      simpa using c1
end
/-- a row of cached blocks of one's own, whose data have a property -/
def CaR (P : Value → By → Prop) (L : List Ca) (w : World) (e : Ending) (w' : World) : Prop := ∃ (v : Value) (R : List PC), e = .returned v ∧ R.map pcC = L ∧ w'.ownsRow w.heap.size 52 2 v L.length (cC R) ∧ (∀ r ∈ R, P r.2.2 r.2.1) ∧ Below w.heap.size w w'
theorem own_row52 (w : World) : (w.alloc (.cells #[] 52)).ownsRow w.heap.size 52 2 (.slice (some ⟨w.heap.size, 0, none⟩) 0 0) 0 [] :=
  World.ownsRow_made w #[] 0 (Nat.le_refl _) (Nat.zero_le _) (by simp)
theorem sclone_some (P : Value → By → Prop) (hS : Slc P) (a : Addr) (L : List Ca) (c : Nat) (w : World) (hr : RdCP P w (some a) L) (hn : L.length ≤ 1000) : Calls Try.prog 50 #[.slice (some a) L.length c] w (CaR P L w) := by
  obtain ⟨i0, hi0, hz0, hz1, hz2⟩ := info_parts info52
  obtain ⟨R, hR, hP, hc⟩ := (hr.below (bal (brefl w) (.cells #[] 52))).rows
  have HR := hide hR
  have HP := hide hP
  have NW := hide hc
  have O1 := hide (cC_one (R := R) fun r hr => ⟨r.2.1, hS _ _ (hP r hr)⟩)
  have LR := hide (show (cC R).length = L.length * 2 by rw [cC_length, ← hR, List.length_map])
  clear hr hR hP hc
  have q22 : ∀ (w : World) (a : Option Addr) (n c n' c' : Nat), (binOp .eql 22 (.slice a n c) (.slice none n' c')).run Try.prog w = .ok (.bool a.isNone) w := fun w a n c n' c' => Lib.run_eql_slice_nil w _ _ a n c n' c' Try.underlying22
  go_enter Try.func50, Try.ntmps50
  go_wp2_with (at_builtin; refine wpList_append_own _ rfl (.tmp 5) (.tmp 6) _ rfl w.heap.size 52 i0 _ 2 32 Try.underlying22 hi0 hz0 hz1 hz2 rfl (by omega) (.slice (some ⟨w.heap.size, 0, none⟩) 0 0) 0 [] rfl (own_row52 w) a L.length c (cC R) rfl LR.out NW.out O1.out (by simp only [maxLen]; omega) (by omega) (by simp) ?_; intro v1 w1 hown1 hg1 hat1; obtain ⟨A1, n1, rfl, _⟩ := row_form hown1; have HB := hide (show Below w.heap.size w w1 from (bal (brefl w) _).trans (row_grown (own_row52 w) hg1 (by simp))); have HM := hide hown1; clear hown1 hg1 hat1)
  go_wp2
  go_ret
  rw [Nat.zero_add, List.nil_append] at HM
  exact ⟨_, R, rfl, HR.out, HM.out, HP.out, HB.out⟩
theorem sclone_any (P : Value → By → Prop) (hS : Slc P) (A : Option Addr) (L : List Ca) (c : Nat) (w : World) (hr : RdCP P w A L) (hn : L.length ≤ 1000) : Calls Try.prog 50 #[.slice A L.length c] w (CaR P L w) := by
  rcases A with _ | a
  · have hL : L = [] := by
      rcases L with _ | ⟨x, xs⟩
      · rfl
      · obtain ⟨b, off, e, _⟩ := hr (by simp)
        cases e
    subst hL
    have q22 : ∀ (w : World) (a : Option Addr) (n c n' c' : Nat), (binOp .eql 22 (.slice a n c) (.slice none n' c')).run Try.prog w = .ok (.bool a.isNone) w := fun w a n c n' c' => Lib.run_eql_slice_nil w _ _ a n c n' c' Try.underlying22
    clear hr
    go_enter Try.func50, Try.ntmps50
    go_wp2
    go_ret
    exact ⟨_, [], rfl, rfl, ⟨rfl, .inl ⟨rfl, rfl⟩⟩, fun r hr => (by cases hr), brefl _⟩
  · exact sclone_some P hS a L c w hr hn
end Go.Proofs.Ytncjicggolmofaa.Sb
