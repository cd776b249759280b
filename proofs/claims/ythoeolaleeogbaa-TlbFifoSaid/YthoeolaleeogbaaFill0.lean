import Derived.Test.YthoeolaleeogbaaLook
namespace Go.Proofs.Ythoeolaleeogbaa.Tb
open Go Go.RowKit Go.Proofs.Ythoeolaleeogbaa.Pt
set_option linter.unusedVariables false
/-- what a call leaves that hands back a cache and an error -/
def TlbR (size : Int) (M : List Te) (er : Int) (w : World) (e : Ending) (w' : World) : Prop :=
  ∃ A' c', e = .returned (.tuple #[.agg #[.int .i64 size, .slice A' M.length c'], .int .i64 er]) ∧ OwnR w.heap.size M A' c' w' ∧ Below w.heap.size w w'
theorem own_nil (B : Nat) (w : World) : OwnR B [] none 0 w := ⟨rfl, .inl ⟨rfl, rfl⟩⟩
def resS (size er : Int) : Int := if er = 0 then size else 0
def resM (M : List Te) (er : Int) : List Te := if er = 0 then M else []
theorem resS_er {size er : Int} (h : er ≠ 0) : resS size er = 0 := by unfold resS; rw [if_neg h]
theorem resM_er {M : List Te} {er : Int} (h : er ≠ 0) : resM M er = [] := by unfold resM; rw [if_neg h]
theorem OwnR.grown {B c : Nat} {L : List Te} {A : Option Addr} {w w' : World} (h : OwnR B L A c w) {r : Option Nat} (hg : w.grownBy w' r) (hne : ∀ g, A = some ⟨g, 0, none⟩ → some g ≠ r) : OwnR B L A c w' := by
  obtain ⟨hl, h | ⟨k, cap, cur, e, hk, hh, q⟩⟩ := h
  · exact ⟨hl, .inl h⟩
  · refine ⟨hl, .inr ⟨k, cap, cur, e, hk, (hg.block k (blk_lt hh) (hne k (by injection e))).trans hh, q⟩⟩
theorem RowT.ne {w : World} {g k c : Nat} {M : List Te} {cs : Array Value} (h : RowT w g c M) (hX : Box w k 24 cs) : k ≠ g := by
  rintro rfl
  obtain ⟨cur, h1, _⟩ := h
  unfold Box at hX
  rw [hX] at h1
  injection h1 with h1
  injection h1 with _ h3
  exact absurd h3 (by decide)
theorem Box.grown {w w' : World} {g : Nat} {t : TypeId} {cs : Array Value} (h : Box w g t cs) {r : Option Nat} (hg : w.grownBy w' r) (hne : some g ≠ r) : Box w' g t cs := (hg.block g h.lt hne).trans h
theorem OwnR.boxne {B c k : Nat} {L : List Te} {A : Option Addr} {w : World} {cs : Array Value} (h : OwnR B L A c w) (hX : Box w k 24 cs) : some k ≠ Value.ownBlock (.slice A L.length c) := by
  obtain ⟨hl, h | ⟨g, cap, cur, e, hk, hh, q⟩⟩ := h
  · obtain ⟨h, _⟩ := h
    rw [h]
    exact Option.some_ne_none _
  · rw [e]
    intro e2
    have e3 : k = g := by simpa [Value.ownBlock] using e2
    subst e3
    unfold Box at hX
    rw [hX] at hh
    injection hh with hh
    injection hh with _ h3
    exact absurd h3 (by decide)
theorem cell_three_new (w : World) (x y z : Value) (t : TypeId) : ∀ j u, [x, y, z][j]? = some u → (w.alloc (.cells #[x, y, z] t)).cell? ((⟨w.heap.size, 0, none⟩ : Addr).add j) = some u := by
  intro j u h
  match j, h with
  | 0, h => simp at h; subst h; simp [go_sem, Addr.add]
  | 1, h => simp at h; subst h; simp [go_sem, Addr.add]
  | 2, h => simp at h; subst h; simp [go_sem, Addr.add]
theorem new_any (size : Int) (w : World) : Calls Try.prog 14 #[.int .i64 size] w (TlbR (if szB size = true then size else 0) [] (if szB size = true then 0 else 1) w) := by
  have S1 := hide (fun w => size_any size w)
  unfold TlbR
  cases hs : szB size
  · rw [hs] at S1
    clear hs
    have X := hide (Box.new w 24 #[.int .i64 0, .slice none 0 0])
    go_enter Try.func14, Try.ntmps14
    go_wp2_with (go_at_call 30; refine (S1.out _).mono ?_; rintro e w' ⟨rfl, rfl⟩)
    exact ret_tlb2 Try.results14 rfl rfl rfl X.out ⟨none, 0, rfl, own_nil _ _, bal (brefl _) _⟩
  · rw [hs] at S1
    clear hs
    have X := hide (Box.new w 24 #[.int .i64 size, .slice none 0 0])
    go_enter Try.func14, Try.ntmps14
    go_wp2_with (go_at_call 30; refine (S1.out _).mono ?_; rintro e w' ⟨rfl, rfl⟩)
    exact ret_tlb2 Try.results14 rfl rfl rfl X.out ⟨none, 0, rfl, own_nil _ _, bal (brefl _) _⟩
end Go.Proofs.Ythoeolaleeogbaa.Tb
