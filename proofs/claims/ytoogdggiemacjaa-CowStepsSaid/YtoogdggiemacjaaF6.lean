import Derived.Test.YtoogdggiemacjaaMem2
namespace Go.Proofs.Ytoogdggiemacjaa.Cw
open Go Go.RowKit
set_option linter.unusedVariables false
set_option linter.unusedSimpArgs false
theorem info53 : (Try.prog.info? 53).map (fun i => (i.zero, i.size, i.bytes)) = some (some (.agg #[.int .i64 0, .int .i64 0]), 2, 16) := by kernel_rfl
theorem info62 : (Try.prog.info? 62).map (fun i => (i.zero, i.size, i.bytes)) = some (some (.agg #[.bool false, .slice none 0 0]), 2, 32) := by kernel_rfl
theorem info64 : (Try.prog.info? 64).map (fun i => (i.zero, i.size, i.bytes)) = some (some (.agg #[.int .i64 0, .bool false]), 2, 16) := by kernel_rfl
theorem below_row {base n size : Nat} {t : TypeId} {v : Value} {xs : List Value} {w w' : World} (h : w.ownsRow base t size v n xs) (hg : w.grownBy w' v.ownBlock) (hs : base ≤ w.heap.size) : Below base w w' :=
  (Kp.grown (B := base) h hg (Nat.le_refl _) hs).below
theorem own_row64 (w : World) : (w.alloc (.cells #[] 64)).ownsRow w.heap.size 64 2 (.slice (some ⟨w.heap.size, 0, none⟩) 0 0) 0 [] :=
  World.ownsRow_made w #[] 0 (Nat.le_refl _) (Nat.zero_le _) (by simp)
theorem clonep_some (a : Addr) (n c : Nat) (xs : List Value) (w : World) (hl : xs.length = n * 2) (hx : ∀ j u, xs[j]? = some u → (w.alloc (.cells #[] 64)).cell? (a.add j) = some u) (h1 : ∀ u ∈ xs, u.oneCell' = true) (hn : n ≤ 1000) :
    Calls Try.prog 54 #[.slice (some a) n c] w fun e w' => ∃ A' c', e = .returned (.slice A' n c') ∧ w'.ownsRow w.heap.size 64 2 (.slice A' n c') n xs ∧ Below w.heap.size w w' := by
  obtain ⟨i0, hi0, hz0, hz1, hz2⟩ := info_parts info64
  have HR := hide hx
  clear hx
  have q35 : ∀ (w : World) (a : Option Addr) (n c n' c' : Nat), (binOp .eql 60 (.slice a n c) (.slice none n' c')).run Try.prog w = .ok (.bool a.isNone) w := fun w a n c n' c' => Lib.run_eql_slice_nil w _ _ a n c n' c' Try.underlying60
  go_enter Try.func54, Try.ntmps54
  go_wp2_with (at_builtin; refine wpList_append_own _ rfl (.tmp 5) (.tmp 6) _ rfl w.heap.size 64 i0 _ 2 16 Try.underlying60 hi0 hz0 hz1 hz2 rfl (by omega) (.slice (some ⟨w.heap.size, 0, none⟩) 0 0) 0 [] rfl (own_row64 w) a n c xs rfl hl (fun j u hu => HR.out j u hu) h1 (by simp only [maxLen]; omega) (by omega) (by simp) ?_; intro v1 w1 hown1 hg1 hat1; obtain ⟨A1, n1, rfl, _⟩ := row_form hown1; have HB := hide (show Below w.heap.size w w1 from (bal (brefl w) _).trans (below_row (own_row64 w) hg1 (by simp))); have HM := hide hown1; clear hown1 hg1 hat1)
  go_wp2
  go_ret
  rw [Nat.zero_add, List.nil_append] at HM
  exact ⟨A1, n1, rfl, HM.out, HB.out⟩
theorem clonep_nil (c : Nat) (w : World) : Calls Try.prog 54 #[.slice none 0 c] w fun e w' => ∃ A' c', e = .returned (.slice A' 0 c') ∧ w'.ownsRow w.heap.size 64 2 (.slice A' 0 c') 0 [] ∧ Below w.heap.size w w' := by
  have q35 : ∀ (w : World) (a : Option Addr) (n c n' c' : Nat), (binOp .eql 60 (.slice a n c) (.slice none n' c')).run Try.prog w = .ok (.bool a.isNone) w := fun w a n c n' c' => Lib.run_eql_slice_nil w _ _ a n c n' c' Try.underlying60
  go_enter Try.func54, Try.ntmps54
  go_wp2
  go_ret
  exact ⟨none, 0, rfl, ⟨rfl, .inl ⟨rfl, rfl⟩⟩, brefl _⟩
theorem own_row53 (w : World) : (w.alloc (.cells #[] 53)).ownsRow w.heap.size 53 2 (.slice (some ⟨w.heap.size, 0, none⟩) 0 0) 0 [] :=
  World.ownsRow_made w #[] 0 (Nat.le_refl _) (Nat.zero_le _) (by simp)
theorem clonef_some (a : Addr) (n c : Nat) (xs : List Value) (w : World) (hl : xs.length = n * 2) (hx : ∀ j u, xs[j]? = some u → (w.alloc (.cells #[] 53)).cell? (a.add j) = some u) (h1 : ∀ u ∈ xs, u.oneCell' = true) (hn : n ≤ 1000) :
    Calls Try.prog 62 #[.slice (some a) n c] w fun e w' => ∃ A' c', e = .returned (.slice A' n c') ∧ w'.ownsRow w.heap.size 53 2 (.slice A' n c') n xs ∧ Below w.heap.size w w' := by
  obtain ⟨i0, hi0, hz0, hz1, hz2⟩ := info_parts info53
  have HR := hide hx
  clear hx
  have q35 : ∀ (w : World) (a : Option Addr) (n c n' c' : Nat), (binOp .eql 26 (.slice a n c) (.slice none n' c')).run Try.prog w = .ok (.bool a.isNone) w := fun w a n c n' c' => Lib.run_eql_slice_nil w _ _ a n c n' c' Try.underlying26
  go_enter Try.func62, Try.ntmps62
  go_wp2_with (at_builtin; refine wpList_append_own _ rfl (.tmp 5) (.tmp 6) _ rfl w.heap.size 53 i0 _ 2 16 Try.underlying26 hi0 hz0 hz1 hz2 rfl (by omega) (.slice (some ⟨w.heap.size, 0, none⟩) 0 0) 0 [] rfl (own_row53 w) a n c xs rfl hl (fun j u hu => HR.out j u hu) h1 (by simp only [maxLen]; omega) (by omega) (by simp) ?_; intro v1 w1 hown1 hg1 hat1; obtain ⟨A1, n1, rfl, _⟩ := row_form hown1; have HB := hide (show Below w.heap.size w w1 from (bal (brefl w) _).trans (below_row (own_row53 w) hg1 (by simp))); have HM := hide hown1; clear hown1 hg1 hat1)
  go_wp2
  go_ret
  rw [Nat.zero_add, List.nil_append] at HM
  exact ⟨A1, n1, rfl, HM.out, HB.out⟩
theorem clonef_nil (c : Nat) (w : World) : Calls Try.prog 62 #[.slice none 0 c] w fun e w' => ∃ A' c', e = .returned (.slice A' 0 c') ∧ w'.ownsRow w.heap.size 53 2 (.slice A' 0 c') 0 [] ∧ Below w.heap.size w w' := by
  have q35 : ∀ (w : World) (a : Option Addr) (n c n' c' : Nat), (binOp .eql 26 (.slice a n c) (.slice none n' c')).run Try.prog w = .ok (.bool a.isNone) w := fun w a n c n' c' => Lib.run_eql_slice_nil w _ _ a n c n' c' Try.underlying26
  go_enter Try.func62, Try.ntmps62
  go_wp2
  go_ret
  exact ⟨none, 0, rfl, ⟨rfl, .inl ⟨rfl, rfl⟩⟩, brefl _⟩
theorem own_row62 (w : World) : (w.alloc (.cells #[] 62)).ownsRow w.heap.size 62 2 (.slice (some ⟨w.heap.size, 0, none⟩) 0 0) 0 [] :=
  World.ownsRow_made w #[] 0 (Nat.le_refl _) (Nat.zero_le _) (by simp)
theorem clones_some (a : Addr) (n c : Nat) (xs : List Value) (w : World) (hl : xs.length = n * 2) (hx : ∀ j u, xs[j]? = some u → (w.alloc (.cells #[] 62)).cell? (a.add j) = some u) (h1 : ∀ u ∈ xs, u.oneCell' = true) (hn : n ≤ 1000) :
    Calls Try.prog 63 #[.slice (some a) n c] w fun e w' => ∃ A' c', e = .returned (.slice A' n c') ∧ w'.ownsRow w.heap.size 62 2 (.slice A' n c') n xs ∧ Below w.heap.size w w' := by
  obtain ⟨i0, hi0, hz0, hz1, hz2⟩ := info_parts info62
  have HR := hide hx
  clear hx
  have q35 : ∀ (w : World) (a : Option Addr) (n c n' c' : Nat), (binOp .eql 25 (.slice a n c) (.slice none n' c')).run Try.prog w = .ok (.bool a.isNone) w := fun w a n c n' c' => Lib.run_eql_slice_nil w _ _ a n c n' c' Try.underlying25
  go_enter Try.func63, Try.ntmps63
  go_wp2_with (at_builtin; refine wpList_append_own _ rfl (.tmp 5) (.tmp 6) _ rfl w.heap.size 62 i0 _ 2 32 Try.underlying25 hi0 hz0 hz1 hz2 rfl (by omega) (.slice (some ⟨w.heap.size, 0, none⟩) 0 0) 0 [] rfl (own_row62 w) a n c xs rfl hl (fun j u hu => HR.out j u hu) h1 (by simp only [maxLen]; omega) (by omega) (by simp) ?_; intro v1 w1 hown1 hg1 hat1; obtain ⟨A1, n1, rfl, _⟩ := row_form hown1; have HB := hide (show Below w.heap.size w w1 from (bal (brefl w) _).trans (below_row (own_row62 w) hg1 (by simp))); have HM := hide hown1; clear hown1 hg1 hat1)
  go_wp2
  go_ret
  rw [Nat.zero_add, List.nil_append] at HM
  exact ⟨A1, n1, rfl, HM.out, HB.out⟩
theorem clones_nil (c : Nat) (w : World) : Calls Try.prog 63 #[.slice none 0 c] w fun e w' => ∃ A' c', e = .returned (.slice A' 0 c') ∧ w'.ownsRow w.heap.size 62 2 (.slice A' 0 c') 0 [] ∧ Below w.heap.size w w' := by
  have q35 : ∀ (w : World) (a : Option Addr) (n c n' c' : Nat), (binOp .eql 25 (.slice a n c) (.slice none n' c')).run Try.prog w = .ok (.bool a.isNone) w := fun w a n c n' c' => Lib.run_eql_slice_nil w _ _ a n c n' c' Try.underlying25
  go_enter Try.func63, Try.ntmps63
  go_wp2
  go_ret
  exact ⟨none, 0, rfl, ⟨rfl, .inl ⟨rfl, rfl⟩⟩, brefl _⟩
theorem news_more {w : World} {b off : Nat} {xs : List Value} (hb : b < w.heap.size) (t : TypeId) (hx : ∀ j u, xs[j]? = some u → w.cell? ((⟨b, off, none⟩ : Addr).add j) = some u) (j : Nat) (u : Value) (hu : xs[j]? = some u) : (w.alloc (.cells #[] t)).cell? ((⟨b, off, none⟩ : Addr).add j) = some u := by
  have := hx j u hu
  rw [add_at] at this ⊢
  exact ((bal (brefl w) (.cells #[] t)).cell (p := ⟨b, off + j, none⟩) hb).trans this
theorem clonep_any (v : Value) (L : List Pg) (w : World) (h : IsP w v L) (hn : L.length ≤ 1000) : Calls Try.prog 54 #[v] w fun e w' => ∃ A' c', e = .returned (.slice A' L.length c') ∧ w'.ownsRow w.heap.size 64 2 (.slice A' L.length c') L.length (pcs L) ∧ Below w.heap.size w w' := by
  obtain ⟨A, c, rfl, hc, hr⟩ := h
  rcases A with _ | ⟨b, off, fp⟩
  · have hL : L = [] := by
      rcases L with _ | ⟨x, xs⟩
      · rfl
      · obtain ⟨b, off, e, _⟩ := hr (by simp)
        cases e
    subst hL
    exact clonep_nil c w
  · rcases hL : L with _ | ⟨x, xs⟩
    · subst hL
      exact clonep_some ⟨b, off, fp⟩ 0 c [] w rfl (fun j u hu => by simp at hu) (by simp) (by omega)
    · rw [← hL]
      obtain ⟨b2, off2, e, hb, hx⟩ := hr (by rw [hL]; simp)
      injection e with e
      rw [e]
      refine clonep_some ⟨b2, off2, none⟩ L.length c (pcs L) w (c2_length L) (news_more hb _ (c2_news fun k hk => ?_)) (c2_one fun x _ => ⟨rfl, rfl⟩) hn
      rw [← pAt_get hk]
      exact hx k hk
theorem clonef_any (A : Option Addr) (L : List Fr) (c : Nat) (w : World) (hr : RdF w A L) (h1 : 1 ≤ L.length) (hn : L.length ≤ 1000) : Calls Try.prog 62 #[.slice A L.length c] w fun e w' => ∃ A' c', e = .returned (.slice A' L.length c') ∧ w'.ownsRow w.heap.size 53 2 (.slice A' L.length c') L.length (fcs L) ∧ Below w.heap.size w w' := by
  obtain ⟨b, off, rfl, hb, hx⟩ := hr (by rintro rfl; simp at h1)
  refine clonef_some ⟨b, off, none⟩ L.length c (fcs L) w (c2_length L) (news_more hb _ (c2_news fun k hk => ?_)) (c2_one fun x _ => ⟨rfl, rfl⟩) hn
  rw [← fAt_get hk]
  exact hx k hk
/-- the spaces as they lie, with their slices -/
theorem clones_any (A : Option Addr) (L : List Sp) (c : Nat) (w0 w : World) (h0 : Below w0.heap.size w0 w) (hr : RdS w0 A L) (h1 : 1 ≤ L.length) (hn : L.length ≤ 1000) : Calls Try.prog 63 #[.slice A L.length c] w fun e w' => ∃ A' c' T, e = .returned (.slice A' L.length c') ∧ w'.ownsRow w.heap.size 62 2 (.slice A' L.length c') L.length (tcs T) ∧ Below w.heap.size w w' ∧ T.length = L.length ∧ ∀ k, k < L.length → (tAt T k).1 = (sAt L k).1 ∧ IsP w0 (tAt T k).2 (sAt L k).2 := by
  obtain ⟨b, off, rfl, hb, hx⟩ := hr (by rintro rfl; simp at h1)
  obtain ⟨T, hT, hTk⟩ : ∃ T : Tb, T.length = L.length ∧ ∀ k, k < L.length → (tAt T k).1 = (sAt L k).1 ∧ w0.cell? ⟨b, off + k * 2 + 1, none⟩ = some (tAt T k).2 ∧ IsP w0 (tAt T k).2 (sAt L k).2 := by
    refine ⟨(List.range L.length).map fun k => ((sAt L k).1, (w0.cell? ⟨b, off + k * 2 + 1, none⟩).getD undef), by simp, fun k hk => ?_⟩
    obtain ⟨v, _, h1, h2⟩ := hx k hk
    have e : tAt ((List.range L.length).map fun k => ((sAt L k).1, (w0.cell? ⟨b, off + k * 2 + 1, none⟩).getD undef)) k = ((sAt L k).1, v) := by
      unfold tAt
      rw [List.getD_eq_getElem?_getD, List.getElem?_map, List.getElem?_range hk, Option.map_some, Option.getD_some, h1]; rfl
    rw [e]
    exact ⟨rfl, h1, h2⟩
  refine (clones_some ⟨b, off, none⟩ L.length c (tcs T) w (by unfold tcs; rw [c2_length, hT]) (news_more (Nat.lt_of_lt_of_le hb h0.size) _ (c2_news fun k hk => ?_)) (c2_one fun x hx => ?_) hn).mono ?_
  · rw [hT] at hk
    obtain ⟨v, hc0, _, _⟩ := hx k hk
    obtain ⟨e1, e2, _⟩ := hTk k hk
    rw [← tAt_get (by rw [hT]; exact hk), e1]
    exact ⟨(h0.cell (p := ⟨b, _, none⟩) hb).trans hc0, (h0.cell (p := ⟨b, _, none⟩) hb).trans e2⟩
  · obtain ⟨k, hk, rfl⟩ := List.mem_iff_getElem.1 hx
    obtain ⟨_, _, A, c, e, _⟩ := hTk k (by rw [← hT]; exact hk)
    rw [tAt_get hk] at e
    rw [e]
    exact ⟨rfl, rfl⟩
  · rintro e w' ⟨A', c', rfl, ho, hb⟩
    exact ⟨A', c', T, rfl, ho, hb, hT, fun k hk => ⟨(hTk k hk).1, (hTk k hk).2.2⟩⟩
end Go.Proofs.Ytoogdggiemacjaa.Cw
