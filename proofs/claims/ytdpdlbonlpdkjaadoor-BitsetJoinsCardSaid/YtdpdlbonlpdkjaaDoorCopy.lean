import Derived.Test.YtdpdlbonlpdkjaaDoorPut
namespace Go.Proofs.YtdpdlbonlpdkjaaDoor.Bs
open Go Go.RowKit
set_option linter.unusedVariables false
theorem step_append_own {P : Program} {w : World} {ops : Array Oper} {o : Oper} {a : Act} {K : Act → World → Prop} {Q : Exit → Act → World → Prop} {E : Prop} (hgd : o.guard = none) (s x : Operand) (t : TypeId)
    (ho : o.op = .call { callee := .builtin .append, args := #[s, x], argTypes := #[t, t] })
    (base : Nat) (e : TypeId) (i : TypeInfo) (z : Value) (size bytes : Nat) (ht : P.underlying t = some (.slice e)) (hi : P.info? e = some i) (hz : i.zero = some z)
    (hsize : i.size = size) (hby : i.bytes = bytes) (hzs : z.cells.size = size) (hsz : 0 < size)
    (v : Value) (n : Nat) (xs : List Value) (hs : a.eval s = v) (hown : w.ownsRow base e size v n xs)
    (ad : Addr) (m c : Nat) (news : List Value) (hx : a.eval x = .slice (some ad) m c) (hl : news.length = m * size) (hnews : ∀ j u, news[j]? = some u → w.cell? (ad.add j) = some u) (h1 : ∀ u ∈ news, u.oneCell' = true)
    (h63 : n + m ≤ maxLen) (hbytes : (n + m) * bytes ≤ 140737488355328) (hbase : base ≤ w.heap.size)
    (h : ∀ v' w', w'.ownsRow base e size v' (n + m) (xs ++ news) → w.grownBy w' v.ownBlock → K (a.put o.dst v') w') :
    if Region.wanted o (yielded ops a.tmps) = true then Oper.wp P o a w K Q else E := by
  have hw : Region.wanted o (yielded ops a.tmps) = true := by simp [Region.wanted, hgd]
  rw [if_pos hw]
  exact wp_append_own w s x t ho base e i z size bytes ht hi hz hsize hby hzs hsz v n xs hs hown ad m c news hx hl hnews h1 h63 hbytes hbase fun v' w' h2 h3 _ => h v' w' h2 h3
/-- A struct of the call's own in memory: a set of bits. -/
def BoxIs (w : World) (g : Nat) (s : Int) (v : Value) : Prop := w.heap[g]? = some (.cells #[.int .i64 s, v] 24 (0, 0))
theorem BoxIs.c0 {w : World} {g : Nat} {s : Int} {v : Value} (h : BoxIs w g s v) : w.cell? ⟨g, 0, none⟩ = some (.int .i64 s) := by unfold BoxIs at h; simp [World.cell?, h]
theorem BoxIs.c1 {w : World} {g : Nat} {s : Int} {v : Value} (h : BoxIs w g s v) : w.cell? ⟨g, 1, none⟩ = some v := by unfold BoxIs at h; simp [World.cell?, h]
theorem BoxIs.free {w : World} {g : Nat} {s : Int} {v : Value} (h : BoxIs w g s v) (j : Nat) : w.frozen? ⟨g, j, none⟩ = false := by unfold BoxIs at h; simp [World.frozen?, h]
theorem BoxIs.grown {w w' : World} {g : Nat} {s : Int} {v : Value} {r : Option Nat} (h : BoxIs w g s v) (hg : w.grownBy w' r) (hr : some g ≠ r) : BoxIs w' g s v := by
  have hlt : g < w.heap.size := by
    rcases Nat.lt_or_ge g w.heap.size with h1 | h1
    · exact h1
    · unfold BoxIs at h; rw [Array.getElem?_eq_none h1] at h; cases h
  exact (hg.block g hlt hr).trans h
theorem BoxIs.set1 {w : World} {g : Nat} {s : Int} {v u : Value} (h : BoxIs w g s v) : BoxIs (w.setCell ⟨g, 1, none⟩ u) g s u := by
  unfold BoxIs at h ⊢
  simp [World.setCell, Array.getElem?_modify, h]
theorem BoxIs.new (w : World) (s : Int) (v : Value) : BoxIs (w.alloc (.cells #[.int .i64 s, v] 24)) w.heap.size s v := by
  unfold BoxIs
  show (w.heap.push _)[w.heap.size]? = _
  simp
theorem row_form {w : World} {base n : Nat} {v : Value} {xs : List Value} (h : w.ownsRow base 42 1 v n xs) : ∃ A c, v = .slice A n c := by
  obtain ⟨_, h | ⟨g, cap, cur, e, _⟩⟩ := h
  · exact ⟨none, 0, by rw [h.1, h.2]⟩
  · exact ⟨_, _, e⟩
theorem row_ne {w : World} {base n g : Nat} {v : Value} {xs : List Value} (h : w.ownsRow base 42 1 v n xs) (hg : g < base) : some g ≠ v.ownBlock := by
  obtain ⟨_, h | ⟨g', cap, cur, e, hb, _⟩⟩ := h
  · rw [h.1]; simp [Value.ownBlock]
  · rw [e]; simp [Value.ownBlock]; omega
theorem row_below {w w' : World} {base n B : Nat} {v : Value} {xs : List Value} (h : w.ownsRow base 42 1 v n xs) (hg : w.grownBy w' v.ownBlock) (hB : B ≤ base) (hs : B ≤ w.heap.size) : Below B w w' :=
  ⟨hg.os, hg.tape, hg.output, hg.size, fun k hk => hg.block k (by omega) (row_ne h (by omega))⟩
theorem copy_any (s : Int) (A : Option Addr) (ws : List Nat) (c : Nat) (w : World) (hr : Wd w A ws) (hn : ws.length ≤ 64) :
    Calls Tryd.prog 36 #[.agg #[.int .i64 s, .slice A ws.length c]] w fun e w' => ∃ A' c', e = .returned (.agg #[.int .i64 s, .slice A' ws.length c']) ∧ Mine w.heap.size w' A' ws ∧ Below w.heap.size w w' := by
  obtain ⟨i0, hi0, hz0, hz1, hz2⟩ := info_parts info42
  have HR := hide hr
  clear hr
  go_enter Tryd.func36, Tryd.ntmps36
  go_wp2
  go_loopw [4] (fun i wr => ∃ (k : Nat) (A' : Option Addr) (c' : Nat), k ≤ ws.length ∧ i = .int .i64 k ∧ BoxIs wr (w.heap.size + 1 + 1) s (.slice A' k c') ∧ wr.ownsRow (w.heap.size + 1 + 1 + 1) 42 1 (.slice A' k c') k ((ws.take k).map uv) ∧
      Below (w.heap.size + 1 + 1) ((w.alloc (.cells #[.int .i64 s, .slice A ws.length c] 24)).alloc (.cells #[.int .i64 0, .slice none 0 0] 24)) wr) (fun i _ => ws.length - (intOf i).toNat)
  case atStart => exact ⟨0, none, 0, Nat.zero_le _, rfl, by have := BoxIs.new ((w.alloc (.cells #[.int .i64 s, .slice A ws.length c] 24)).alloc (.cells #[.int .i64 0, .slice none 0 0] 24)) s (.slice none 0 0); simpa using this, ⟨rfl, .inl ⟨rfl, rfl⟩⟩, (Below.refl _ _).alloc (by simp) _⟩
  case round =>
    obtain ⟨k, A', c', hk, rfl, hbx, hown, hb⟩ := hrel
    have c1 : wr.cell? ⟨w.heap.size, 1, none⟩ = some (.slice A ws.length c) := by rw [hb.cell (by show w.heap.size < _; omega)]; simp [go_sem]
    have HB := hide hb
    have HBX := hide hbx
    have HOWN := hide hown
    have d1 := hbx.c1
    have d2 := hbx.free 1
    clear hb hbx hown
    by_cases hlt : k < ws.length
    · obtain ⟨b, off, rfl, hbl, hcb⟩ := HR.out (by rintro rfl; simp at hlt)
      have e0 := hcb k _ (getD_of hlt)
      have e1 : wr.cell? ⟨b, off + k, none⟩ = some (.int .u64 (ws.getD k 0 : Nat)) := by
        rw [HB.out.cell (by show b < _; omega)]
        rw [World.cell?_alloc_lt _ _ _ (by show b < _; simp; omega), World.cell?_alloc_lt _ _ _ hbl]
        exact e0
      have hsz : w.heap.size + 1 + 1 < wr.heap.size := by
        rcases Nat.lt_or_ge (w.heap.size + 1 + 1) wr.heap.size with h1 | h1
        · exact h1
        · exfalso; have := HBX.out; unfold BoxIs at this; rw [Array.getElem?_eq_none h1] at this; cases this
      obtain ⟨x, hxe⟩ : ∃ x, x = ws.getD k 0 := ⟨_, rfl⟩
      rw [← hxe] at e1
      have HX := hide hxe
      clear hxe e0 hcb
      go_wp2
      go_region_law (refine step_append_own rfl (.tmp 16) (.tmp 22) 22 rfl (w.heap.size + 1 + 1 + 1) 42 i0 _ 1 8 Tryd.underlying22 hi0 hz0 hz1 hz2 rfl (by omega) (.slice A' k c') k ((ws.take k).map uv) rfl (by exact HOWN.out.alloc _) ⟨wr.heap.size, 0, none⟩ 1 1 [uv x] rfl rfl (by exact cell_one_new _ _ _) (by intro u hu; simp at hu; subst hu; rfl) (by simp only [maxLen]; omega) (by omega) (by show _ ≤ (World.alloc _ _).heap.size; simp; omega) ?_; intro v1 w1 hown1 hg1; obtain ⟨A1, n1, rfl⟩ := row_form hown1; have HO1 := hide hown1; clear hown1; have hb1 : BoxIs w1 (w.heap.size + 1 + 1) s (.slice A' k c') := (BoxIs.grown (by exact (HBX.out.grown (gdrew (galloc (grefl _ none) _)) (Option.some_ne_none _))) hg1 (row_ne HOWN.out (by omega))); have k1 := hb1.c1; have k2 := hb1.free 1; have HB1 := hide hb1; have HG1 := hide hg1; clear hb1 hg1)
      all_goals
        go_wp2
        go_roundw
        case rel =>
          refine ⟨k + 1, A1, n1, by omega, by go_num, HB1.out.set1, ?_, ?_⟩
          · have h2 : (ws.take (k + 1)).map uv = (ws.take k).map uv ++ [uv x] := by
              rw [List.take_add_one, List.map_append, getD_of hlt, HX.out]; rfl
            rw [h2]
            exact HO1.out.kept (gset (grefl _ _) 1 _) (.inr (fun e => row_ne HO1.out (by omega) e.symm))
          · exact (((HB.out.alloc (by omega) _).drew).trans (row_below (HOWN.out.alloc _).drew HG1.out (by omega) (by show _ ≤ (World.alloc _ _).heap.size; simp; omega))).setCell (Nat.le_refl _) _
        case measure => simp [intOf]; omega
    · have hke : k = ws.length := by omega
      have hm : Mine (w.heap.size + 1 + 1 + 1) wr A' ws := Mine.of_row (n := k) (c := c') (by have := HOWN.out; rwa [List.take_of_length_le (by omega)] at this)
      have d0 := HBX.out.c0
      have HM := hide hm
      clear hm
      obtain ⟨hcr, hfr⟩ := bcell (W := (w.alloc (.cells #[.int .i64 s, .slice A ws.length c] 24)).alloc (.cells #[.int .i64 0, .slice none 0 0] 24)) (w1 := wr) (by simpa using HB.out)
      subst hke
      go_wp2
      refine bodyPost_ret (v := .agg #[.int .i64 s, .slice A' ws.length c']) (by simp [results, Tryd.results36, go_sem, hcr]) rfl ⟨A', c', rfl, ?_, ?_⟩
      · exact (mine_far (mine_far HM.out (by show w.heap.size + 1 < _; omega) _) (by show w.heap.size + 1 < _; omega) _).mono (by omega)
      · exact bset (bset (btrans (bal (bal (brefl w) (.cells #[.int .i64 s, .slice A ws.length c] 24)) (.cells #[.int .i64 0, .slice none 0 0] 24)) (by simpa using HB.out)) (by show w.heap.size ≤ w.heap.size + 1; omega) _) (by show w.heap.size ≤ w.heap.size + 1; omega) _
end Go.Proofs.YtdpdlbonlpdkjaaDoor.Bs
