import Derived.Test.YthoeolaleeogbaaPteWords
namespace Go.Proofs.Ythoeolaleeogbaa.Pt
open Go Go.RowKit
set_option linter.unusedVariables false
theorem pack_any (k n : Int) (wr ac di hu : Bool) (w : World) (h0 : 0 ≤ k) (h1 : k ≤ 4) (h2 : 0 ≤ n) (h3 : n ≤ 4294967295) :
    Calls Try.prog 65 #[.agg #[.int .i64 k, .int .i64 n, .bool wr, .bool ac, .bool di, .bool hu]] w fun e w' => e = .returned (.int .u64 (word0 k n wr ac di hu)) ∧ Below w.heap.size w w' := by
  go_enter Try.func65, Try.ntmps65
  go_wp2
  go_quiet ((go_at_call 68; exact quiet_left (flag_any _ _ _)))
  go_wp2
  go_ret
  exact ⟨ret_int (pack_a k n wr ac di hu h0 h1 h2 h3), below_drewN (bal (brefl _) _) _⟩
def Enc (k n : Int) (wr ac di hu : Bool) (w : World) (e : Ending) (w' : World) : Prop := e = .returned (.tuple #[.int .u64 (word k n wr ac di hu), .int .i64 (err k n wr ac di hu)]) ∧ Below w.heap.size w w'
theorem err_1 {k n : Int} {wr ac di hu : Bool} (h : ¬ (0 ≤ k ∧ k ≤ 4)) : err k n wr ac di hu = 1 ∧ word k n wr ac di hu = 0 := by
  have e : err k n wr ac di hu = 1 := by unfold err; rw [if_pos (by omega)]
  exact ⟨e, by unfold word; rw [if_neg (by omega)]⟩
theorem err_2 {k n : Int} {wr ac di hu : Bool} (h : 0 ≤ k ∧ k ≤ 4) (h2 : n < 0 ∨ last k hu < n) : err k n wr ac di hu = 2 ∧ word k n wr ac di hu = 0 := by
  have e : err k n wr ac di hu = 2 := by unfold err; rw [if_neg (by omega), if_pos h2]
  exact ⟨e, by unfold word; rw [if_neg (by omega)]⟩
theorem err_3 {k n : Int} {wr ac di hu : Bool} (h : 0 ≤ k ∧ k ≤ 4) (h2 : ¬ (n < 0 ∨ last k hu < n)) (h3 : suits k n wr ac di hu = false) : err k n wr ac di hu = 3 ∧ word k n wr ac di hu = 0 := by
  have e : err k n wr ac di hu = 3 := by unfold err; rw [if_neg (by omega), if_neg h2, if_neg (by rw [h3]; decide)]
  exact ⟨e, by unfold word; rw [if_neg (by omega)]⟩
theorem err_0 {k n : Int} {wr ac di hu : Bool} (h : 0 ≤ k ∧ k ≤ 4) (h2 : ¬ (n < 0 ∨ last k hu < n)) (h3 : suits k n wr ac di hu = true) : err k n wr ac di hu = 0 ∧ word k n wr ac di hu = word0 k n wr ac di hu := by
  have e : err k n wr ac di hu = 0 := by unfold err; rw [if_neg (by omega), if_neg h2, if_pos h3]
  exact ⟨e, by unfold word; rw [if_pos e]⟩
theorem enc_end {k n : Int} {wr ac di hu : Bool} {a b : Int} {w w' : World} (h : err k n wr ac di hu = b ∧ word k n wr ac di hu = a) (hb : Below w.heap.size w w') : Enc k n wr ac di hu w (.returned (.tuple #[.int .u64 a, .int .i64 b])) w' :=
  ⟨by rw [h.1, h.2], hb⟩
theorem kind_t (k : Int) (w : World) (h : 0 ≤ k ∧ k ≤ 4) : Calls Try.prog 62 #[.int .i64 k] w fun e w' => e = .returned (.bool true) ∧ w = w' := (kind_any k w).mono fun e w' ⟨he, hw⟩ => ⟨by rw [he, decide_eq_true h], hw⟩
theorem kind_f (k : Int) (w : World) (h : ¬ (0 ≤ k ∧ k ≤ 4)) : Calls Try.prog 62 #[.int .i64 k] w fun e w' => e = .returned (.bool false) ∧ w = w' := (kind_any k w).mono fun e w' ⟨he, hw⟩ => ⟨by rw [he, decide_eq_false h], hw⟩
theorem suits_t (k n : Int) (wr ac di hu : Bool) (w : World) (hk : 0 ≤ k ∧ k ≤ 4) (h : suits k n wr ac di hu = true) :
    Calls Try.prog 64 #[.agg #[.int .i64 k, .int .i64 n, .bool wr, .bool ac, .bool di, .bool hu]] w fun e w' => e = .returned (.bool true) ∧ Below w.heap.size w w' := (suits_any k n wr ac di hu w hk).mono fun e w' ⟨he, hw⟩ => ⟨by rw [he, h], hw⟩
theorem suits_f (k n : Int) (wr ac di hu : Bool) (w : World) (hk : 0 ≤ k ∧ k ≤ 4) (h : suits k n wr ac di hu = false) :
    Calls Try.prog 64 #[.agg #[.int .i64 k, .int .i64 n, .bool wr, .bool ac, .bool di, .bool hu]] w fun e w' => e = .returned (.bool false) ∧ Below w.heap.size w w' := (suits_any k n wr ac di hu w hk).mono fun e w' ⟨he, hw⟩ => ⟨by rw [he, h], hw⟩
theorem form_t (k n : Int) (wr ac di hu : Bool) (w : World) (hk : 0 ≤ k ∧ k ≤ 4) (h : suits k n wr ac di hu = true) :
    Calls Try.prog 66 #[.agg #[.int .i64 k, .int .i64 n, .bool wr, .bool ac, .bool di, .bool hu]] w fun e w' => e = .returned (.bool true) ∧ Below w.heap.size w w' := (form_any k n wr ac di hu w hk).mono fun e w' ⟨he, hw⟩ => ⟨by rw [he, h], hw⟩
theorem form_f (k n : Int) (wr ac di hu : Bool) (w : World) (hk : 0 ≤ k ∧ k ≤ 4) (h : suits k n wr ac di hu = false) :
    Calls Try.prog 66 #[.agg #[.int .i64 k, .int .i64 n, .bool wr, .bool ac, .bool di, .bool hu]] w fun e w' => e = .returned (.bool false) ∧ Below w.heap.size w w' := (form_any k n wr ac di hu w hk).mono fun e w' ⟨he, hw⟩ => ⟨by rw [he, h], hw⟩
def Ent (w : World) (g : Nat) (k n : Int) (wr ac di hu : Bool) : Prop := w.heap[g]? = some (.cells #[.int .i64 k, .int .i64 n, .bool wr, .bool ac, .bool di, .bool hu] 70 (0, 0))
section
variable {w w' : World} {g : Nat} {k n : Int} {wr ac di hu : Bool}
theorem Ent.new (w : World) (k n : Int) (wr ac di hu : Bool) : Ent (w.alloc (.cells #[.int .i64 k, .int .i64 n, .bool wr, .bool ac, .bool di, .bool hu] 70)) w.heap.size k n wr ac di hu := by
  unfold Ent
  show (w.heap.push _)[w.heap.size]? = _
  simp
theorem Ent.lt (h : Ent w g k n wr ac di hu) : g < w.heap.size := by
  rcases Nat.lt_or_ge g w.heap.size with h1 | h1
  · exact h1
  · unfold Ent at h; rw [Array.getElem?_eq_none h1] at h; cases h
theorem Ent.below (h : Ent w g k n wr ac di hu) (hb : Below w.heap.size w w') : Ent w' g k n wr ac di hu := (hb.block g h.lt).trans h
theorem Ent.cells (h : Ent w g k n wr ac di hu) : w.cell? ⟨g, 0, none⟩ = some (.int .i64 k) ∧ w.cell? ⟨g, 1, none⟩ = some (.int .i64 n) ∧ w.cell? ⟨g, 2, none⟩ = some (.bool wr) ∧ w.cell? ⟨g, 3, none⟩ = some (.bool ac) ∧ w.cell? ⟨g, 4, none⟩ = some (.bool di) ∧ w.cell? ⟨g, 5, none⟩ = some (.bool hu) := by
  unfold Ent at h; simp [World.cell?, h]
end
theorem Ent.free {w : World} {g : Nat} {k n : Int} {wr ac di hu : Bool} (h : Ent w g k n wr ac di hu) : w.frozen? ⟨g, 0, none⟩ = false ∧ w.frozen? ⟨g, 1, none⟩ = false ∧ w.frozen? ⟨g, 2, none⟩ = false ∧ w.frozen? ⟨g, 3, none⟩ = false ∧ w.frozen? ⟨g, 4, none⟩ = false ∧ w.frozen? ⟨g, 5, none⟩ = false := by
  unfold Ent at h; simp [World.frozen?, h]
theorem Ent.put {w : World} {g : Nat} {k n k' n' : Int} {wr ac di hu wr' ac' di' hu' : Bool} (h : Ent w g k' n' wr' ac' di' hu') :
    Ent ((((((w.setCell ⟨g, 0, none⟩ (.int .i64 k)).setCell ⟨g, 1, none⟩ (.int .i64 n)).setCell ⟨g, 2, none⟩ (.bool wr)).setCell ⟨g, 3, none⟩ (.bool ac)).setCell ⟨g, 4, none⟩ (.bool di)).setCell ⟨g, 5, none⟩ (.bool hu)) g k n wr ac di hu := by
  unfold Ent at h ⊢
  simp [World.setCell, Array.getElem?_modify, h]
theorem ret_ent {fn : Func} {a : Act} {W : World} {g : Nat} {e k n : Int} {wr ac di hu : Bool} {Q : Ending → World → Prop} (hr : fn.results = #[.cell 2 70, .tmp 3]) (h2 : a.tmps.getD 2 undef = .pointer (some ⟨g, 0, none⟩)) (h3 : a.tmps.getD 3 undef = .int .i64 e) (hd : a.defers = [])
    (hE : Ent W g k n wr ac di hu) (hq : Q (.returned (.tuple #[.agg #[.int .i64 k, .int .i64 n, .bool wr, .bool ac, .bool di, .bool hu], .int .i64 e])) W) : bodyPost Try.prog fn Q .ret a W := by
  obtain ⟨x0, x1, x2, x3, x4, x5⟩ := hE.cells
  simp only [Array.getD_eq_getD_getElem?] at h2 h3
  exact bodyPost_ret (v := .tuple #[.agg #[.int .i64 k, .int .i64 n, .bool wr, .bool ac, .bool di, .bool hu], .int .i64 e]) (by simp [results, hr, h2, h3, go_sem, x0, x1, x2, x3, x4, x5]) hd hq
set_option maxHeartbeats 1000000 in
theorem enc_any (k n : Int) (wr ac di hu : Bool) (w : World) :
    Calls Try.prog 60 #[.agg #[.int .i64 k, .int .i64 n, .bool wr, .bool ac, .bool di, .bool hu]] w (Enc k n wr ac di hu w) := by
  by_cases hk : 0 ≤ k ∧ k ≤ 4
  · by_cases hn : n < 0
    · have hd : decide (n < 0) = true := decide_eq_true hn
      have E := hide (err_2 (wr := wr) (ac := ac) (di := di) hk (.inl hn : n < 0 ∨ last k hu < n))
      go_enter Try.func60, Try.ntmps60
      go_wp2_with (go_at_call 62; refine (kind_t k _ hk).mono ?_; rintro e w' ⟨rfl, rfl⟩)
      go_quiet (fail)
      go_wp2
      go_ret2
      exact enc_end E.out (below_drewN (bal (brefl _) _) _)
    · have hd : decide (n < 0) = false := decide_eq_false hn
      have hn0 : 0 ≤ n := by omega
      have hl := last_bd k hu
      have HK := hide hk
      have K := hide (brefl w)
      have X := hide (Ent.new w k n wr ac di hu)
      by_cases hb : last k hu < n
      · have E := hide (err_2 (wr := wr) (ac := ac) (di := di) hk (.inr hb : n < 0 ∨ last k hu < n))
        have hd2 : decide (last k hu < n) = true := decide_eq_true hb
        clear hk hn hb
        go_enter Try.func60, Try.ntmps60
        go_wp2_with (go_at_call 62; refine (kind_t k _ HK.out).mono ?_; rintro e w' ⟨rfl, rfl⟩)
        have x0 := X.out.cells.1
        have x1 := X.out.cells.2.1
        have x2 := X.out.cells.2.2.1
        have x3 := X.out.cells.2.2.2.1
        have x4 := X.out.cells.2.2.2.2.1
        have x5 := X.out.cells.2.2.2.2.2
        have K := hide (brefl (w.alloc (.cells #[.int .i64 k, .int .i64 n, .bool wr, .bool ac, .bool di, .bool hu] 70)))
        go_region_held3 (fun w' => w'.cell? ⟨w.heap.size, 0, none⟩ = some (.int .i64 k) ∧ w'.cell? ⟨w.heap.size, 1, none⟩ = some (.int .i64 n) ∧ w'.cell? ⟨w.heap.size, 2, none⟩ = some (.bool wr) ∧ w'.cell? ⟨w.heap.size, 3, none⟩ = some (.bool ac) ∧ w'.cell? ⟨w.heap.size, 4, none⟩ = some (.bool di) ∧ w'.cell? ⟨w.heap.size, 5, none⟩ = some (.bool hu))
          (first | exact (X.out.below K.out).cells)
          (first | (go_at_call 63; refine (last_any k n wr ac di hu _).mono ?_; rintro e wk ⟨rfl, hbk⟩; replace K := hide (by first | exact btrans K.out hbk | exact btrans (below_drewN K.out _) hbk); clear hbk))
        all_goals
          go_wp2
          go_ret2
          exact enc_end E.out (btrans (bal (brefl _) _) (by first | exact K.out | exact below_drewN K.out _))
      · have HN : ¬ (n < 0 ∨ last k hu < n) := fun h => by rcases h with h | h <;> omega
        have hd2 : decide (last k hu < n) = false := decide_eq_false hb
        have hn1 : n ≤ 4294967295 := by omega
        have HN1 := hide hn1
        have HN0 := hide hn0
        by_cases hs : suits k n wr ac di hu = true
        · have E := hide (err_0 hk HN hs)
          have HS := hide hs
          clear hk hn hb HN hn0 hn1 hs
          go_enter Try.func60, Try.ntmps60
          go_wp2_with (go_at_call 62; refine (kind_t k _ HK.out).mono ?_; rintro e w' ⟨rfl, rfl⟩)
          have x0 := X.out.cells.1
          have x1 := X.out.cells.2.1
          have x2 := X.out.cells.2.2.1
          have x3 := X.out.cells.2.2.2.1
          have x4 := X.out.cells.2.2.2.2.1
          have x5 := X.out.cells.2.2.2.2.2
          have K := hide (brefl (w.alloc (.cells #[.int .i64 k, .int .i64 n, .bool wr, .bool ac, .bool di, .bool hu] 70)))
          go_region_held3 (fun w' => w'.cell? ⟨w.heap.size, 0, none⟩ = some (.int .i64 k) ∧ w'.cell? ⟨w.heap.size, 1, none⟩ = some (.int .i64 n) ∧ w'.cell? ⟨w.heap.size, 2, none⟩ = some (.bool wr) ∧ w'.cell? ⟨w.heap.size, 3, none⟩ = some (.bool ac) ∧ w'.cell? ⟨w.heap.size, 4, none⟩ = some (.bool di) ∧ w'.cell? ⟨w.heap.size, 5, none⟩ = some (.bool hu))
            (first | exact (X.out.below K.out).cells)
            (first | (go_at_call 63; refine (last_any k n wr ac di hu _).mono ?_; rintro e wk ⟨rfl, hbk⟩; replace K := hide (by first | exact btrans K.out hbk | exact btrans (below_drewN K.out _) hbk); clear hbk))
          all_goals
            replace K := hide (by first | exact K.out | exact below_drewN K.out _)
            clear x0 x1 x2 x3 x4 x5
            have x0 := (X.out.below K.out).cells.1
            have x1 := (X.out.below K.out).cells.2.1
            have x2 := (X.out.below K.out).cells.2.2.1
            have x3 := (X.out.below K.out).cells.2.2.2.1
            have x4 := (X.out.below K.out).cells.2.2.2.2.1
            have x5 := (X.out.below K.out).cells.2.2.2.2.2
            go_wp2_with fail
            refine (suits_t k n wr ac di hu _ HK.out HS.out).mono ?_
            rintro e w5 ⟨rfl, hb5⟩
            replace K := hide (btrans K.out hb5)
            clear hb5 x0 x1 x2 x3 x4 x5
            have x0 := (X.out.below K.out).cells.1
            have x1 := (X.out.below K.out).cells.2.1
            have x2 := (X.out.below K.out).cells.2.2.1
            have x3 := (X.out.below K.out).cells.2.2.2.1
            have x4 := (X.out.below K.out).cells.2.2.2.2.1
            have x5 := (X.out.below K.out).cells.2.2.2.2.2
            go_wp2_with fail
            refine (pack_any k n wr ac di hu _ HK.out.1 HK.out.2 HN0.out HN1.out).mono ?_
            rintro e w6 ⟨rfl, hb6⟩
            replace K := hide (btrans K.out hb6)
            clear hb6
            go_wp2_with fail
            go_ret2
            exact enc_end E.out (btrans (bal (brefl _) _) K.out)
        · have E := hide (err_3 hk HN (by simpa using hs))
          have HS := hide hs
          clear hk hn hb HN hn0 hn1 hs
          go_enter Try.func60, Try.ntmps60
          go_wp2_with (go_at_call 62; refine (kind_t k _ HK.out).mono ?_; rintro e w' ⟨rfl, rfl⟩)
          have x0 := X.out.cells.1
          have x1 := X.out.cells.2.1
          have x2 := X.out.cells.2.2.1
          have x3 := X.out.cells.2.2.2.1
          have x4 := X.out.cells.2.2.2.2.1
          have x5 := X.out.cells.2.2.2.2.2
          have K := hide (brefl (w.alloc (.cells #[.int .i64 k, .int .i64 n, .bool wr, .bool ac, .bool di, .bool hu] 70)))
          go_region_held3 (fun w' => w'.cell? ⟨w.heap.size, 0, none⟩ = some (.int .i64 k) ∧ w'.cell? ⟨w.heap.size, 1, none⟩ = some (.int .i64 n) ∧ w'.cell? ⟨w.heap.size, 2, none⟩ = some (.bool wr) ∧ w'.cell? ⟨w.heap.size, 3, none⟩ = some (.bool ac) ∧ w'.cell? ⟨w.heap.size, 4, none⟩ = some (.bool di) ∧ w'.cell? ⟨w.heap.size, 5, none⟩ = some (.bool hu))
            (first | exact (X.out.below K.out).cells)
            (first | (go_at_call 63; refine (last_any k n wr ac di hu _).mono ?_; rintro e wk ⟨rfl, hbk⟩; replace K := hide (by first | exact btrans K.out hbk | exact btrans (below_drewN K.out _) hbk); clear hbk))
          all_goals
            replace K := hide (by first | exact K.out | exact below_drewN K.out _)
            clear x0 x1 x2 x3 x4 x5
            have x0 := (X.out.below K.out).cells.1
            have x1 := (X.out.below K.out).cells.2.1
            have x2 := (X.out.below K.out).cells.2.2.1
            have x3 := (X.out.below K.out).cells.2.2.2.1
            have x4 := (X.out.below K.out).cells.2.2.2.2.1
            have x5 := (X.out.below K.out).cells.2.2.2.2.2
            go_wp2_with fail
            refine (suits_f k n wr ac di hu _ HK.out (by simpa using HS.out)).mono ?_
            rintro e w5 ⟨rfl, hb5⟩
            replace K := hide (btrans K.out hb5)
            clear hb5 x0 x1 x2 x3 x4 x5
            have x0 := (X.out.below K.out).cells.1
            have x1 := (X.out.below K.out).cells.2.1
            have x2 := (X.out.below K.out).cells.2.2.1
            have x3 := (X.out.below K.out).cells.2.2.2.1
            have x4 := (X.out.below K.out).cells.2.2.2.2.1
            have x5 := (X.out.below K.out).cells.2.2.2.2.2
            go_wp2_with fail
            go_ret2
            exact enc_end E.out (btrans (bal (brefl _) _) K.out)
  · have E := hide (err_1 (n := n) (wr := wr) (ac := ac) (di := di) (hu := hu) hk)
    go_enter Try.func60, Try.ntmps60
    go_wp2_with (go_at_call 62; refine (kind_f k _ hk).mono ?_; rintro e w' ⟨rfl, rfl⟩)
    go_ret2
    exact enc_end E.out (bal (brefl _) _)
end Go.Proofs.Ythoeolaleeogbaa.Pt
