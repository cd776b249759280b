import Derived.Test.YtncdilkcblakhaaDCt1
namespace Go.Proofs.Ytncdilkcblakhaa.Dv
open Go Go.RowKit
set_option linter.unusedVariables false
/-- rows of cached blocks and of requests, whose data have a property -/
def RdCP (P : Value → By → Prop) (w : World) (A : Option Addr) (L : List Ca) : Prop :=
  L ≠ [] → ∃ b off, A = some ⟨b, off, none⟩ ∧ b < w.heap.size ∧ ∀ k, k < L.length → ∃ v, w.cell? ⟨b, off + k * 2, none⟩ = some (.int .i64 (cAt L k).1) ∧ w.cell? ⟨b, off + k * 2 + 1, none⟩ = some v ∧ P v (cAt L k).2
def RdQP (P : Value → By → Prop) (w : World) (A : Option Addr) (L : List Rq) : Prop :=
  L ≠ [] → ∃ b off, A = some ⟨b, off, none⟩ ∧ b < w.heap.size ∧ ∀ k, k < L.length → ∃ v, w.cell? ⟨b, off + k * 4, none⟩ = some (.int .i64 (qAt L k).1) ∧ w.cell? ⟨b, off + k * 4 + 1, none⟩ = some (.int .i64 (qAt L k).2.1) ∧ w.cell? ⟨b, off + k * 4 + 2, none⟩ = some (.int .i64 (qAt L k).2.2.1) ∧ w.cell? ⟨b, off + k * 4 + 3, none⟩ = some v ∧ P v (qAt L k).2.2.2
def Slc (P : Value → By → Prop) : Prop := ∀ v l, P v l → ∃ A c, v = .slice A l.length c
section
variable {P : Value → By → Prop} {w w' : World} {A : Option Addr}
theorem RdC.cp {L : List Ca} (h : RdC w A L) : RdCP (IsBs w) w A L := h
theorem RdQ.qp {L : List Rq} (h : RdQ w A L) : RdQP (IsBs w) w A L := h
theorem RdCP.below {L : List Ca} (h : RdCP P w A L) (hb : Below w.heap.size w w') : RdCP P w' A L := fun hn => by
  obtain ⟨b, off, e, hl, hc⟩ := h hn
  refine ⟨b, off, e, Nat.lt_of_lt_of_le hl hb.size, fun k hk => ?_⟩
  obtain ⟨v, h1, h2, h3⟩ := hc k hk
  exact ⟨v, (hb.cell (p := ⟨b, _, none⟩) hl).trans h1, (hb.cell (p := ⟨b, _, none⟩) hl).trans h2, h3⟩
theorem RdQP.below {L : List Rq} (h : RdQP P w A L) (hb : Below w.heap.size w w') : RdQP P w' A L := fun hn => by
  obtain ⟨b, off, e, hl, hc⟩ := h hn
  refine ⟨b, off, e, Nat.lt_of_lt_of_le hl hb.size, fun k hk => ?_⟩
  obtain ⟨v, h1, h2, h3, h4, h5⟩ := hc k hk
  exact ⟨v, (hb.cell (p := ⟨b, _, none⟩) hl).trans h1, (hb.cell (p := ⟨b, _, none⟩) hl).trans h2, (hb.cell (p := ⟨b, _, none⟩) hl).trans h3, (hb.cell (p := ⟨b, _, none⟩) hl).trans h4, h5⟩
theorem RdQP.cells {L : List Rq} (h : RdQP P w A L) (hb : Below w.heap.size w w') {k : Nat} (hk : k < L.length) : ∃ b off v, A = some ⟨b, off, none⟩ ∧ b < w.heap.size ∧ w'.cell? ⟨b, off + k * 4, none⟩ = some (.int .i64 (qAt L k).1) ∧ w'.cell? ⟨b, off + k * 4 + 1, none⟩ = some (.int .i64 (qAt L k).2.1) ∧ w'.cell? ⟨b, off + k * 4 + 2, none⟩ = some (.int .i64 (qAt L k).2.2.1) ∧ w'.cell? ⟨b, off + k * 4 + 3, none⟩ = some v ∧ P v (qAt L k).2.2.2 := by
  obtain ⟨b, off, e, hl, hc⟩ := h (by rintro rfl; simp at hk)
  obtain ⟨v, h1, h2, h3, h4, h5⟩ := hc k hk
  exact ⟨b, off, v, e, hl, (hb.cell (p := ⟨b, _, none⟩) hl).trans h1, (hb.cell (p := ⟨b, _, none⟩) hl).trans h2, (hb.cell (p := ⟨b, _, none⟩) hl).trans h3, (hb.cell (p := ⟨b, _, none⟩) hl).trans h4, h5⟩
theorem OwnC.cp {B n c : Nat} {L : List Ca} (h : OwnC B w (.slice A n c) L) : RdCP (OwnBy w) w A L := fun hn => by
  obtain ⟨R, e, hr, ho⟩ := h
  have hl : R.length = L.length := by rw [← e, List.length_map]
  obtain ⟨A', c', e1, _⟩ := row_form hr
  injection e1 with e1 e2 e3
  subst e1 e2 e3
  obtain ⟨g, rfl, hg, _, hc, _⟩ := row_cell hr (fun h0 => hn (List.eq_nil_of_length_eq_zero h0))
  refine ⟨g, 0, rfl, hg, fun k hk => ⟨(R[k]'(by omega)).2.2, ?_, ?_, ?_⟩⟩
  · have : (cAt L k).1 = (R[k]'(by omega)).1 := by rw [cAt_get hk]; simp [← e, pcC]
    rw [this, Nat.zero_add]; exact hc _ _ (cC_at (by omega)).1
  · have q := hc _ _ (cC_at (R := R) (k := k) (by omega)).2
    rw [Nat.zero_add]; exact q
  · have : (cAt L k).2 = (R[k]'(by omega)).2.1 := by rw [cAt_get hk]; simp [← e, pcC]
    rw [this]
    exact ho _ (List.getElem_mem _)
theorem OwnQ.qp {B n c : Nat} {L : List Rq} (h : OwnQ B w (.slice A n c) L) : RdQP (OwnBy w) w A L := fun hn => by
  obtain ⟨R, e, hr, ho⟩ := h
  have hl : R.length = L.length := by rw [← e, List.length_map]
  obtain ⟨A', c', e1, _⟩ := row_form hr
  injection e1 with e1 e2 e3
  subst e1 e2 e3
  obtain ⟨g, rfl, hg, _, hc, _⟩ := row_cell hr (fun h0 => hn (List.eq_nil_of_length_eq_zero h0))
  refine ⟨g, 0, rfl, hg, fun k hk => ?_⟩
  have hq : qAt L k = pqQ (R[k]'(by omega)) := by rw [qAt_get hk]; simp [← e]
  obtain ⟨c0, c1, c2, c3⟩ := cQ_at (R := R) (k := k) (by omega)
  rw [hq]
  refine ⟨(R[k]'(by omega)).2.2.2.2, ?_, ?_, ?_, ?_, ho _ (List.getElem_mem _)⟩
  · rw [Nat.zero_add]; exact hc _ _ c0
  · rw [Nat.zero_add]; exact hc _ _ c1
  · rw [Nat.zero_add]; exact hc _ _ c2
  · rw [Nat.zero_add]; exact hc _ _ c3
theorem cC_one {R : List PC} (hP : ∀ r ∈ R, ∃ l : By, ∃ A c, r.2.2 = .slice A l.length c) : ∀ u ∈ cC R, u.oneCell' = true := by
  induction R with
  | nil => intro u hu; cases hu
  | cons r R ih =>
    intro u hu
    simp only [cC, List.mem_cons] at hu
    rcases hu with rfl | rfl | hu
    · rfl
    · obtain ⟨l, A, c, e⟩ := hP r (by simp)
      rw [e]; rfl
    · exact ih (fun r hr => hP r (by simp [hr])) u hu
/-- the values behind a row -/
theorem RdCP.rows {L : List Ca} {a : Addr} (h : RdCP P w (some a) L) : ∃ R : List PC, R.map pcC = L ∧ (∀ r ∈ R, P r.2.2 r.2.1) ∧ ∀ j u, (cC R)[j]? = some u → w.cell? (a.add j) = some u := by
  by_cases hL : L = []
  · subst hL; exact ⟨[], rfl, fun r hr => (by cases hr), fun j u hu => (by simp [cC] at hu)⟩
  obtain ⟨b, off, e, hl, hc⟩ := h hL
  injection e with e
  subst e
  obtain ⟨f, hf⟩ := Go.Deep.choose_lt (α := Value) (n := L.length) hc
  have hlen : ((List.range L.length).map fun k => ((cAt L k).1, (cAt L k).2, f k)).length = L.length := by simp
  refine ⟨(List.range L.length).map fun k => ((cAt L k).1, (cAt L k).2, f k), ?_, fun r hr => ?_, fun j u hu => ?_⟩
  · apply List.ext_getElem
    · simp
    · intro i h1 h2
      simp only [List.getElem_map, List.getElem_range, pcC]
      rw [← cAt_get h2]
  · obtain ⟨k, hk, rfl⟩ := List.mem_map.1 hr
    exact (hf k (List.mem_range.1 hk)).2.2
  · have hj : j < L.length * 2 := by
      rcases Nat.lt_or_ge j (L.length * 2) with h | h
      · exact h
      · rw [List.getElem?_eq_none (by rw [cC_length, hlen]; exact h)] at hu; cases hu
    have hk : j / 2 < L.length := by omega
    obtain ⟨t0, t1⟩ := cC_at (R := (List.range L.length).map fun k => ((cAt L k).1, (cAt L k).2, f k)) (k := j / 2) (by rw [hlen]; exact hk)
    obtain ⟨c0, c1, _⟩ := hf (j / 2) hk
    rw [add_at']
    rcases (by omega : j = j / 2 * 2 ∨ j = j / 2 * 2 + 1) with h | h
    · rw [h] at hu ⊢
      rw [t0] at hu
      injection hu with hu
      rw [← hu]
      simpa using c0
    · rw [h] at hu ⊢
      rw [t1] at hu
      injection hu with hu
      rw [← hu, ← Nat.add_assoc]
      simpa using c1
end
/-- a row of cached blocks of one's own, whose data have a property -/
def CaR (P : Value → By → Prop) (L : List Ca) (w : World) (e : Ending) (w' : World) : Prop := ∃ (v : Value) (R : List PC), e = .returned v ∧ R.map pcC = L ∧ w'.ownsRow w.heap.size 89 2 v L.length (cC R) ∧ (∀ r ∈ R, P r.2.2 r.2.1) ∧ Below w.heap.size w w'
theorem own_row64 (w : World) : (w.alloc (.cells #[] 89)).ownsRow w.heap.size 89 2 (.slice (some ⟨w.heap.size, 0, none⟩) 0 0) 0 [] :=
  World.ownsRow_made w #[] 0 (Nat.le_refl _) (Nat.zero_le _) (by simp)
theorem sclone_some (P : Value → By → Prop) (hS : Slc P) (a : Addr) (L : List Ca) (c : Nat) (w : World) (hr : RdCP P w (some a) L) (hn : L.length ≤ 1000) : Calls Try.prog 62 #[.slice (some a) L.length c] w (CaR P L w) := by
  obtain ⟨i0, hi0, hz0, hz1, hz2⟩ := info_parts info89
  obtain ⟨R, hR, hP, hc⟩ := (hr.below (bal (brefl w) (.cells #[] 89))).rows
  have HR := hide hR
  have HP := hide hP
  have NW := hide hc
  have O1 := hide (cC_one (R := R) fun r hr => ⟨r.2.1, hS _ _ (hP r hr)⟩)
  have LR := hide (show (cC R).length = L.length * 2 by rw [cC_length, ← hR, List.length_map])
  clear hr hR hP hc
  have q25 : ∀ (w : World) (a : Option Addr) (n c n' c' : Nat), (binOp .eql 54 (.slice a n c) (.slice none n' c')).run Try.prog w = .ok (.bool a.isNone) w := fun w a n c n' c' => Lib.run_eql_slice_nil w _ _ a n c n' c' Try.underlying54
  go_enter Try.func62, Try.ntmps62
  go_wp2_with (at_builtin; refine wpList_append_own _ rfl (.tmp 5) (.tmp 6) _ rfl w.heap.size 89 i0 _ 2 32 Try.underlying54 hi0 hz0 hz1 hz2 rfl (by omega) (.slice (some ⟨w.heap.size, 0, none⟩) 0 0) 0 [] rfl (own_row64 w) a L.length c (cC R) rfl LR.out NW.out O1.out (by simp only [maxLen]; omega) (by omega) (by simp) ?_; intro v1 w1 hown1 hg1 hat1; obtain ⟨A1, n1, rfl, _⟩ := row_form hown1; have HB := hide (show Below w.heap.size w w1 from (bal (brefl w) _).trans (row_grown (own_row64 w) hg1 (by simp))); have HM := hide hown1; clear hown1 hg1 hat1)
  go_wp2
  go_ret
  rw [Nat.zero_add, List.nil_append] at HM
  exact ⟨_, R, rfl, HR.out, HM.out, HP.out, HB.out⟩
theorem sclone_any (P : Value → By → Prop) (hS : Slc P) (A : Option Addr) (L : List Ca) (c : Nat) (w : World) (hr : RdCP P w A L) (hn : L.length ≤ 1000) : Calls Try.prog 62 #[.slice A L.length c] w (CaR P L w) := by
  rcases A with _ | a
  · have hL : L = [] := by
      rcases L with _ | ⟨x, xs⟩
      · rfl
      · obtain ⟨b, off, e, _⟩ := hr (by simp)
        cases e
    subst hL
    have q25 : ∀ (w : World) (a : Option Addr) (n c n' c' : Nat), (binOp .eql 54 (.slice a n c) (.slice none n' c')).run Try.prog w = .ok (.bool a.isNone) w := fun w a n c n' c' => Lib.run_eql_slice_nil w _ _ a n c n' c' Try.underlying54
    clear hr
    go_enter Try.func62, Try.ntmps62
    go_wp2
    go_ret
    exact ⟨_, [], rfl, rfl, ⟨rfl, .inl ⟨rfl, rfl⟩⟩, fun r hr => (by cases hr), brefl _⟩
  · exact sclone_some P hS a L c w hr hn
/-- what a loss of power may lose, of the first k requests -/
def losK (ca : List Ca) (qu : List Rq) (k : Nat) : List Ca := ca ++ ((qu.take k).filter fun q => q.2.1 == 2).map fun q => (q.2.2.1, q.2.2.2)
theorem losK_hit {ca : List Ca} {qu : List Rq} {k : Nat} (hk : k < qu.length) (h : (qAt qu k).2.1 = 2) : losK ca qu (k + 1) = losK ca qu k ++ [((qAt qu k).2.2.1, (qAt qu k).2.2.2)] := by
  unfold losK
  rw [qAt_snoc hk, List.filter_append, List.map_append, ← List.append_assoc]
  congr 1
  simp [h]
theorem losK_miss {ca : List Ca} {qu : List Rq} {k : Nat} (hk : k < qu.length) (h : (qAt qu k).2.1 ≠ 2) : losK ca qu (k + 1) = losK ca qu k := by
  unfold losK
  rw [qAt_snoc hk, List.filter_append, List.map_append]
  simp [h]
theorem losK_len (ca : List Ca) (qu : List Rq) (k : Nat) : (losK ca qu k).length ≤ ca.length + qu.length := by
  unfold losK
  rw [List.length_append, List.length_map]
  have h1 := List.length_filter_le (fun q : Rq => q.2.1 == 2) (qu.take k)
  have h2 : (qu.take k).length ≤ qu.length := by rw [List.length_take]; omega
  omega
set_option maxHeartbeats 2000000 in
theorem los_any (P : Value → By → Prop) (hS : Slc P) (dep nxt : Int) (vb : Value) (Ac : Option Addr) (ca : List Ca) (cc : Nat) (Aq : Option Addr) (qu : List Rq) (cq : Nat) (w : World) (hc : RdCP P w Ac ca) (hq : RdQP P w Aq qu) (lc : ca.length ≤ 1000) (lq : qu.length ≤ 1000) :
    Calls Try.prog 49 #[.agg #[.int .i64 dep, .int .i64 nxt, vb, .slice Ac ca.length cc, .slice Aq qu.length cq]] w (CaR P (losK ca qu qu.length) w) := by
  obtain ⟨W0, hW0⟩ : ∃ W0, W0 = w.alloc (.cells #[.int .i64 dep, .int .i64 nxt, vb, .slice Ac ca.length cc, .slice Aq qu.length cq] 57) := ⟨_, rfl⟩
  have K0 := hide (show Below w.heap.size w W0 by rw [hW0]; exact bal (brefl w) _)
  have X := hide (show Box W0 w.heap.size 57 #[.int .i64 dep, .int .i64 nxt, vb, .slice Ac ca.length cc, .slice Aq qu.length cq] by rw [hW0]; exact Box.new w 57 _)
  have RQ := hide (hq.below K0.out)
  have C := hide (sclone_any P hS Ac ca cc W0 (hc.below K0.out) lc)
  unfold CaR at C
  have HS := hide hS
  have HW := hide hW0
  obtain ⟨i0, hi0, hz0, hz1, hz2⟩ := info_parts info89
  clear hc hq hW0 hS
  go_enter Try.func49, Try.ntmps49
  go_wp2_with fail
  rw [← HW.out]
  refine C.out.mono ?_
  rintro e w1 ⟨v1, R1, rfl, hR1, ho1, hP1, hb1⟩
  have KW := hide hb1
  have x4 := (X.out.below hb1).cell 4
  simp at x4
  have O1 := hide ho1
  have HR1 := hide hR1
  have HP1 := hide hP1
  have L0 := hide (show losK ca qu 0 = ca by simp [losK])
  have hs0 := K0.out.size
  clear hb1 ho1 hR1 hP1
  go_wp2
  clear x4
  go_loopw [3, 5, 12] (fun o _ i wr => ∃ (k : Nat) (R : List PC), k ≤ qu.length ∧ i = .int .i64 k ∧ Hid (R.map pcC = losK ca qu k) ∧ Hid (wr.ownsRow W0.heap.size 89 2 o (losK ca qu k).length (cC R)) ∧ Hid (∀ r ∈ R, P r.2.2 r.2.1) ∧ Hid (Below W0.heap.size W0 wr)) (fun _ _ i _ => qu.length - (intOf i).toNat)
  case atStart => exact ⟨0, R1, Nat.zero_le _, rfl, hide (by rw [L0.out]; exact HR1.out), hide (by rw [L0.out]; exact O1.out), HP1, KW⟩
  case round =>
    obtain ⟨k, R, hk, rfl, HR, HO, HP, KQ⟩ := hrel
    by_cases hlt : k < qu.length
    · obtain ⟨b, off, u, rfl, hbl, c0, c1, c2, c3, hu⟩ := RQ.out.cells KQ.out hlt
      have HL1 := hide (losK_hit (ca := ca) hlt)
      have HL2 := hide (losK_miss (ca := ca) hlt)
      have hMl := losK_len ca qu k
      obtain ⟨⟨z0, z1, z2, l⟩, hl⟩ : ∃ l, l = qAt qu k := ⟨_, rfl⟩
      rw [← hl] at hu c0 c1 c2 HL1 HL2
      simp only at hu c0 c1 c2 HL1 HL2
      have HU := hide hu
      obtain ⟨A1, d1, rfl⟩ := HS.out _ _ hu
      generalize losK ca qu k = M at *
      obtain ⟨Ao, co, rfl, _⟩ := row_form HO.out
      have OA := hide (row_below HO.out (bal (brefl wr) (.cells #[.int .i64 z0, .int .i64 z1, .int .i64 z2, .slice A1 l.length d1] 67)))
      have KQA := hide (bal KQ.out (.cells #[.int .i64 z0, .int .i64 z1, .int .i64 z2, .slice A1 l.length d1] 67))
      clear hu hl
      by_cases h2 : z1 = 2
      · subst h2
        have E := hide (HL1.out rfl)
        have OB := hide (row_below OA.out (bal (brefl _) (.cells #[.int .i64 z2, .slice A1 l.length d1] 89)))
        have KQB := hide (bal KQA.out (.cells #[.int .i64 z2, .slice A1 l.length d1] 89))
        have NW := hide (cell_row (wr.alloc (.cells #[.int .i64 z0, .int .i64 2, .int .i64 z2, .slice A1 l.length d1] 67)) #[.int .i64 z2, .slice A1 l.length d1] 89)
        rw [alloc_size'] at NW
        go_wp2_with (at_builtin; refine wpList_append_own _ rfl (.tmp 19) (.tmp 25) 54 rfl W0.heap.size 89 i0 _ 2 32 Try.underlying54 hi0 hz0 hz1 hz2 rfl (by omega) (.slice Ao M.length co) M.length (cC R) rfl OB.out ⟨wr.heap.size + 1, 0, none⟩ 1 1 [.int .i64 z2, .slice A1 l.length d1] rfl rfl NW.out (by intro u hu; simp at hu; rcases hu with rfl | rfl <;> rfl) (by simp only [maxLen]; omega) (by omega) KQB.out.size ?_; intro v4 w4 hown4 hg4 _; have O4 := hide hown4; have KQ4 := hide (KQB.out.trans (row_grown OB.out hg4 KQB.out.size)); clear hown4 hg4)
        go_wp2
        go_roundw
        case rel => exact ⟨k + 1, R ++ [(z2, l, .slice A1 l.length d1)], by omega, by go_num, hide (by rw [E.out, List.map_append, HR.out]; rfl), hide (by rw [E.out, cC_append, List.length_append]; exact O4.out), hide (fun r hr => (List.mem_append.1 hr).elim (HP.out r) fun h => by rw [List.mem_singleton.1 h]; exact HU.out), KQ4⟩
        case measure => simp [intOf]; omega
      · have hd : (z1 == 2) = false := by simpa using h2
        have E := hide (HL2.out h2)
        clear h2
        go_wp2
        go_roundw
        case rel => exact ⟨k + 1, R, by omega, by go_num, hide (by rw [E.out]; exact HR.out), hide (by rw [E.out]; exact OA.out), HP, KQA⟩
        case measure => simp [intOf]; omega
    · obtain rfl : k = qu.length := by omega
      go_wp2
      go_ret
      exact ⟨_, R, rfl, HR.out, row_mono HO.out hs0, HP.out, btrans K0.out KQ.out⟩
theorem ownby_slc (w : World) : Slc (OwnBy w) := fun v l h => h.form
end Go.Proofs.Ytncdilkcblakhaa.Dv
