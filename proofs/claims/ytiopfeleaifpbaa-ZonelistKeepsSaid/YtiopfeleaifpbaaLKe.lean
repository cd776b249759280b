import Derived.Test.YtiopfeleaifpbaaEq
import Derived.Deep.RegionLaw
namespace Go.Proofs.Ytiopfeleaifpbaa.Bd
open Go Go.RowKit Go.Sort Go.Lib
set_option linter.unusedVariables false
set_option linter.unusedSimpArgs false
theorem info41 : (Try.prog.info? 41).map (fun i => (i.zero, i.size, i.bytes)) = some (some (.agg #[.int .i64 0, .int .i64 0, .int .i64 0, .int .i64 0, .int .i64 0, .slice none 0 0, .slice none 0 0, .slice none 0 0, .slice none 0 0, .slice none 0 0]), 10, 160) := by kernel_rfl
theorem wpList_app {P : Program} {w w' : World} {ops : Array Oper} {rest : List Oper} {o : Oper} {a : Act} {Q : Exit → Act → World → Prop} (hgd : o.guard = none) (s x : Operand) (t : TypeId)
    (ho : o.op = .call { callee := .builtin .append, args := #[s, x], argTypes := #[t, t] }) (vs vx r : Value) (hs : a.eval s = vs) (hx : a.eval x = vx) (ty : TypeId) (hty : o.type = ty)
    (hr : (Builtin.append_ #[t, t] ty #[vs, vx]).run P w = .ok r w') (h : wpList P ops Q rest (a.put o.dst r) w') : wpList P ops Q (o :: rest) a w := by
  subst hty
  refine wpList_plain hgd fun K hK => ?_
  unfold Oper.wp execOp
  simp only [ho, resolve, invoke, builtin, Sem.run_bind, Sem.run_pure, Result.andThen_ok, List.map_toArray, List.map_cons, List.map_nil, hs, hx, hr]
  exact hK _ _ h
theorem step_append_own {P : Program} {w : World} {ops : Array Oper} {o : Oper} {a : Act} {K : Act → World → Prop} {Q : Exit → Act → World → Prop} {E : Prop} (hgd : o.guard = none) (s x : Operand) (t : TypeId)
    (ho : o.op = .call { callee := .builtin .append, args := #[s, x], argTypes := #[t, t] })
    (base : Nat) (e : TypeId) (i : TypeInfo) (z : Value) (size bytes : Nat) (ht : P.underlying t = some (.slice e)) (hi : P.info? e = some i) (hz : i.zero = some z)
    (hsize : i.size = size) (hby : i.bytes = bytes) (hzs : z.cells.size = size) (hsz : 0 < size)
    (v : Value) (n : Nat) (xs : List Value) (hs : a.eval s = v) (hown : w.ownsRow base e size v n xs)
    (ad : Addr) (m c : Nat) (news : List Value) (hx : a.eval x = .slice (some ad) m c) (hl : news.length = m * size) (hnews : ∀ j u, news[j]? = some u → w.cell? (ad.add j) = some u) (h1 : ∀ u ∈ news, u.oneCell' = true)
    (h63 : n + m ≤ maxLen) (hbytes : (n + m) * bytes ≤ 140737488355328) (hbase : base ≤ w.heap.size)
    (h : ∀ v' w', w'.ownsRow base e size v' (n + m) (xs ++ news) → w.grownBy w' v.ownBlock → K (a.put o.dst v') w') :
    if Region.wanted o (yielded ops a.tmps) = true then Oper.wp P o a w K Q else E := by
  have hw : Region.wanted o (yielded ops a.tmps) = true := by simp [Region.wanted, hgd]
  rw [if_pos hw]
  exact wp_append_own w s x t ho base e i z size bytes ht hi hz hsize hby hzs hsz v n xs hs hown ad m c news hx hl hnews h1 h63 hbytes hbase fun v' w' h2 h3 _ => h v' w' h2 h3
theorem addr_add (b off q : Nat) : (⟨b, off, none⟩ : Addr).add q = ⟨b, off + q, none⟩ := by
  unfold Addr.add
  by_cases h0 : q = 0 <;> simp [h0]
theorem new_cells (w : World) (cs : Array Value) (t : TypeId) : ∀ (j : Nat) (u : Value), cs.toList[j]? = some u → (w.alloc (.cells cs t)).cell? ((⟨w.heap.size, 0, none⟩ : Addr).add j) = some u := fun j u h => by
  rw [addr_add, Nat.zero_add, (Box.new w t cs).cell j]
  rw [← h, Array.getElem?_toList]
theorem row_none (w : World) (t : TypeId) (size : Nat) : (w.alloc (.cells #[] t)).ownsRow w.heap.size t size (.slice (some ⟨w.heap.size, 0, none⟩) 0 0) 0 [] :=
  ⟨by simp, .inr ⟨w.heap.size, 0, #[], rfl, Nat.le_refl _, heap_alloc_new w _, Nat.le_refl _, Nat.zero_le _, by simp, by simp⟩⟩
/-- a copy of the zones, in a row of one's own -/
theorem own_zones (w : World) (AZ : Option Addr) (cp : Nat) (Z : List Zo) (hr : Zs w AZ Z) (hz : ZIs w Z) (h10 : Z.length ≤ 10) : ∃ v' w', (Builtin.append_ #[22, 22] 22 #[.slice (some ⟨w.heap.size, 0, none⟩) 0 0, .slice AZ Z.length cp]).run Try.prog (w.alloc (.cells #[] 41)) = .ok v' w' ∧ OwZs w.heap.size w' v' Z ∧ Below w.heap.size w w' := by
  obtain ⟨i0, hi0, hz0, hz1, hz2⟩ := info_parts info41
  have M := bal (brefl w) (.cells #[] 41)
  have RN := row_none w 41 10
  by_cases hZ : Z = []
  · subst hZ
    refine ⟨.slice (some ⟨w.heap.size, 0, none⟩) 0 0, w.alloc (.cells #[] 41), ?_, RN, M⟩
    cases AZ <;> rfl
  · obtain ⟨b, off, rfl, hbl, hc⟩ := hr hZ
    have hc2 : ∀ k, k < Z.length → ∀ j, j < 10 → (w.alloc (.cells #[] 41)).cell? ⟨b, off + k * 10 + j, none⟩ = (znC (zAt Z k).p (zAt Z k).v)[j]? := fun k hk j hj => (M.cell (p := ⟨b, _, none⟩) hbl).trans (hc k hk j hj)
    obtain ⟨v', w', hrun, h2, h3, _⟩ := run_append_own_at (P := Try.prog) (w.alloc (.cells #[] 41)) w.heap.size 22 22 41 i0 _ 10 160 Try.underlying22 hi0 hz0 hz1 hz2 rfl (by omega) (.slice (some ⟨w.heap.size, 0, none⟩) 0 0) 0 [] RN ⟨b, off, none⟩ Z.length cp (zcl Z) (zcl_len Z) (Zs.news hc2) (zcl_cell1 hz) (by simp only [maxLen]; omega) (by omega) (by rw [alloc_size']; omega)
    refine ⟨v', w', hrun, ?_, M.trans (below_grown RN h3 (by rw [alloc_size']; omega))⟩
    simpa using h2
theorem row_set {B t size n : Nat} {w : World} {v : Value} {xs : List Value} (h : w.ownsRow B t size v n xs) {g i : Nat} (hg : g < B) (u : Value) : (w.setCell ⟨g, i, none⟩ u).ownsRow B t size v n xs := by
  obtain ⟨hl, h | ⟨gb, cap, cur, e, hgb, hh, r⟩⟩ := h
  · exact ⟨hl, .inl h⟩
  · exact ⟨hl, .inr ⟨gb, cap, cur, e, hgb, (heap_setCell_other w ⟨g, i, none⟩ gb u (by show gb ≠ g; omega)).trans hh, r⟩⟩
/-- a row of numbers that may be written -/
def Rm (B B2 : Nat) (w : World) (A : Option Addr) (n : Nat) : Prop := n ≠ 0 → ∃ (g : Nat) (cur : Array Value), A = some ⟨g, 0, none⟩ ∧ B ≤ g ∧ g < B2 ∧ Box w g 3 cur ∧ n ≤ cur.size
theorem rm_of {B B2 c : Nat} {w : World} {A : Option Addr} {l : Is} (h : OwI B w (.slice A l.length c) l) (hg : ∀ g, A = some ⟨g, 0, none⟩ → g < B2) : Rm B B2 w A l.length := fun hn => by
  obtain ⟨hl, h | ⟨gb, cap, cur, e, hgb, hh, h1, h2, h3, h4⟩⟩ := h
  · exact absurd h.2 hn
  · injection e with e1 e2 e3
    exact ⟨gb, cur, e1, hgb, hg gb e1, hh, by rw [h3]; omega⟩
theorem lt_of_row {B c : Nat} {w : World} {A : Option Addr} {l : Is} (h : OwI B w (.slice A l.length c) l) (hn : l.length ≠ 0) : ∀ g, A = some ⟨g, 0, none⟩ → g < w.heap.size := fun g e => by
  obtain ⟨g2, e2, hlt, _⟩ := row_cell h hn
  rw [e] at e2
  injection e2 with e2
  injection e2 with e2
  omega
set_option maxRecDepth 100000 in
set_option maxHeartbeats 16000000 in
theorem law_keeps (AZ : Option Addr) (cp : Nat) (Z : List Zo) (k m t n : Int) (kb : Bool) (W : World) (hr : Zs W AZ Z) (hz : ZIs W Z) (hn : Z.length ≤ 9223372036854775807) : Calls Try.prog 10 #[.slice AZ Z.length cp, .agg #[.int .i64 k, .int .i64 m, .int .i64 t], .agg #[.int .i64 n, .bool kb]] W fun e w' => e = .returned (.bool true) ∧ Below W.heap.size W w' := by
  have AWK := hide (fun w => awake_any w)
  have C0 := hide (fun w => few_any AZ Z.length cp 10 w)
  have HR := hide (fun w (h : Below W.heap.size W w) => hr.below h)
  have HZ := hide (fun w (h : Below W.heap.size W w) => hz.below h)
  have X4 := hide ((Box.new W 34 #[.int .i64 k, .int .i64 m, .int .i64 t]).more (.cells #[.int .i64 n, .bool kb] 36))
  have X5 := hide (Box.new2 W (.cells #[.int .i64 k, .int .i64 m, .int .i64 t] 34) 36 #[.int .i64 n, .bool kb])
  have K := hide (bal (bal (brefl W) (.cells #[.int .i64 k, .int .i64 m, .int .i64 t] 34)) (.cells #[.int .i64 n, .bool kb] 36))
  obtain ⟨W0, hW0⟩ : ∃ W0, W0 = ((W.alloc (.cells #[.int .i64 k, .int .i64 m, .int .i64 t] 34)).alloc (.cells #[.int .i64 n, .bool kb] 36)) := ⟨_, rfl⟩
  rw [← hW0] at X4 X5 K
  obtain ⟨g4, hg4⟩ : ∃ g4, g4 = W.heap.size := ⟨_, rfl⟩
  rw [← hg4] at X4
  obtain ⟨g5, hg5⟩ : ∃ g5, g5 = W.heap.size + 1 := ⟨_, rfl⟩
  rw [← hg5] at X5
  clear hr hz
  by_cases h10 : (Z.length : Int) ≤ 10
  · have d10 := decide_eq_true h10
    rw [d10] at C0
    have h10n : Z.length ≤ 10 := by omega
    clear d10
    obtain ⟨v7, w1, hrun, hown, hb1⟩ := own_zones W0 AZ cp Z (HR.out _ K.out) (HZ.out _ K.out) h10n
    have RUN := hide hrun
    obtain ⟨A7, c7, ev7, _⟩ := row_form hown
    subst ev7
    have OW := hide hown
    have X41 := hide (X4.out.below hb1)
    have X51 := hide (X5.out.below hb1)
    have K1 := hide (K.out.trans (hb1.mono K.out.size))
    clear hrun hown hb1 hn X4 X5
    obtain ⟨j0, hj0, hw0, hw1, hw2⟩ := info_parts info41
    go_enter Try.func10, Try.ntmps10
    go_upto_region 1 with fail
    rw [← hg5, ← hg4, ← hW0]
    clear hg5 hg4 hW0
    go_upto_region 3 with (go_at_call 11; refine (C0.out _).mono ?_; rintro e w' ⟨rfl, rfl⟩)
    go_upto_region 4 with (at_builtin; refine wpList_app rfl (.tmp 22) (.tmp 23) 22 rfl _ _ _ rfl rfl 22 rfl RUN.out ?_)
    clear RUN K
    obtain ⟨B1, hB1⟩ : ∃ B1, B1 = w1.heap.size := ⟨_, rfl⟩
    have HB1 := hide hB1
    clear hB1
    go_wp2
    go_loopw [8, 9] (fun a b wr => ∃ q : Nat, q ≤ Z.length ∧ b = .int .i64 q ∧ Hid (OwZs B1 wr a (bz Z q)) ∧ Hid (Below B1 w1 wr)) (fun _ b _ => Z.length - (intOf b).toNat)
    case atStart => exact ⟨0, Nat.zero_le _, rfl, hide ⟨rfl, .inl ⟨rfl, rfl⟩⟩, hide (Below.refl _ _)⟩
    case round =>
      obtain ⟨q, hq, rfl, O, K⟩ := hrel
      obtain ⟨A1, cap1, ev, hcp⟩ := row_form O.out
      subst ev
      have hO := O.out
      unfold OwZs at hO
      rw [bz_len] at hO ⊢
      clear O
      have O := hide hO
      clear hO hcp
      have hbb : Below w1.heap.size w1 wr := by rw [← HB1.out]; exact K.out
      have KW := hide (K1.out.trans (hbb.mono K1.out.size))
      by_cases hlt : q < Z.length
      · have hl2 : (q : Int) < (Z.length : Int) := by omega
        have hq0 : (0 : Int) ≤ (q : Int) := by omega
        obtain ⟨b', off, rfl, hbl, hcs⟩ := (HR.out _ KW.out).cells (brefl _) hlt
        have y0 : wr.cell? ⟨b', off + q * 10, none⟩ = some (.int .i64 (nd Z q)) := hcs 0 (by omega)
        have y1 : wr.cell? ⟨b', off + q * 10 + 1, none⟩ = some (.int .i64 (kd Z q)) := hcs 1 (by omega)
        have EH := hide (show zcl (bz Z (q + 1)) = zcl (bz Z q) ++ [.int .i64 (nd Z q), .int .i64 (kd Z q), .int .i64 7, .int .i64 (-1), .int .i64 (q : Int), .slice none 0 0, .slice none 0 0, .slice none 0 0, .slice none 0 0, .slice none 0 0] by
          show zcl (bz Z q ++ [_]) = _
          rw [zcl_app]
          rfl)
        clear hcs hbl
        generalize nd Z q = a at *
        generalize kd Z q = b at *
        have M : Below wr.heap.size wr (wr.alloc (.cells #[.int .i64 a, .int .i64 b, .int .i64 7, .int .i64 (-1), .int .i64 (q : Int), .slice none 0 0, .slice none 0 0, .slice none 0 0, .slice none 0 0, .slice none 0 0] 41)).drew := below_drewN (bal (brefl wr) _) 1
        have OA := hide (row_below O.out M)
        have NB := hide (show ∀ (j : Nat) (u : Value), ([.int .i64 a, .int .i64 b, .int .i64 7, .int .i64 (-1), .int .i64 (q : Int), .slice none 0 0, .slice none 0 0, .slice none 0 0, .slice none 0 0, .slice none 0 0] : List Value)[j]? = some u → (wr.alloc (.cells #[.int .i64 a, .int .i64 b, .int .i64 7, .int .i64 (-1), .int .i64 (q : Int), .slice none 0 0, .slice none 0 0, .slice none 0 0, .slice none 0 0, .slice none 0 0] 41)).drew.cell? ((⟨wr.heap.size, 0, none⟩ : Addr).add j) = some u from new_cells wr #[.int .i64 a, .int .i64 b, .int .i64 7, .int .i64 (-1), .int .i64 (q : Int), .slice none 0 0, .slice none 0 0, .slice none 0 0, .slice none 0 0, .slice none 0 0] 41)
        have OC := hide (show ∀ u ∈ ([.int .i64 a, .int .i64 b, .int .i64 7, .int .i64 (-1), .int .i64 (q : Int), .slice none 0 0, .slice none 0 0, .slice none 0 0, .slice none 0 0, .slice none 0 0] : List Value), u.oneCell' = true from fun u hu => by
          simp only [List.mem_cons, List.not_mem_nil, or_false] at hu
          rcases hu with rfl | rfl | rfl | rfl | rfl | rfl | rfl | rfl | rfl | rfl <;> rfl)
        have SA := hide (show B1 ≤ (wr.alloc (.cells #[.int .i64 a, .int .i64 b, .int .i64 7, .int .i64 (-1), .int .i64 (q : Int), .slice none 0 0, .slice none 0 0, .slice none 0 0, .slice none 0 0, .slice none 0 0] 41)).drew.heap.size by rw [HB1.out]; exact Nat.le_trans hbb.size M.size)
        have KA := hide (K.out.trans (M.mono (by rw [HB1.out]; exact hbb.size)))
        have hb' : b' < wr.heap.size := by
          rcases Nat.lt_or_ge b' wr.heap.size with h | h
          · exact h
          · exfalso
            unfold World.cell? at y0
            rw [Array.getElem?_eq_none h] at y0
            cases y0
        clear M O K
        obtain ⟨l1, hl1⟩ : ∃ l1, l1 = zcl (bz Z q) := ⟨_, rfl⟩
        rw [← hl1] at OA EH
        clear hl1 hbb
        go_wp2
        go_region_law (refine step_append_own rfl (.tmp 31) (.tmp 44) 22 rfl B1 41 j0 _ 10 160 Try.underlying22 hj0 hw0 hw1 hw2 rfl (by omega) (.slice A1 q cap1) q l1 rfl (by exact OA.out) ⟨wr.heap.size, 0, none⟩ 1 1 [.int .i64 a, .int .i64 b, .int .i64 7, .int .i64 (-1), .int .i64 (q : Int), .slice none 0 0, .slice none 0 0, .slice none 0 0, .slice none 0 0, .slice none 0 0] rfl rfl (by exact NB.out) (by exact OC.out) (by simp only [maxLen]; omega) (by omega) (by exact SA.out) ?_; intro v4 w4 hown4 hg4; obtain ⟨A4, cp4, ev4, _⟩ := row_form hown4; subst ev4; have HO4 := hide hown4; have B4 := hide (below_grown OA.out hg4 SA.out); clear hown4 hg4)
        all_goals
          have O := hide (show OwZs B1 w4 (.slice A4 (q + 1) cp4) (bz Z (q + 1)) by
            unfold OwZs
            rw [bz_len, EH.out]
            exact HO4.out)
          have K := hide (KA.out.trans B4.out)
          clear HO4 B4 OA NB SA KA OC
          go_wp2
          go_roundw
          case rel => first | exact ⟨q + 1, by omega, by go_num, O, K⟩ | ((repeat apply Exists.intro); exact ⟨⟨q + 1, by omega, by go_num, O, K⟩, rfl⟩)
          case measure => simp [intOf]; omega
      · obtain rfl : q = Z.length := by omega
        have X4 := hide (X41.out.below hbb)
        have X5 := hide (X51.out.below hbb)
        have ZO := hide ((OwZs.zs OW.out).below hbb)
        have ZB := hide (OwZs.zs (show OwZs B1 wr (.slice A1 Z.length cap1) (bz Z Z.length) by unfold OwZs; rw [bz_len]; exact O.out))
        have PA := hide (fun w (h : Below wr.heap.size wr w) => pick_any A7 c7 Z ⟨k, m, t⟩ n kb w (ZO.out.below h) (HZ.out _ (KW.out.trans (h.mono KW.out.size))) (by omega))
        have PB := hide (fun w (h : Below wr.heap.size wr w) => pick_any A1 cap1 (bz Z Z.length) ⟨k, m, t⟩ n kb w (ZB.out.below h) (bz_in (HZ.out _ (KW.out.trans (h.mono KW.out.size))) (by omega) _ (Nat.le_refl _)) (by rw [bz_len]; omega))
        rw [(bz_eq Z).pR, (bz_eq Z).pkE, bz_len] at PB
        have HSN := hide (show (pR Z ⟨k, m, t⟩ n kb).length ≤ 9223372036854775807 by have := pR_le Z ⟨k, m, t⟩ n kb; omega)
        have hSN := pR_le Z ⟨k, m, t⟩ n kb
        have ZA := hide (HR.out _ KW.out)
        have HZW := hide (HZ.out _ KW.out)
        generalize pkE Z ⟨k, m, t⟩ n = pe at *
        generalize pR Z ⟨k, m, t⟩ n kb = lR at *
        clear OW O X41 X51 hbb HR HZ K ZB
        obtain ⟨wp, hwp⟩ : ∃ wp, wp = wr := ⟨_, rfl⟩
        rw [← hwp] at X4 X5 ZO PA PB ZA HZW KW ⊢
        clear hwp
        have x0 := X4.out.cell 0
        have x1 := X4.out.cell 1
        have x2 := X4.out.cell 2
        have x5 := X5.out.cell 0
        have x6 := X5.out.cell 1
        simp at x0 x1 x2 x5 x6
        go_wp2_with fail
        refine (PA.out _ (brefl _)).mono ?_
        rintro e w2 ⟨⟨A2, c2, rfl, hO⟩, hb⟩
        have R1 := hide hO
        have GL := hide (fun (h0 : lR.length ≠ 0) => lt_of_row hO h0)
        have KP := hide hb
        clear hO hb x0 x1 x2 x5 x6
        have X42 := hide (X4.out.below KP.out)
        have X52 := hide (X5.out.below KP.out)
        have x0 := X42.out.cell 0
        have x1 := X42.out.cell 1
        have x2 := X42.out.cell 2
        have x5 := X52.out.cell 0
        have x6 := X52.out.cell 1
        simp at x0 x1 x2 x5 x6
        go_wp2_with fail
        refine (PB.out _ KP.out).mono ?_
        rintro e w3 ⟨⟨A3, c3, rfl, hO⟩, hb⟩
        have R2 := hide hO
        replace R1 := hide (row_below R1.out hb)
        have HS2 := hide (show w2.heap.size ≤ w3.heap.size from hb.size)
        replace KP := hide (KP.out.trans (hb.mono KP.out.size))
        clear hO hb x0 x1 x2 x5 x6 X42 X52 PB
        have R1b := hide (OwI.bi R1.out)
        have R2b := hide (OwI.bi R2.out)
        go_wp2_with fail
        refine (same_refl A2 A3 c2 c3 lR _ R1b.out R2b.out HSN.out).mono ?_
        rintro e w4 ⟨rfl, hb⟩
        replace R1 := hide (row_below R1.out hb)
        replace R2 := hide (row_below R2.out hb)
        replace KP := hide (KP.out.trans (hb.mono KP.out.size))
        clear hb R1b R2b
        obtain ⟨B, hB⟩ : ∃ B, B = wp.heap.size := ⟨_, rfl⟩
        have HB := hide hB
        rw [← hB] at R1 KP
        clear hB
        have RM := hide (show Rm B w2.heap.size w4 A2 lR.length from fun h0 => rm_of R1.out (GL.out h0) h0)
        obtain ⟨B2, hB2⟩ : ∃ B2, B2 = w2.heap.size := ⟨_, rfl⟩
        rw [← hB2] at R2 RM
        clear hB2 HS2 R1 GL
        obtain ⟨nr, hnr⟩ : ∃ nr, nr = lR.length := ⟨_, rfl⟩
        have HNR := hide hnr
        rw [← hnr] at RM R2 hSN ⊢
        clear hnr
        go_wp2
        go_loopw [14] (fun b wr => ∃ i : Nat, i ≤ nr ∧ b = .int .i64 i ∧ Hid (Rm B B2 wr A2 nr) ∧ Hid (wr.ownsRow B2 3 1 (.slice A3 nr c3) nr (lR.map ic)) ∧ Hid (Below B wp wr)) (fun b _ => nr - (intOf b).toNat)
        case atStart => exact ⟨0, Nat.zero_le _, rfl, RM, R2, KP⟩
        case round =>
          clear RM R2 KP
          obtain ⟨i, hi, rfl, RM, R2, K⟩ := hrel
          by_cases hil : i < nr
          · have hi2 : (i : Int) < (nr : Int) := by omega
            have hi0' : (0 : Int) ≤ (i : Int) := by omega
            obtain ⟨g, cur, rfl, hBg, hgB, hx, hcs⟩ := RM.out (by omega)
            have xi : wr.cell? ⟨g, i, none⟩ = some (cur[i]'(by omega)) := (hx.cell i).trans (Array.getElem?_eq_getElem (by omega))
            have fi := hx.frozen i
            have RM2 := hide (show Rm B B2 (wr.setCell ⟨g, i, none⟩ (.int .i64 (-9))) (some ⟨g, 0, none⟩) nr from fun _ => ⟨g, _, rfl, hBg, hgB, hx.put i _, by simpa using hcs⟩)
            have R22 := hide (row_set R2.out (i := i) hgB (.int .i64 (-9)))
            have K22 := hide (K.out.setCell (p := ⟨g, i, none⟩) hBg (.int .i64 (-9)))
            generalize cur[i]'(by omega) = u at *
            clear RM R2 K hx hcs hBg hgB
            go_wp2
            go_roundw
            case rel => first | exact ⟨i + 1, by omega, by go_num, RM2, R22, K22⟩ | ((repeat apply Exists.intro); exact ⟨⟨i + 1, by omega, by go_num, RM2, R22, K22⟩, rfl⟩)
            case measure => simp [intOf]; omega
          · obtain rfl : i = nr := by omega
            have KK := hide (show Below wp.heap.size wp wr by rw [← HB.out]; exact K.out)
            have X43 := hide (X4.out.below KK.out)
            have X53 := hide (X5.out.below KK.out)
            clear RM K hil
            have x0 := X43.out.cell 0
            have x1 := X43.out.cell 1
            have x2 := X43.out.cell 2
            have x5 := X53.out.cell 0
            have x6 := X53.out.cell 1
            simp at x0 x1 x2 x5 x6
            go_wp2_with fail
            refine (PA.out _ KK.out).mono ?_
            rintro e w5 ⟨⟨A5, c5, rfl, hO⟩, hb⟩
            have R3b := hide (OwI.bi hO)
            rw [HNR.out] at R2 ⊢
            have R2b := hide (OwI.bi (row_below R2.out hb))
            have KP := hide (KK.out.trans (hb.mono KK.out.size))
            clear hO hb x0 x1 x2 x5 x6 X43 X53 KK R2 PA
            have ZO2 := hide (ZO.out.below KP.out)
            have ZA2 := hide (ZA.out.below KP.out)
            go_wp2
            go_loopw [17] (fun b wr => ∃ i : Nat, i ≤ Z.length ∧ b = .int .i64 i ∧ Hid (Below w5.heap.size w5 wr)) (fun b _ => Z.length - (intOf b).toNat)
            case atStart => exact ⟨0, Nat.zero_le _, rfl, hide (Below.refl _ _)⟩
            case round =>
              obtain ⟨i, hi3, rfl, K⟩ := hrel
              by_cases hil : i < Z.length
              · have hi2 : (i : Int) < (Z.length : Int) := by omega
                have hi0' : (0 : Int) ≤ (i : Int) := by omega
                obtain ⟨b1, o1, rfl, _, hc1⟩ := ZO2.out.cells K.out hil
                obtain ⟨b2, o2, rfl, _, hc2⟩ := ZA2.out.cells K.out hil
                have y0 : wr.cell? ⟨b1, o1 + i * 10, none⟩ = some (.int .i64 (zAt Z i).p.nd) := hc1 0 (by omega)
                have y1 : wr.cell? ⟨b1, o1 + i * 10 + 1, none⟩ = some (.int .i64 (zAt Z i).p.kd) := hc1 1 (by omega)
                have y2 : wr.cell? ⟨b1, o1 + i * 10 + 2, none⟩ = some (.int .i64 (zAt Z i).p.st) := hc1 2 (by omega)
                have y3 : wr.cell? ⟨b1, o1 + i * 10 + 3, none⟩ = some (.int .i64 (zAt Z i).p.ct) := hc1 3 (by omega)
                have y4 : wr.cell? ⟨b1, o1 + i * 10 + 4, none⟩ = some (.int .i64 (zAt Z i).p.mn) := hc1 4 (by omega)
                have z0 : wr.cell? ⟨b2, o2 + i * 10, none⟩ = some (.int .i64 (zAt Z i).p.nd) := hc2 0 (by omega)
                have z1 : wr.cell? ⟨b2, o2 + i * 10 + 1, none⟩ = some (.int .i64 (zAt Z i).p.kd) := hc2 1 (by omega)
                have z2 : wr.cell? ⟨b2, o2 + i * 10 + 2, none⟩ = some (.int .i64 (zAt Z i).p.st) := hc2 2 (by omega)
                have z3 : wr.cell? ⟨b2, o2 + i * 10 + 3, none⟩ = some (.int .i64 (zAt Z i).p.ct) := hc2 3 (by omega)
                have z4 : wr.cell? ⟨b2, o2 + i * 10 + 4, none⟩ = some (.int .i64 (zAt Z i).p.mn) := hc2 4 (by omega)
                clear hc1 hc2
                generalize (zAt Z i).p.nd = p0 at *
                generalize (zAt Z i).p.kd = p1 at *
                generalize (zAt Z i).p.st = p2 at *
                generalize (zAt Z i).p.ct = p3 at *
                generalize (zAt Z i).p.mn = p4 at *
                go_wp2
                go_quiet (fail)
                generalize hwy : World.drewN wr _ = wy
                have hbq : Below wr.heap.size wr wy := by rw [← hwy]; exact below_drewN (brefl _) _
                replace K := hide (K.out.trans (hbq.mono K.out.size))
                clear hwy hbq
                go_wp2
                go_roundw
                case rel => first | exact ⟨i + 1, by omega, by go_num, K⟩ | ((repeat apply Exists.intro); exact ⟨⟨i + 1, by omega, by go_num, K⟩, rfl⟩)
                case measure => simp [intOf]; omega
              · obtain rfl : i = Z.length := by omega
                go_wp2_with fail
                refine (same_refl A5 A3 c5 c3 lR _ (R3b.out.below K.out) (R2b.out.below K.out) HSN.out).mono ?_
                rintro e w6 ⟨rfl, hb⟩
                replace K := hide (K.out.trans (hb.mono K.out.size))
                clear hb
                go_wp2_with fail
                refine (AWK.out _).mono ?_
                rintro e w9 ⟨rfl, hb⟩
                have K9 := hide (KW.out.trans ((KP.out.trans ((K.out.trans (hb.mono K.out.size)).mono KP.out.size)).mono KW.out.size))
                clear hb
                go_wp2
                go_ret
                exact ⟨rfl, K9.out⟩
  · have d10 := decide_eq_false h10
    rw [d10] at C0
    clear h10 d10
    go_enter Try.func10, Try.ntmps10
    go_upto_region 1 with fail
    rw [← hg5, ← hg4, ← hW0]
    clear hg5 hg4 hW0
    go_wp2_with (go_at_call 11; refine (C0.out _).mono ?_; rintro e w' ⟨rfl, rfl⟩)
    refine (AWK.out _).mono ?_
    rintro e w1 ⟨rfl, hb⟩
    have K9 := hide (K.out.trans (hb.mono K.out.size))
    go_wp2
    go_ret
    exact ⟨rfl, K9.out⟩
end Go.Proofs.Ytiopfeleaifpbaa.Bd
