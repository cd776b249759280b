import Derived.Test.YtnegigcjeoenmaaVl1
import Derived.Test.YtnegigcjeoenmaaCm4
import Derived.Test.YtnegigcjeoenmaaBl1
namespace Go.Proofs.Ytnegigcjeoenmaa.Dv
open Go Go.RowKit
set_option linter.unusedVariables false
abbrev Ac := Int × Int × Int × Int
def aAt (L : List Ac) (k : Nat) : Ac := L.getD k (0, 0, 0, 0)
/-- acts that can be read -/
def RdA (w : World) (A : Option Addr) (L : List Ac) : Prop :=
  L ≠ [] → ∃ b off, A = some ⟨b, off, none⟩ ∧ b < w.heap.size ∧ ∀ k, k < L.length → (w.cell? ⟨b, off + k * 4, none⟩ = some (.int .i64 (aAt L k).1) ∧ w.cell? ⟨b, off + k * 4 + 1, none⟩ = some (.int .u8 (aAt L k).2.1) ∧ w.cell? ⟨b, off + k * 4 + 2, none⟩ = some (.int .u8 (aAt L k).2.2.1) ∧ w.cell? ⟨b, off + k * 4 + 3, none⟩ = some (.int .u8 (aAt L k).2.2.2)) ∧ (0 ≤ (aAt L k).2.1 ∧ (aAt L k).2.1 < 256) ∧ (0 ≤ (aAt L k).2.2.1 ∧ (aAt L k).2.2.1 < 256) ∧ 0 ≤ (aAt L k).2.2.2 ∧ (aAt L k).2.2.2 < 256
theorem RdA.cells {w w' : World} {A : Option Addr} {L : List Ac} (h : RdA w A L) (hb : Below w.heap.size w w') {k : Nat} (hk : k < L.length) : ∃ b off, A = some ⟨b, off, none⟩ ∧ b < w.heap.size ∧ (w'.cell? ⟨b, off + k * 4, none⟩ = some (.int .i64 (aAt L k).1) ∧ w'.cell? ⟨b, off + k * 4 + 1, none⟩ = some (.int .u8 (aAt L k).2.1) ∧ w'.cell? ⟨b, off + k * 4 + 2, none⟩ = some (.int .u8 (aAt L k).2.2.1) ∧ w'.cell? ⟨b, off + k * 4 + 3, none⟩ = some (.int .u8 (aAt L k).2.2.2)) ∧ (0 ≤ (aAt L k).2.1 ∧ (aAt L k).2.1 < 256) ∧ (0 ≤ (aAt L k).2.2.1 ∧ (aAt L k).2.2.1 < 256) ∧ 0 ≤ (aAt L k).2.2.2 ∧ (aAt L k).2.2.2 < 256 := by
  obtain ⟨b, off, e, hl, hc⟩ := h (by rintro rfl; simp at hk)
  obtain ⟨⟨h0, h1, h2, h3⟩, r⟩ := hc k hk
  exact ⟨b, off, e, hl, ⟨(hb.cell (p := ⟨b, _, none⟩) hl).trans h0, (hb.cell (p := ⟨b, _, none⟩) hl).trans h1, (hb.cell (p := ⟨b, _, none⟩) hl).trans h2, (hb.cell (p := ⟨b, _, none⟩) hl).trans h3⟩, r⟩
theorem ret_db {fn : Func} {a : Act} {W : World} {g k m : Nat} {b : Bool} {x0 x1 x2 x3 x4 : Value} {Q : Ending → World → Prop} (hr : fn.results = #[.cell k 28, .tmp m]) (h2 : a.tmps.getD k undef = .pointer (some ⟨g, 0, none⟩)) (h3 : a.tmps.getD m undef = .bool b) (hd : a.defers = [])
    (hE : Box W g 28 #[x0, x1, x2, x3, x4]) (hq : Q (.returned (.tuple #[.agg #[x0, x1, x2, x3, x4], .bool b])) W) : bodyPost Try.prog fn Q .ret a W := by
  have c0 := hE.cell 0
  have c1 := hE.cell 1
  have c2 := hE.cell 2
  have c3 := hE.cell 3
  have c4 := hE.cell 4
  simp at c0 c1 c2 c3 c4
  simp only [Array.getD_eq_getD_getElem?] at h2 h3
  exact bodyPost_ret (v := .tuple #[.agg #[x0, x1, x2, x3, x4], .bool b]) (by simp [results, hr, h2, h3, go_sem, c0, c1, c2, c3, c4]) hd hq
theorem m4 {x : Int} (h : 0 ≤ x) : IntKind.i64.wrap (x.tmod 4) = x % 4 := by rw [Int.tmod_eq_emod_of_nonneg h, IntKind.wrap_i64]; omega
theorem cm4 {D : Dev} {k : Nat} {p : Int} (h : P4 D k) (hp : 0 ≤ p) : cmE D p = if p < (D.qu.length : Int) then 0 else 2 := by
  unfold cmE
  rw [if_neg (by simpa using chk_of h.vd)]
  by_cases c : p < (D.qu.length : Int)
  · rw [if_pos c, if_neg (by omega)]
  · rw [if_neg c, if_pos (by omega)]
/-- what play leaves: a valid device of four blocks -/
def PlR (w : World) (e : Ending) (w' : World) : Prop := ∃ D v, e = .returned (.tuple #[v, .bool true]) ∧ P4 D 40 ∧ DevOwn w.heap.size w' v D ∧ Below w.heap.size w w'
set_option maxHeartbeats 8000000 in
set_option maxRecDepth 100000 in
theorem play_any (A : Option Addr) (L : List Ac) (c : Nat) (w : World) (hr : RdA w A L) (hl : L.length ≤ 40) : Calls Try.prog 30 #[.slice A L.length c] w (PlR w) := by
  obtain ⟨L4, hL4⟩ : ∃ L4, L4 = List.replicate 4 (pg 0) := ⟨_, rfl⟩
  have RA := hide hr
  have W0 := hide (bal (brefl w) (.cells #[.int .i64 0, .int .i64 0, .slice none 0 0, .slice none 0 0, .slice none 0 0] 28))
  have RB0 := hide (Box.new w 28 #[.int .i64 0, .int .i64 0, .slice none 0 0, .slice none 0 0, .slice none 0 0])
  have C35 := hide (blocks_any 4 (by omega) (w.alloc (.cells #[.int .i64 0, .int .i64 0, .slice none 0 0, .slice none 0 0, .slice none 0 0] 28)))
  rw [← hL4] at C35
  unfold BsR at C35
  have hlen : L4.length = 4 := by rw [hL4]; rfl
  have C13 := hide (fun (A : Option Addr) (c : Nat) (W : World) (h : OwnB (w.alloc (.cells #[.int .i64 0, .int .i64 0, .slice none 0 0, .slice none 0 0, .slice none 0 0] 28)).heap.size W (.slice A L4.length c) L4) (hc : L4.length ≤ c) => new_any 4 A L4 c W h.rd hc (by omega))
  unfold DvR2 at C13
  rw [show nwE 4 L4 = 0 by rw [hL4]; exact n4_e] at C13
  simp only [if_true] at C13
  obtain ⟨NN, hNN⟩ : ∃ NN, NN = nwD 4 L4 := ⟨_, rfl⟩
  rw [← hNN] at C13
  have PN := hide (show P4 NN 0 by rw [hNN, hL4]; exact p4_n)
  clear hr hNN hL4 hlen
  go_enter Try.func30, Try.ntmps30
  go_wp2_with fail
  refine C35.out.mono ?_
  rintro e w1 ⟨v1, rfl, ho1, hb1⟩
  obtain ⟨A1, c1, rfl, hc1⟩ := ho1.form
  have C13' := hide (C13.out A1 c1 w1 ho1 hc1)
  have K1 := hide (btrans W0.out hb1)
  have RB1 := hide (RB0.out.below hb1)
  clear C13 C35 ho1 hb1 W0 RB0 hc1
  go_wp2_with fail
  refine C13'.out.mono ?_
  rintro e w2 ⟨v2, rfl, ho2, hb2⟩
  obtain ⟨vb, vc, vq, rfl, ob, oc, oq⟩ := ho2
  obtain ⟨E1, g1, rfl, _⟩ := ob.form
  obtain ⟨E2, g2, rfl, _⟩ := oc.form
  obtain ⟨E3, g3, rfl, _⟩ := oq.form
  have hs1 := K1.out.size
  obtain ⟨OBJ, hOBJ⟩ : ∃ OBJ : Obj, OBJ = .cells #[.int .i64 NN.dep, .int .i64 NN.nxt, .slice E1 NN.bl.length g1, .slice E2 NN.ca.length g2, .slice E3 NN.qu.length g3] 28 := ⟨_, rfl⟩
  have BX := hide (Box.new w2 28 #[.int .i64 NN.dep, .int .i64 NN.nxt, .slice E1 NN.bl.length g1, .slice E2 NN.ca.length g2, .slice E3 NN.qu.length g3])
  rw [← hOBJ] at BX
  have K2 := hide (bal (btrans K1.out hb2) OBJ)
  have RB2 := hide ((RB1.out.below hb2).more OBJ)
  have DA0 := hide (show DevAt w.heap.size (w2.alloc OBJ) w2.heap.size NN from ⟨_, _, _, BX.out, (ob.mono hs1).below (bal (brefl w2) OBJ), (oc.mono hs1).below (bal (brefl w2) OBJ), (oq.mono hs1).below (bal (brefl w2) OBJ)⟩)
  have HG := hide (show w.heap.size ≤ w2.heap.size from Nat.le_trans hs1 hb2.size)
  have HG2 := hide (show w.heap.size < w2.heap.size from Nat.lt_of_lt_of_le RB1.out.lt hb2.size)
  clear ob oc oq hb2 K1 RB1 C13' BX hs1
  go_upto_region 5 with fail
  rw [← hOBJ]
  obtain ⟨g, hg⟩ : ∃ g, g = w2.heap.size := ⟨_, rfl⟩
  rw [← hg] at DA0 HG HG2 ⊢
  generalize w2.alloc OBJ = w3 at *
  clear hg hOBJ
  go_loopw [30] (fun i wr => ∃ (k : Nat) (D : Dev), k ≤ L.length ∧ i = .int .i64 k ∧ Hid (P4 D k) ∧ Hid (DevAt w.heap.size wr g D) ∧ Hid (Box wr w.heap.size 28 #[.int .i64 0, .int .i64 0, .slice none 0 0, .slice none 0 0, .slice none 0 0]) ∧ Hid (Below w.heap.size w wr)) (fun i _ => L.length - (intOf i).toNat)
  case atStart => exact ⟨0, NN, Nat.zero_le _, rfl, PN, DA0, RB2, K2⟩
  case round =>
    clear DA0 RB2 K2 PN
    obtain ⟨k, D, hk, rfl, P0, DA0, RB0, KW⟩ := hrel
    by_cases hlt : k < L.length
    · have hlt1 : (k : Int) < (L.length : Int) := by omega
      have hlt2 : ¬ (L.length : Int) ≤ (k : Int) := by omega
      have hk0 : (0 : Int) ≤ (k : Int) := by omega
      obtain ⟨pb, po, rfl, hpb, ⟨a0, a1, a2, a3⟩, ⟨r1, r1'⟩, ⟨r2, r2'⟩, r3, r3'⟩ := RA.out.cells KW.out hlt
      obtain ⟨⟨x0, x1, x2, x3⟩, hx⟩ : ∃ x, x = aAt L k := ⟨_, rfl⟩
      rw [← hx] at a0 a1 a2 a3 r1 r1' r2 r2' r3 r3'
      simp only at a0 a1 a2 a3 r1 r1' r2 r2' r3 r3'
      obtain ⟨vb, vc, vq, hX, hob, hoc, hoq⟩ := DA0.out
      obtain ⟨E1, g1, rfl, _⟩ := hob.form
      obtain ⟨E2, g2, rfl, _⟩ := hoc.form
      obtain ⟨E3, g3, rfl, _⟩ := hoq.form
      have AO := bal (brefl wr) (.cells #[.int .i64 x0, .int .u8 x1, .int .u8 x2, .int .u8 x3] 58)
      have AB := hide (Box.new wr 58 #[.int .i64 x0, .int .u8 x1, .int .u8 x2, .int .u8 x3])
      have X := hide (hX.below AO)
      have IN := hide ((DevOwn.is (B := w.heap.size) (w := wr) (D := D) ⟨_, _, _, rfl, hob, hoc, hoq⟩).below AO)
      have DA := hide (DA0.out.below AO)
      have RB := hide (RB0.out.below AO)
      have KA := hide (btrans KW.out AO)
      have BIG := hide P0.out.big
      clear hX hob hoc hoq AO DA0 RB0 KW hx hpb
      go_upto_region 7 with fail
      obtain ⟨ab, hab⟩ : ∃ ab, ab = wr.heap.size := ⟨_, rfl⟩
      rw [← hab] at AB ⊢
      generalize wr.alloc (.cells #[.int .i64 x0, .int .u8 x1, .int .u8 x2, .int .u8 x3] 58) = wa at *
      clear hab a0 a1 a2 a3
      obtain ⟨x0', x1', x2', x3', x4'⟩ := box5_cells (W' := wa) X.out
      obtain ⟨a0, a1, a2, a3⟩ := box4_cells AB.out
      have CE := hide (fun W (hb : Below wa.heap.size wa W) => (by
        have p := X.out.below hb
        have q := AB.out.below hb
        exact ⟨p.cell 0, p.cell 1, p.cell 2, p.cell 3, p.cell 4, q.cell 1, q.cell 2⟩ : (fun W => W.cell? ⟨g, 0, none⟩ = some (.int .i64 D.dep) ∧ W.cell? ⟨g, 1, none⟩ = some (.int .i64 D.nxt) ∧ W.cell? ⟨g, 2, none⟩ = some (.slice E1 D.bl.length g1) ∧ W.cell? ⟨g, 3, none⟩ = some (.slice E2 D.ca.length g2) ∧ W.cell? ⟨g, 4, none⟩ = some (.slice E3 D.qu.length g3) ∧ W.cell? ⟨ab, 1, none⟩ = some (.int .u8 x1) ∧ W.cell? ⟨ab, 2, none⟩ = some (.int .u8 x2)) W))
      by_cases h0 : x0 = 0
      · subst h0
        have REQ := hide (r_w (z := IntKind.i64.wrap (x1.tmod 4)) (by rw [m4 r1]; omega) (by rw [m4 r1]; omega))
        have SP := hide (fun W (hb : Below wa.heap.size wa W) (u : Value) (hu : IsBs W u (pg x2)) => submit_any _ D 2 (IntKind.i64.wrap (x1.tmod 4)) u (pg x2) W (IN.out.below hb) BIG.out hu)
        unfold DvR3 at SP
        rw [pg_len] at SP
        have SBE := hide (sb4 (kd := 2) (b := (IntKind.i64.wrap (x1.tmod 4))) (len := 32) P0.out (by omega) REQ.out)
        by_cases hn : D.qu.length < 4
        · have e0 : sbE D 2 (IntKind.i64.wrap (x1.tmod 4)) 32 = 0 := by rw [SBE.out, if_pos hn]
          obtain ⟨F, hF⟩ : ∃ F, F = sbD D 2 (IntKind.i64.wrap (x1.tmod 4)) (pg x2) := ⟨_, rfl⟩
          have PF := hide (show P4 F (k + 1) by rw [hF]; exact p4_sb P0.out e0)
          have hn1 : decide ((D.qu.length : Int) < 4) = true := decide_eq_true (by omega)
          have hn2 : decide (4 ≤ (D.qu.length : Int)) = false := decide_eq_false (by omega)
          have hn3 : (D.qu.length : Int) < 4 := by omega
          have hn4 : ¬ 4 ≤ (D.qu.length : Int) := by omega
          rw [e0] at SP
          simp only [if_true] at SP
          rw [← hF] at SP
          clear e0 SBE hF hn
          go_upto_region 15 with fail
          clear a0 a1 a2 a3
          refine wp_region_noPanic ?_
          refine wp_region_held_drew (S := (fun W => W.cell? ⟨g, 0, none⟩ = some (.int .i64 D.dep) ∧ W.cell? ⟨g, 1, none⟩ = some (.int .i64 D.nxt) ∧ W.cell? ⟨g, 2, none⟩ = some (.slice E1 D.bl.length g1) ∧ W.cell? ⟨g, 3, none⟩ = some (.slice E2 D.ca.length g2) ∧ W.cell? ⟨g, 4, none⟩ = some (.slice E3 D.qu.length g3) ∧ W.cell? ⟨ab, 1, none⟩ = some (.int .u8 x1) ∧ W.cell? ⟨ab, 2, none⟩ = some (.int .u8 x2))) (by kernel_rfl) ?_ (fun hHeld => ?_)
          · exact CE.out _ (below_drew (brefl wa))
          have KK := hide (below_drew (brefl wa))
          generalize wa.drew = w0 at *
          refine wpAnyH_take (i := 0) (oi := ⟨some 68, _, _, _, _, _⟩) (v := ?_) rfl (by kernel_rfl) (by kernel_rfl) (by kernel_rfl) (fun _ _ _ h => h) (Or.inl ⟨by kernel_rfl, ?_⟩) (by assumption) ?_
          rotate_left 1
          · (intro w hSw; (try dsimp only at hSw); go_simp) <;> (with_reducible rfl)
          (try simp only [Act.put, List.setIfInBounds_toArray, List.set_cons_succ, List.set_cons_zero])
          refine wpAnyH_take (i := 1) (oi := ⟨some 69, _, _, _, _, _⟩) (v := ?_) rfl (by kernel_rfl) (by kernel_rfl) (by kernel_rfl) (fun _ _ _ h => h) (Or.inl ⟨by kernel_rfl, ?_⟩) (by assumption) ?_
          rotate_left 1
          · (intro w hSw; (try dsimp only at hSw); go_simp) <;> (with_reducible rfl)
          (try simp only [Act.put, List.setIfInBounds_toArray, List.set_cons_succ, List.set_cons_zero])
          refine wpAnyH_take (i := 2) (oi := ⟨some 70, _, _, _, _, _⟩) (v := ?_) rfl (by kernel_rfl) (by kernel_rfl) (by kernel_rfl) (fun _ _ _ h => h) (Or.inl ⟨by kernel_rfl, ?_⟩) (by assumption) ?_
          rotate_left 1
          · (intro w hSw; (try dsimp only at hSw); go_simp) <;> (with_reducible rfl)
          (try simp only [Act.put, List.setIfInBounds_toArray, List.set_cons_succ, List.set_cons_zero])
          refine wpAnyH_take (i := 3) (oi := ⟨some 71, _, _, _, _, _⟩) (v := ?_) rfl (by kernel_rfl) (by kernel_rfl) (by kernel_rfl) (fun _ _ _ h => h) (Or.inl ⟨by kernel_rfl, ?_⟩) (by assumption) ?_
          rotate_left 1
          · (intro w hSw; (try dsimp only at hSw); go_simp) <;> (with_reducible rfl)
          (try simp only [Act.put, List.setIfInBounds_toArray, List.set_cons_succ, List.set_cons_zero])
          refine wpAnyH_take (i := 4) (oi := ⟨some 72, _, _, _, _, _⟩) (v := ?_) rfl (by kernel_rfl) (by kernel_rfl) (by kernel_rfl) (fun _ _ _ h => h) (Or.inl ⟨by kernel_rfl, ?_⟩) (by assumption) ?_
          rotate_left 1
          · (intro w hSw; (try dsimp only at hSw); go_simp) <;> (with_reducible rfl)
          (try simp only [Act.put, List.setIfInBounds_toArray, List.set_cons_succ, List.set_cons_zero])
          refine wpAnyH_take (i := 5) (oi := ⟨some 73, _, _, _, _, _⟩) (v := ?_) rfl (by kernel_rfl) (by kernel_rfl) (by kernel_rfl) (fun _ _ _ h => h) (Or.inl ⟨by kernel_rfl, ?_⟩) (by assumption) ?_
          rotate_left 1
          · (intro w hSw; (try dsimp only at hSw); go_simp) <;> (with_reducible rfl)
          (try simp only [Act.put, List.setIfInBounds_toArray, List.set_cons_succ, List.set_cons_zero])
          refine wpAnyH_take (i := 6) (oi := ⟨some 74, _, _, _, _, _⟩) (v := ?_) rfl (by kernel_rfl) (by kernel_rfl) (by kernel_rfl) (fun _ _ _ h => h) (Or.inl ⟨by kernel_rfl, ?_⟩) (by assumption) ?_
          rotate_left 1
          · (intro w hSw; (try dsimp only at hSw); go_simp) <;> (with_reducible rfl)
          (try simp only [Act.put, List.setIfInBounds_toArray, List.set_cons_succ, List.set_cons_zero])
          refine wpAnyH_ready (rs := [7, 13]) (by kernel_rfl) (by simp) ?_
          refine AllReadyH.cons (o := ⟨some 75, _, _, _, _, _⟩) rfl (fun K' hK => ?_) ?_
          · go_simp
            refine (page_any x2 _).mono ?_
            rintro e wp ⟨vp, rfl, hop, hbp⟩
            obtain ⟨Ap, cp, rfl⟩ := hop.form
            have UP := hide hop
            replace KK := hide (btrans KK.out hbp)
            clear hop hbp
            refine hK.out _ _ ?_ (fun hHeld => ?_)
            · exact CE.out _ KK.out
            clear hK K'
            (try simp only [Act.put, List.setIfInBounds_toArray, List.set_cons_succ, List.set_cons_zero])
            refine wpAnyH_ready (rs := [8, 13]) (by kernel_rfl) (by simp) ?_
            refine AllReadyH.cons (o := ⟨some 76, _, _, _, _, _⟩) rfl (fun K' hK => ?_) ?_
            · go_simp
              refine (SP.out _ KK.out _ UP.out.is).mono ?_
              rintro e ws ⟨vs, rfl, hos, hbs⟩
              obtain ⟨ub, uc, uq, rfl, ob, oc, oq⟩ := hos
              obtain ⟨F1, f1, rfl, _⟩ := ob.form
              obtain ⟨F2, f2, rfl, _⟩ := oc.form
              obtain ⟨F3, f3, rfl, _⟩ := oq.form
              have hsz := Nat.le_trans KA.out.size KK.out.size
              have OB := hide (ob.mono hsz)
              have OC := hide (oc.mono hsz)
              have OQ := hide (oq.mono hsz)
              replace KK := hide (btrans KK.out hbs)
              clear hbs ob oc oq hsz
              refine hK.out _ _ ?_ (fun hHeld => ?_)
              · exact CE.out _ KK.out
              clear hK K'
              (try simp only [Act.put, List.setIfInBounds_toArray, List.set_cons_succ, List.set_cons_zero])
              refine wpAnyH_take (i := 9) (oi := ⟨some 67, _, _, _, _, _⟩) (v := ?_) rfl (by kernel_rfl) (by kernel_rfl) (by kernel_rfl) (fun _ _ _ h => h) (Or.inl ⟨by kernel_rfl, ?_⟩) (by assumption) ?_
              rotate_left 1
              · (intro w hSw; (try dsimp only at hSw); go_simp) <;> (with_reducible rfl)
              (try simp only [Act.put, List.setIfInBounds_toArray, List.set_cons_succ, List.set_cons_zero])
              refine wpAnyH_take (i := 10) (oi := ⟨some 77, _, _, _, _, _⟩) (v := ?_) rfl (by kernel_rfl) (by kernel_rfl) (by kernel_rfl) (fun _ _ _ h => h) (Or.inl ⟨by kernel_rfl, ?_⟩) (by assumption) ?_
              rotate_left 1
              · (intro w hSw; (try dsimp only at hSw); go_simp) <;> (with_reducible rfl)
              (try simp only [Act.put, List.setIfInBounds_toArray, List.set_cons_succ, List.set_cons_zero])
              refine wpAnyH_take (i := 11) (oi := ⟨some 78, _, _, _, _, _⟩) (v := ?_) rfl (by kernel_rfl) (by kernel_rfl) (by kernel_rfl) (fun _ _ _ h => h) (Or.inl ⟨by kernel_rfl, ?_⟩) (by assumption) ?_
              rotate_left 1
              · (intro w hSw; (try dsimp only at hSw); go_simp) <;> (with_reducible rfl)
              (try simp only [Act.put, List.setIfInBounds_toArray, List.set_cons_succ, List.set_cons_zero])
              refine wpAnyH_take (i := 12) (oi := ⟨some 79, _, _, _, _, _⟩) (v := ?_) rfl (by kernel_rfl) (by kernel_rfl) (by kernel_rfl) (fun _ _ _ h => h) (Or.inl ⟨by kernel_rfl, ?_⟩) (by assumption) ?_
              rotate_left 1
              · (intro w hSw; (try dsimp only at hSw); go_simp) <;> (with_reducible rfl)
              (try simp only [Act.put, List.setIfInBounds_toArray, List.set_cons_succ, List.set_cons_zero])
              refine wpAnyH_ready (rs := [13]) (by kernel_rfl) (by simp) ?_
              refine AllReadyH.cons (o := ⟨some 9, _, _, _, _, _⟩) rfl (fun K' hK => ?_) AllReadyH.nil
              go_simp
              have CB := hide (Box.new ws 28 #[.int .i64 0, .int .i64 0, .slice none 0 0, .slice none 0 0, .slice none 0 0])
              have HCB := hide (show wa.heap.size ≤ ws.heap.size from KK.out.size)
              replace UP := hide (UP.out.below (bal (brefl _) (.cells #[.int .i64 0, .int .i64 0, .slice none 0 0, .slice none 0 0, .slice none 0 0] 28)))
              replace OB := hide (OB.out.below (bal (brefl _) (.cells #[.int .i64 0, .int .i64 0, .slice none 0 0, .slice none 0 0, .slice none 0 0] 28)))
              replace OC := hide (OC.out.below (bal (brefl _) (.cells #[.int .i64 0, .int .i64 0, .slice none 0 0, .slice none 0 0, .slice none 0 0] 28)))
              replace OQ := hide (OQ.out.below (bal (brefl _) (.cells #[.int .i64 0, .int .i64 0, .slice none 0 0, .slice none 0 0, .slice none 0 0] 28)))
              replace KK := hide (bal KK.out (.cells #[.int .i64 0, .int .i64 0, .slice none 0 0, .slice none 0 0, .slice none 0 0] 28))
              obtain ⟨cb, hcb⟩ : ∃ cb, cb = ws.heap.size := ⟨_, rfl⟩
              rw [← hcb] at CB HCB ⊢
              clear hcb
              generalize ws.alloc (.cells #[.int .i64 0, .int .i64 0, .slice none 0 0, .slice none 0 0, .slice none 0 0] 28) = we at *
              refine hK.out _ _ ?_ (fun hHeld => ?_)
              · exact CE.out _ KK.out
              clear hK K'
              (try simp only [Act.put, List.setIfInBounds_toArray, List.set_cons_succ, List.set_cons_zero])
              refine wpAnyH_ready (rs := [14]) (by kernel_rfl) (by simp) ?_
              refine AllReadyH.cons (o := ⟨none, _, _, _, _, _⟩) rfl (fun K' hK => ?_) AllReadyH.nil
              obtain ⟨b0, b1, b2, b3, b4⟩ := box5_cells (W' := we) CB.out
              have fb0 := CB.out.frozen 0
              have fb1 := CB.out.frozen 1
              have fb2 := CB.out.frozen 2
              have fb3 := CB.out.frozen 3
              have fb4 := CB.out.frozen 4
              go_simp
              have KS := hide (kp_set5 (B := wa.heap.size) CB.out HCB.out (.int .i64 F.dep) (.int .i64 F.nxt) (.slice F1 F.bl.length f1) (.slice F2 F.ca.length f2) (.slice F3 F.qu.length f3))
              replace OB := hide (OB.out.kp KS.out (by decide) (by decide))
              replace OC := hide (OC.out.kp KS.out (by decide) (by decide))
              replace OQ := hide (OQ.out.kp KS.out (by decide) (by decide))
              replace CB := hide (CB.out.set5 (.int .i64 F.dep) (.int .i64 F.nxt) (.slice F1 F.bl.length f1) (.slice F2 F.ca.length f2) (.slice F3 F.qu.length f3))
              replace KK := hide (KK.out.trans KS.out.below)
              clear b0 b1 b2 b3 b4 fb0 fb1 fb2 fb3 fb4 KS
              generalize ((((((we.setCell ⟨cb, 0, none⟩ (.int .i64 F.dep)).setCell ⟨cb, 1, none⟩ (.int .i64 F.nxt)).setCell ⟨cb, 2, none⟩ (.slice F1 F.bl.length f1)).setCell ⟨cb, 3, none⟩ (.slice F2 F.ca.length f2)).setCell ⟨cb, 4, none⟩ (.slice F3 F.qu.length f3))) = wg at *
              refine hK.out _ _ ?_ (fun hHeld => ?_)
              · exact CE.out _ KK.out
              clear hK K'
              (try simp only [Act.put, List.setIfInBounds_toArray, List.set_cons_succ, List.set_cons_zero])
              refine wpAnyH_take (i := 15) (oi := ⟨some 10, _, _, _, _, _⟩) (v := ?_) rfl (by kernel_rfl) (by kernel_rfl) (by kernel_rfl) (fun _ _ _ h => h) (Or.inl ⟨by kernel_rfl, ?_⟩) (by assumption) ?_
              rotate_left 1
              · (intro w hSw; (try dsimp only at hSw); go_simp) <;> (with_reducible rfl)
              (try simp only [Act.put, List.setIfInBounds_toArray, List.set_cons_succ, List.set_cons_zero])
              refine wpAnyH_take (i := 16) (oi := ⟨some 11, _, _, _, _, _⟩) (v := ?_) rfl (by kernel_rfl) (by kernel_rfl) (by kernel_rfl) (fun _ _ _ h => h) (Or.inl ⟨by kernel_rfl, ?_⟩) (by assumption) ?_
              rotate_left 1
              · (intro w hSw; (try dsimp only at hSw); go_simp) <;> (with_reducible rfl)
              (try simp only [Act.put, List.setIfInBounds_toArray, List.set_cons_succ, List.set_cons_zero])
              refine wpAnyH_done (by kernel_rfl) ?_ _
              refine NoPanic.normal ?_
              obtain ⟨c0, c1, c2, c3, c4⟩ := box5_cells (W' := wg) CB.out
              have XG := hide (X.out.below KK.out)
              obtain ⟨b0, b1, b2, b3, b4⟩ := box5_cells (W' := wg) XG.out
              have fb0 := XG.out.frozen 0
              have fb1 := XG.out.frozen 1
              have fb2 := XG.out.frozen 2
              have fb3 := XG.out.frozen 3
              have fb4 := XG.out.frozen 4
              clear x0' x1' x2' x3' x4'
              go_wp2
              have KS := hide (kp_set5 (B := w.heap.size) XG.out HG.out (.int .i64 F.dep) (.int .i64 F.nxt) (.slice F1 F.bl.length f1) (.slice F2 F.ca.length f2) (.slice F3 F.qu.length f3))
              have KB := hide (btrans KA.out KK.out)
              have RB2 := hide (RB.out.below KK.out)
              have hgne : w.heap.size ≠ g := by have := HG2.out; omega
              go_roundw
              case rel => exact ⟨k + 1, F, by omega, by go_num, PF, hide ⟨_, _, _, XG.out.set5 _ _ _ _ _, OB.out.kp KS.out (by decide) (by decide), OC.out.kp KS.out (by decide) (by decide), OQ.out.kp KS.out (by decide) (by decide)⟩, hide (RB2.out.far5 hgne _ _ _ _ _), hide (KB.out.trans KS.out.below)⟩
              case measure => simp [intOf]; omega
            refine AllReadyH.cons (o := ⟨some 9, _, _, _, _, _⟩) rfl (fun K' hK => ?_) AllReadyH.nil
            go_simp
            have CB := hide (Box.new wp 28 #[.int .i64 0, .int .i64 0, .slice none 0 0, .slice none 0 0, .slice none 0 0])
            have HCB := hide (show wa.heap.size ≤ wp.heap.size from KK.out.size)
            replace UP := hide (UP.out.below (bal (brefl _) (.cells #[.int .i64 0, .int .i64 0, .slice none 0 0, .slice none 0 0, .slice none 0 0] 28)))
            replace KK := hide (bal KK.out (.cells #[.int .i64 0, .int .i64 0, .slice none 0 0, .slice none 0 0, .slice none 0 0] 28))
            obtain ⟨cb, hcb⟩ : ∃ cb, cb = wp.heap.size := ⟨_, rfl⟩
            rw [← hcb] at CB HCB ⊢
            clear hcb
            generalize wp.alloc (.cells #[.int .i64 0, .int .i64 0, .slice none 0 0, .slice none 0 0, .slice none 0 0] 28) = we at *
            refine hK.out _ _ ?_ (fun hHeld => ?_)
            · exact CE.out _ KK.out
            clear hK K'
            (try simp only [Act.put, List.setIfInBounds_toArray, List.set_cons_succ, List.set_cons_zero])
            refine wpAnyH_ready (rs := [8]) (by kernel_rfl) (by simp) ?_
            refine AllReadyH.cons (o := ⟨some 76, _, _, _, _, _⟩) rfl (fun K' hK => ?_) AllReadyH.nil
            go_simp
            refine (SP.out _ KK.out _ UP.out.is).mono ?_
            rintro e ws ⟨vs, rfl, hos, hbs⟩
            obtain ⟨ub, uc, uq, rfl, ob, oc, oq⟩ := hos
            obtain ⟨F1, f1, rfl, _⟩ := ob.form
            obtain ⟨F2, f2, rfl, _⟩ := oc.form
            obtain ⟨F3, f3, rfl, _⟩ := oq.form
            have hsz := Nat.le_trans KA.out.size KK.out.size
            have OB := hide (ob.mono hsz)
            have OC := hide (oc.mono hsz)
            have OQ := hide (oq.mono hsz)
            replace KK := hide (btrans KK.out hbs)
            replace CB := hide (CB.out.below hbs)
            clear hbs ob oc oq hsz
            refine hK.out _ _ ?_ (fun hHeld => ?_)
            · exact CE.out _ KK.out
            clear hK K'
            (try simp only [Act.put, List.setIfInBounds_toArray, List.set_cons_succ, List.set_cons_zero])
            refine wpAnyH_take (i := 9) (oi := ⟨some 67, _, _, _, _, _⟩) (v := ?_) rfl (by kernel_rfl) (by kernel_rfl) (by kernel_rfl) (fun _ _ _ h => h) (Or.inl ⟨by kernel_rfl, ?_⟩) (by assumption) ?_
            rotate_left 1
            · (intro w hSw; (try dsimp only at hSw); go_simp) <;> (with_reducible rfl)
            (try simp only [Act.put, List.setIfInBounds_toArray, List.set_cons_succ, List.set_cons_zero])
            refine wpAnyH_take (i := 10) (oi := ⟨some 77, _, _, _, _, _⟩) (v := ?_) rfl (by kernel_rfl) (by kernel_rfl) (by kernel_rfl) (fun _ _ _ h => h) (Or.inl ⟨by kernel_rfl, ?_⟩) (by assumption) ?_
            rotate_left 1
            · (intro w hSw; (try dsimp only at hSw); go_simp) <;> (with_reducible rfl)
            (try simp only [Act.put, List.setIfInBounds_toArray, List.set_cons_succ, List.set_cons_zero])
            refine wpAnyH_take (i := 11) (oi := ⟨some 78, _, _, _, _, _⟩) (v := ?_) rfl (by kernel_rfl) (by kernel_rfl) (by kernel_rfl) (fun _ _ _ h => h) (Or.inl ⟨by kernel_rfl, ?_⟩) (by assumption) ?_
            rotate_left 1
            · (intro w hSw; (try dsimp only at hSw); go_simp) <;> (with_reducible rfl)
            (try simp only [Act.put, List.setIfInBounds_toArray, List.set_cons_succ, List.set_cons_zero])
            refine wpAnyH_take (i := 12) (oi := ⟨some 79, _, _, _, _, _⟩) (v := ?_) rfl (by kernel_rfl) (by kernel_rfl) (by kernel_rfl) (fun _ _ _ h => h) (Or.inl ⟨by kernel_rfl, ?_⟩) (by assumption) ?_
            rotate_left 1
            · (intro w hSw; (try dsimp only at hSw); go_simp) <;> (with_reducible rfl)
            (try simp only [Act.put, List.setIfInBounds_toArray, List.set_cons_succ, List.set_cons_zero])
            refine wpAnyH_ready (rs := [14]) (by kernel_rfl) (by simp) ?_
            refine AllReadyH.cons (o := ⟨none, _, _, _, _, _⟩) rfl (fun K' hK => ?_) AllReadyH.nil
            obtain ⟨b0, b1, b2, b3, b4⟩ := box5_cells (W' := ws) CB.out
            have fb0 := CB.out.frozen 0
            have fb1 := CB.out.frozen 1
            have fb2 := CB.out.frozen 2
            have fb3 := CB.out.frozen 3
            have fb4 := CB.out.frozen 4
            go_simp
            have KS := hide (kp_set5 (B := wa.heap.size) CB.out HCB.out (.int .i64 F.dep) (.int .i64 F.nxt) (.slice F1 F.bl.length f1) (.slice F2 F.ca.length f2) (.slice F3 F.qu.length f3))
            replace OB := hide (OB.out.kp KS.out (by decide) (by decide))
            replace OC := hide (OC.out.kp KS.out (by decide) (by decide))
            replace OQ := hide (OQ.out.kp KS.out (by decide) (by decide))
            replace CB := hide (CB.out.set5 (.int .i64 F.dep) (.int .i64 F.nxt) (.slice F1 F.bl.length f1) (.slice F2 F.ca.length f2) (.slice F3 F.qu.length f3))
            replace KK := hide (KK.out.trans KS.out.below)
            clear b0 b1 b2 b3 b4 fb0 fb1 fb2 fb3 fb4 KS
            generalize ((((((ws.setCell ⟨cb, 0, none⟩ (.int .i64 F.dep)).setCell ⟨cb, 1, none⟩ (.int .i64 F.nxt)).setCell ⟨cb, 2, none⟩ (.slice F1 F.bl.length f1)).setCell ⟨cb, 3, none⟩ (.slice F2 F.ca.length f2)).setCell ⟨cb, 4, none⟩ (.slice F3 F.qu.length f3))) = wg at *
            refine hK.out _ _ ?_ (fun hHeld => ?_)
            · exact CE.out _ KK.out
            clear hK K'
            (try simp only [Act.put, List.setIfInBounds_toArray, List.set_cons_succ, List.set_cons_zero])
            refine wpAnyH_take (i := 15) (oi := ⟨some 10, _, _, _, _, _⟩) (v := ?_) rfl (by kernel_rfl) (by kernel_rfl) (by kernel_rfl) (fun _ _ _ h => h) (Or.inl ⟨by kernel_rfl, ?_⟩) (by assumption) ?_
            rotate_left 1
            · (intro w hSw; (try dsimp only at hSw); go_simp) <;> (with_reducible rfl)
            (try simp only [Act.put, List.setIfInBounds_toArray, List.set_cons_succ, List.set_cons_zero])
            refine wpAnyH_take (i := 16) (oi := ⟨some 11, _, _, _, _, _⟩) (v := ?_) rfl (by kernel_rfl) (by kernel_rfl) (by kernel_rfl) (fun _ _ _ h => h) (Or.inl ⟨by kernel_rfl, ?_⟩) (by assumption) ?_
            rotate_left 1
            · (intro w hSw; (try dsimp only at hSw); go_simp) <;> (with_reducible rfl)
            (try simp only [Act.put, List.setIfInBounds_toArray, List.set_cons_succ, List.set_cons_zero])
            refine wpAnyH_done (by kernel_rfl) ?_ _
            refine NoPanic.normal ?_
            obtain ⟨c0, c1, c2, c3, c4⟩ := box5_cells (W' := wg) CB.out
            have XG := hide (X.out.below KK.out)
            obtain ⟨b0, b1, b2, b3, b4⟩ := box5_cells (W' := wg) XG.out
            have fb0 := XG.out.frozen 0
            have fb1 := XG.out.frozen 1
            have fb2 := XG.out.frozen 2
            have fb3 := XG.out.frozen 3
            have fb4 := XG.out.frozen 4
            clear x0' x1' x2' x3' x4'
            go_wp2
            have KS := hide (kp_set5 (B := w.heap.size) XG.out HG.out (.int .i64 F.dep) (.int .i64 F.nxt) (.slice F1 F.bl.length f1) (.slice F2 F.ca.length f2) (.slice F3 F.qu.length f3))
            have KB := hide (btrans KA.out KK.out)
            have RB2 := hide (RB.out.below KK.out)
            have hgne : w.heap.size ≠ g := by have := HG2.out; omega
            go_roundw
            case rel => exact ⟨k + 1, F, by omega, by go_num, PF, hide ⟨_, _, _, XG.out.set5 _ _ _ _ _, OB.out.kp KS.out (by decide) (by decide), OC.out.kp KS.out (by decide) (by decide), OQ.out.kp KS.out (by decide) (by decide)⟩, hide (RB2.out.far5 hgne _ _ _ _ _), hide (KB.out.trans KS.out.below)⟩
            case measure => simp [intOf]; omega
          refine AllReadyH.cons (o := ⟨some 9, _, _, _, _, _⟩) rfl (fun K' hK => ?_) AllReadyH.nil
          go_simp
          have CB := hide (Box.new w0 28 #[.int .i64 0, .int .i64 0, .slice none 0 0, .slice none 0 0, .slice none 0 0])
          have HCB := hide (show wa.heap.size ≤ w0.heap.size from KK.out.size)
          replace KK := hide (bal KK.out (.cells #[.int .i64 0, .int .i64 0, .slice none 0 0, .slice none 0 0, .slice none 0 0] 28))
          obtain ⟨cb, hcb⟩ : ∃ cb, cb = w0.heap.size := ⟨_, rfl⟩
          rw [← hcb] at CB HCB ⊢
          clear hcb
          generalize w0.alloc (.cells #[.int .i64 0, .int .i64 0, .slice none 0 0, .slice none 0 0, .slice none 0 0] 28) = we at *
          refine hK.out _ _ ?_ (fun hHeld => ?_)
          · exact CE.out _ KK.out
          clear hK K'
          (try simp only [Act.put, List.setIfInBounds_toArray, List.set_cons_succ, List.set_cons_zero])
          refine wpAnyH_ready (rs := [7]) (by kernel_rfl) (by simp) ?_
          refine AllReadyH.cons (o := ⟨some 75, _, _, _, _, _⟩) rfl (fun K' hK => ?_) AllReadyH.nil
          go_simp
          refine (page_any x2 _).mono ?_
          rintro e wp ⟨vp, rfl, hop, hbp⟩
          obtain ⟨Ap, cp, rfl⟩ := hop.form
          have UP := hide hop
          replace KK := hide (btrans KK.out hbp)
          replace CB := hide (CB.out.below hbp)
          clear hop hbp
          refine hK.out _ _ ?_ (fun hHeld => ?_)
          · exact CE.out _ KK.out
          clear hK K'
          (try simp only [Act.put, List.setIfInBounds_toArray, List.set_cons_succ, List.set_cons_zero])
          refine wpAnyH_ready (rs := [8]) (by kernel_rfl) (by simp) ?_
          refine AllReadyH.cons (o := ⟨some 76, _, _, _, _, _⟩) rfl (fun K' hK => ?_) AllReadyH.nil
          go_simp
          refine (SP.out _ KK.out _ UP.out.is).mono ?_
          rintro e ws ⟨vs, rfl, hos, hbs⟩
          obtain ⟨ub, uc, uq, rfl, ob, oc, oq⟩ := hos
          obtain ⟨F1, f1, rfl, _⟩ := ob.form
          obtain ⟨F2, f2, rfl, _⟩ := oc.form
          obtain ⟨F3, f3, rfl, _⟩ := oq.form
          have hsz := Nat.le_trans KA.out.size KK.out.size
          have OB := hide (ob.mono hsz)
          have OC := hide (oc.mono hsz)
          have OQ := hide (oq.mono hsz)
          replace KK := hide (btrans KK.out hbs)
          replace CB := hide (CB.out.below hbs)
          clear hbs ob oc oq hsz
          refine hK.out _ _ ?_ (fun hHeld => ?_)
          · exact CE.out _ KK.out
          clear hK K'
          (try simp only [Act.put, List.setIfInBounds_toArray, List.set_cons_succ, List.set_cons_zero])
          refine wpAnyH_take (i := 9) (oi := ⟨some 67, _, _, _, _, _⟩) (v := ?_) rfl (by kernel_rfl) (by kernel_rfl) (by kernel_rfl) (fun _ _ _ h => h) (Or.inl ⟨by kernel_rfl, ?_⟩) (by assumption) ?_
          rotate_left 1
          · (intro w hSw; (try dsimp only at hSw); go_simp) <;> (with_reducible rfl)
          (try simp only [Act.put, List.setIfInBounds_toArray, List.set_cons_succ, List.set_cons_zero])
          refine wpAnyH_take (i := 10) (oi := ⟨some 77, _, _, _, _, _⟩) (v := ?_) rfl (by kernel_rfl) (by kernel_rfl) (by kernel_rfl) (fun _ _ _ h => h) (Or.inl ⟨by kernel_rfl, ?_⟩) (by assumption) ?_
          rotate_left 1
          · (intro w hSw; (try dsimp only at hSw); go_simp) <;> (with_reducible rfl)
          (try simp only [Act.put, List.setIfInBounds_toArray, List.set_cons_succ, List.set_cons_zero])
          refine wpAnyH_take (i := 11) (oi := ⟨some 78, _, _, _, _, _⟩) (v := ?_) rfl (by kernel_rfl) (by kernel_rfl) (by kernel_rfl) (fun _ _ _ h => h) (Or.inl ⟨by kernel_rfl, ?_⟩) (by assumption) ?_
          rotate_left 1
          · (intro w hSw; (try dsimp only at hSw); go_simp) <;> (with_reducible rfl)
          (try simp only [Act.put, List.setIfInBounds_toArray, List.set_cons_succ, List.set_cons_zero])
          refine wpAnyH_take (i := 12) (oi := ⟨some 79, _, _, _, _, _⟩) (v := ?_) rfl (by kernel_rfl) (by kernel_rfl) (by kernel_rfl) (fun _ _ _ h => h) (Or.inl ⟨by kernel_rfl, ?_⟩) (by assumption) ?_
          rotate_left 1
          · (intro w hSw; (try dsimp only at hSw); go_simp) <;> (with_reducible rfl)
          (try simp only [Act.put, List.setIfInBounds_toArray, List.set_cons_succ, List.set_cons_zero])
          refine wpAnyH_ready (rs := [14]) (by kernel_rfl) (by simp) ?_
          refine AllReadyH.cons (o := ⟨none, _, _, _, _, _⟩) rfl (fun K' hK => ?_) AllReadyH.nil
          obtain ⟨b0, b1, b2, b3, b4⟩ := box5_cells (W' := ws) CB.out
          have fb0 := CB.out.frozen 0
          have fb1 := CB.out.frozen 1
          have fb2 := CB.out.frozen 2
          have fb3 := CB.out.frozen 3
          have fb4 := CB.out.frozen 4
          go_simp
          have KS := hide (kp_set5 (B := wa.heap.size) CB.out HCB.out (.int .i64 F.dep) (.int .i64 F.nxt) (.slice F1 F.bl.length f1) (.slice F2 F.ca.length f2) (.slice F3 F.qu.length f3))
          replace OB := hide (OB.out.kp KS.out (by decide) (by decide))
          replace OC := hide (OC.out.kp KS.out (by decide) (by decide))
          replace OQ := hide (OQ.out.kp KS.out (by decide) (by decide))
          replace CB := hide (CB.out.set5 (.int .i64 F.dep) (.int .i64 F.nxt) (.slice F1 F.bl.length f1) (.slice F2 F.ca.length f2) (.slice F3 F.qu.length f3))
          replace KK := hide (KK.out.trans KS.out.below)
          clear b0 b1 b2 b3 b4 fb0 fb1 fb2 fb3 fb4 KS
          generalize ((((((ws.setCell ⟨cb, 0, none⟩ (.int .i64 F.dep)).setCell ⟨cb, 1, none⟩ (.int .i64 F.nxt)).setCell ⟨cb, 2, none⟩ (.slice F1 F.bl.length f1)).setCell ⟨cb, 3, none⟩ (.slice F2 F.ca.length f2)).setCell ⟨cb, 4, none⟩ (.slice F3 F.qu.length f3))) = wg at *
          refine hK.out _ _ ?_ (fun hHeld => ?_)
          · exact CE.out _ KK.out
          clear hK K'
          (try simp only [Act.put, List.setIfInBounds_toArray, List.set_cons_succ, List.set_cons_zero])
          refine wpAnyH_take (i := 15) (oi := ⟨some 10, _, _, _, _, _⟩) (v := ?_) rfl (by kernel_rfl) (by kernel_rfl) (by kernel_rfl) (fun _ _ _ h => h) (Or.inl ⟨by kernel_rfl, ?_⟩) (by assumption) ?_
          rotate_left 1
          · (intro w hSw; (try dsimp only at hSw); go_simp) <;> (with_reducible rfl)
          (try simp only [Act.put, List.setIfInBounds_toArray, List.set_cons_succ, List.set_cons_zero])
          refine wpAnyH_take (i := 16) (oi := ⟨some 11, _, _, _, _, _⟩) (v := ?_) rfl (by kernel_rfl) (by kernel_rfl) (by kernel_rfl) (fun _ _ _ h => h) (Or.inl ⟨by kernel_rfl, ?_⟩) (by assumption) ?_
          rotate_left 1
          · (intro w hSw; (try dsimp only at hSw); go_simp) <;> (with_reducible rfl)
          (try simp only [Act.put, List.setIfInBounds_toArray, List.set_cons_succ, List.set_cons_zero])
          refine wpAnyH_done (by kernel_rfl) ?_ _
          refine NoPanic.normal ?_
          obtain ⟨c0, c1, c2, c3, c4⟩ := box5_cells (W' := wg) CB.out
          have XG := hide (X.out.below KK.out)
          obtain ⟨b0, b1, b2, b3, b4⟩ := box5_cells (W' := wg) XG.out
          have fb0 := XG.out.frozen 0
          have fb1 := XG.out.frozen 1
          have fb2 := XG.out.frozen 2
          have fb3 := XG.out.frozen 3
          have fb4 := XG.out.frozen 4
          clear x0' x1' x2' x3' x4'
          go_wp2
          have KS := hide (kp_set5 (B := w.heap.size) XG.out HG.out (.int .i64 F.dep) (.int .i64 F.nxt) (.slice F1 F.bl.length f1) (.slice F2 F.ca.length f2) (.slice F3 F.qu.length f3))
          have KB := hide (btrans KA.out KK.out)
          have RB2 := hide (RB.out.below KK.out)
          have hgne : w.heap.size ≠ g := by have := HG2.out; omega
          go_roundw
          case rel => exact ⟨k + 1, F, by omega, by go_num, PF, hide ⟨_, _, _, XG.out.set5 _ _ _ _ _, OB.out.kp KS.out (by decide) (by decide), OC.out.kp KS.out (by decide) (by decide), OQ.out.kp KS.out (by decide) (by decide)⟩, hide (RB2.out.far5 hgne _ _ _ _ _), hide (KB.out.trans KS.out.below)⟩
          case measure => simp [intOf]; omega
        · have e0 : sbE D 2 (IntKind.i64.wrap (x1.tmod 4)) 32 = 8 := by rw [SBE.out, if_neg hn]
          obtain ⟨F, hF⟩ : ∃ F, F = zeroD := ⟨_, rfl⟩
          have hn1 : decide ((D.qu.length : Int) < 4) = false := decide_eq_false (by omega)
          have hn2 : decide (4 ≤ (D.qu.length : Int)) = true := decide_eq_true (by omega)
          have hn3 : ¬ (D.qu.length : Int) < 4 := by omega
          have hn4 : 4 ≤ (D.qu.length : Int) := by omega
          rw [e0] at SP
          simp only [show ¬ (8 : Int) = 0 by decide, if_false] at SP
          rw [← hF] at SP
          clear e0 SBE hF hn
          go_upto_region 15 with fail
          clear a0 a1 a2 a3
          refine wp_region_noPanic ?_
          refine wp_region_held_drew (S := (fun W => W.cell? ⟨g, 0, none⟩ = some (.int .i64 D.dep) ∧ W.cell? ⟨g, 1, none⟩ = some (.int .i64 D.nxt) ∧ W.cell? ⟨g, 2, none⟩ = some (.slice E1 D.bl.length g1) ∧ W.cell? ⟨g, 3, none⟩ = some (.slice E2 D.ca.length g2) ∧ W.cell? ⟨g, 4, none⟩ = some (.slice E3 D.qu.length g3) ∧ W.cell? ⟨ab, 1, none⟩ = some (.int .u8 x1) ∧ W.cell? ⟨ab, 2, none⟩ = some (.int .u8 x2))) (by kernel_rfl) ?_ (fun hHeld => ?_)
          · exact CE.out _ (below_drew (brefl wa))
          have KK := hide (below_drew (brefl wa))
          generalize wa.drew = w0 at *
          refine wpAnyH_take (i := 0) (oi := ⟨some 68, _, _, _, _, _⟩) (v := ?_) rfl (by kernel_rfl) (by kernel_rfl) (by kernel_rfl) (fun _ _ _ h => h) (Or.inl ⟨by kernel_rfl, ?_⟩) (by assumption) ?_
          rotate_left 1
          · (intro w hSw; (try dsimp only at hSw); go_simp) <;> (with_reducible rfl)
          (try simp only [Act.put, List.setIfInBounds_toArray, List.set_cons_succ, List.set_cons_zero])
          refine wpAnyH_take (i := 1) (oi := ⟨some 69, _, _, _, _, _⟩) (v := ?_) rfl (by kernel_rfl) (by kernel_rfl) (by kernel_rfl) (fun _ _ _ h => h) (Or.inl ⟨by kernel_rfl, ?_⟩) (by assumption) ?_
          rotate_left 1
          · (intro w hSw; (try dsimp only at hSw); go_simp) <;> (with_reducible rfl)
          (try simp only [Act.put, List.setIfInBounds_toArray, List.set_cons_succ, List.set_cons_zero])
          refine wpAnyH_take (i := 2) (oi := ⟨some 70, _, _, _, _, _⟩) (v := ?_) rfl (by kernel_rfl) (by kernel_rfl) (by kernel_rfl) (fun _ _ _ h => h) (Or.inl ⟨by kernel_rfl, ?_⟩) (by assumption) ?_
          rotate_left 1
          · (intro w hSw; (try dsimp only at hSw); go_simp) <;> (with_reducible rfl)
          (try simp only [Act.put, List.setIfInBounds_toArray, List.set_cons_succ, List.set_cons_zero])
          refine wpAnyH_take (i := 3) (oi := ⟨some 71, _, _, _, _, _⟩) (v := ?_) rfl (by kernel_rfl) (by kernel_rfl) (by kernel_rfl) (fun _ _ _ h => h) (Or.inl ⟨by kernel_rfl, ?_⟩) (by assumption) ?_
          rotate_left 1
          · (intro w hSw; (try dsimp only at hSw); go_simp) <;> (with_reducible rfl)
          (try simp only [Act.put, List.setIfInBounds_toArray, List.set_cons_succ, List.set_cons_zero])
          refine wpAnyH_take (i := 4) (oi := ⟨some 72, _, _, _, _, _⟩) (v := ?_) rfl (by kernel_rfl) (by kernel_rfl) (by kernel_rfl) (fun _ _ _ h => h) (Or.inl ⟨by kernel_rfl, ?_⟩) (by assumption) ?_
          rotate_left 1
          · (intro w hSw; (try dsimp only at hSw); go_simp) <;> (with_reducible rfl)
          (try simp only [Act.put, List.setIfInBounds_toArray, List.set_cons_succ, List.set_cons_zero])
          refine wpAnyH_take (i := 5) (oi := ⟨some 73, _, _, _, _, _⟩) (v := ?_) rfl (by kernel_rfl) (by kernel_rfl) (by kernel_rfl) (fun _ _ _ h => h) (Or.inl ⟨by kernel_rfl, ?_⟩) (by assumption) ?_
          rotate_left 1
          · (intro w hSw; (try dsimp only at hSw); go_simp) <;> (with_reducible rfl)
          (try simp only [Act.put, List.setIfInBounds_toArray, List.set_cons_succ, List.set_cons_zero])
          refine wpAnyH_take (i := 6) (oi := ⟨some 74, _, _, _, _, _⟩) (v := ?_) rfl (by kernel_rfl) (by kernel_rfl) (by kernel_rfl) (fun _ _ _ h => h) (Or.inl ⟨by kernel_rfl, ?_⟩) (by assumption) ?_
          rotate_left 1
          · (intro w hSw; (try dsimp only at hSw); go_simp) <;> (with_reducible rfl)
          (try simp only [Act.put, List.setIfInBounds_toArray, List.set_cons_succ, List.set_cons_zero])
          refine wpAnyH_ready (rs := [7, 13]) (by kernel_rfl) (by simp) ?_
          refine AllReadyH.cons (o := ⟨some 75, _, _, _, _, _⟩) rfl (fun K' hK => ?_) ?_
          · go_simp
            refine (page_any x2 _).mono ?_
            rintro e wp ⟨vp, rfl, hop, hbp⟩
            obtain ⟨Ap, cp, rfl⟩ := hop.form
            have UP := hide hop
            replace KK := hide (btrans KK.out hbp)
            clear hop hbp
            refine hK.out _ _ ?_ (fun hHeld => ?_)
            · exact CE.out _ KK.out
            clear hK K'
            (try simp only [Act.put, List.setIfInBounds_toArray, List.set_cons_succ, List.set_cons_zero])
            refine wpAnyH_ready (rs := [8, 13]) (by kernel_rfl) (by simp) ?_
            refine AllReadyH.cons (o := ⟨some 76, _, _, _, _, _⟩) rfl (fun K' hK => ?_) ?_
            · go_simp
              refine (SP.out _ KK.out _ UP.out.is).mono ?_
              rintro e ws ⟨vs, rfl, hos, hbs⟩
              obtain ⟨ub, uc, uq, rfl, ob, oc, oq⟩ := hos
              obtain ⟨F1, f1, rfl, _⟩ := ob.form
              obtain ⟨F2, f2, rfl, _⟩ := oc.form
              obtain ⟨F3, f3, rfl, _⟩ := oq.form
              have hsz := Nat.le_trans KA.out.size KK.out.size
              have OB := hide (ob.mono hsz)
              have OC := hide (oc.mono hsz)
              have OQ := hide (oq.mono hsz)
              replace KK := hide (btrans KK.out hbs)
              clear hbs ob oc oq hsz
              refine hK.out _ _ ?_ (fun hHeld => ?_)
              · exact CE.out _ KK.out
              clear hK K'
              (try simp only [Act.put, List.setIfInBounds_toArray, List.set_cons_succ, List.set_cons_zero])
              refine wpAnyH_take (i := 9) (oi := ⟨some 67, _, _, _, _, _⟩) (v := ?_) rfl (by kernel_rfl) (by kernel_rfl) (by kernel_rfl) (fun _ _ _ h => h) (Or.inl ⟨by kernel_rfl, ?_⟩) (by assumption) ?_
              rotate_left 1
              · (intro w hSw; (try dsimp only at hSw); go_simp) <;> (with_reducible rfl)
              (try simp only [Act.put, List.setIfInBounds_toArray, List.set_cons_succ, List.set_cons_zero])
              refine wpAnyH_take (i := 10) (oi := ⟨some 77, _, _, _, _, _⟩) (v := ?_) rfl (by kernel_rfl) (by kernel_rfl) (by kernel_rfl) (fun _ _ _ h => h) (Or.inl ⟨by kernel_rfl, ?_⟩) (by assumption) ?_
              rotate_left 1
              · (intro w hSw; (try dsimp only at hSw); go_simp) <;> (with_reducible rfl)
              (try simp only [Act.put, List.setIfInBounds_toArray, List.set_cons_succ, List.set_cons_zero])
              refine wpAnyH_take (i := 11) (oi := ⟨some 78, _, _, _, _, _⟩) (v := ?_) rfl (by kernel_rfl) (by kernel_rfl) (by kernel_rfl) (fun _ _ _ h => h) (Or.inl ⟨by kernel_rfl, ?_⟩) (by assumption) ?_
              rotate_left 1
              · (intro w hSw; (try dsimp only at hSw); go_simp) <;> (with_reducible rfl)
              (try simp only [Act.put, List.setIfInBounds_toArray, List.set_cons_succ, List.set_cons_zero])
              refine wpAnyH_take (i := 12) (oi := ⟨some 79, _, _, _, _, _⟩) (v := ?_) rfl (by kernel_rfl) (by kernel_rfl) (by kernel_rfl) (fun _ _ _ h => h) (Or.inl ⟨by kernel_rfl, ?_⟩) (by assumption) ?_
              rotate_left 1
              · (intro w hSw; (try dsimp only at hSw); go_simp) <;> (with_reducible rfl)
              (try simp only [Act.put, List.setIfInBounds_toArray, List.set_cons_succ, List.set_cons_zero])
              refine wpAnyH_ready (rs := [13]) (by kernel_rfl) (by simp) ?_
              refine AllReadyH.cons (o := ⟨some 9, _, _, _, _, _⟩) rfl (fun K' hK => ?_) AllReadyH.nil
              go_simp
              have CB := hide (Box.new ws 28 #[.int .i64 0, .int .i64 0, .slice none 0 0, .slice none 0 0, .slice none 0 0])
              have HCB := hide (show wa.heap.size ≤ ws.heap.size from KK.out.size)
              replace UP := hide (UP.out.below (bal (brefl _) (.cells #[.int .i64 0, .int .i64 0, .slice none 0 0, .slice none 0 0, .slice none 0 0] 28)))
              replace OB := hide (OB.out.below (bal (brefl _) (.cells #[.int .i64 0, .int .i64 0, .slice none 0 0, .slice none 0 0, .slice none 0 0] 28)))
              replace OC := hide (OC.out.below (bal (brefl _) (.cells #[.int .i64 0, .int .i64 0, .slice none 0 0, .slice none 0 0, .slice none 0 0] 28)))
              replace OQ := hide (OQ.out.below (bal (brefl _) (.cells #[.int .i64 0, .int .i64 0, .slice none 0 0, .slice none 0 0, .slice none 0 0] 28)))
              replace KK := hide (bal KK.out (.cells #[.int .i64 0, .int .i64 0, .slice none 0 0, .slice none 0 0, .slice none 0 0] 28))
              obtain ⟨cb, hcb⟩ : ∃ cb, cb = ws.heap.size := ⟨_, rfl⟩
              rw [← hcb] at CB HCB ⊢
              clear hcb
              generalize ws.alloc (.cells #[.int .i64 0, .int .i64 0, .slice none 0 0, .slice none 0 0, .slice none 0 0] 28) = we at *
              refine hK.out _ _ ?_ (fun hHeld => ?_)
              · exact CE.out _ KK.out
              clear hK K'
              (try simp only [Act.put, List.setIfInBounds_toArray, List.set_cons_succ, List.set_cons_zero])
              refine wpAnyH_ready (rs := [14]) (by kernel_rfl) (by simp) ?_
              refine AllReadyH.cons (o := ⟨none, _, _, _, _, _⟩) rfl (fun K' hK => ?_) AllReadyH.nil
              obtain ⟨b0, b1, b2, b3, b4⟩ := box5_cells (W' := we) CB.out
              have fb0 := CB.out.frozen 0
              have fb1 := CB.out.frozen 1
              have fb2 := CB.out.frozen 2
              have fb3 := CB.out.frozen 3
              have fb4 := CB.out.frozen 4
              go_simp
              have KS := hide (kp_set5 (B := wa.heap.size) CB.out HCB.out (.int .i64 F.dep) (.int .i64 F.nxt) (.slice F1 F.bl.length f1) (.slice F2 F.ca.length f2) (.slice F3 F.qu.length f3))
              replace OB := hide (OB.out.kp KS.out (by decide) (by decide))
              replace OC := hide (OC.out.kp KS.out (by decide) (by decide))
              replace OQ := hide (OQ.out.kp KS.out (by decide) (by decide))
              replace CB := hide (CB.out.set5 (.int .i64 F.dep) (.int .i64 F.nxt) (.slice F1 F.bl.length f1) (.slice F2 F.ca.length f2) (.slice F3 F.qu.length f3))
              replace KK := hide (KK.out.trans KS.out.below)
              clear b0 b1 b2 b3 b4 fb0 fb1 fb2 fb3 fb4 KS
              generalize ((((((we.setCell ⟨cb, 0, none⟩ (.int .i64 F.dep)).setCell ⟨cb, 1, none⟩ (.int .i64 F.nxt)).setCell ⟨cb, 2, none⟩ (.slice F1 F.bl.length f1)).setCell ⟨cb, 3, none⟩ (.slice F2 F.ca.length f2)).setCell ⟨cb, 4, none⟩ (.slice F3 F.qu.length f3))) = wg at *
              refine hK.out _ _ ?_ (fun hHeld => ?_)
              · exact CE.out _ KK.out
              clear hK K'
              (try simp only [Act.put, List.setIfInBounds_toArray, List.set_cons_succ, List.set_cons_zero])
              refine wpAnyH_take (i := 15) (oi := ⟨some 10, _, _, _, _, _⟩) (v := ?_) rfl (by kernel_rfl) (by kernel_rfl) (by kernel_rfl) (fun _ _ _ h => h) (Or.inl ⟨by kernel_rfl, ?_⟩) (by assumption) ?_
              rotate_left 1
              · (intro w hSw; (try dsimp only at hSw); go_simp) <;> (with_reducible rfl)
              (try simp only [Act.put, List.setIfInBounds_toArray, List.set_cons_succ, List.set_cons_zero])
              refine wpAnyH_take (i := 16) (oi := ⟨some 11, _, _, _, _, _⟩) (v := ?_) rfl (by kernel_rfl) (by kernel_rfl) (by kernel_rfl) (fun _ _ _ h => h) (Or.inl ⟨by kernel_rfl, ?_⟩) (by assumption) ?_
              rotate_left 1
              · (intro w hSw; (try dsimp only at hSw); go_simp) <;> (with_reducible rfl)
              (try simp only [Act.put, List.setIfInBounds_toArray, List.set_cons_succ, List.set_cons_zero])
              refine wpAnyH_done (by kernel_rfl) ?_ _
              refine NoPanic.normal ?_
              go_wp2
              go_roundw
              case rel => exact ⟨k + 1, D, by omega, by go_num, hide (P0.out.mono (by omega)), hide ((DA.out).below KK.out), hide (RB.out.below KK.out), hide (btrans KA.out KK.out)⟩
              case measure => simp [intOf]; omega
            refine AllReadyH.cons (o := ⟨some 9, _, _, _, _, _⟩) rfl (fun K' hK => ?_) AllReadyH.nil
            go_simp
            have CB := hide (Box.new wp 28 #[.int .i64 0, .int .i64 0, .slice none 0 0, .slice none 0 0, .slice none 0 0])
            have HCB := hide (show wa.heap.size ≤ wp.heap.size from KK.out.size)
            replace UP := hide (UP.out.below (bal (brefl _) (.cells #[.int .i64 0, .int .i64 0, .slice none 0 0, .slice none 0 0, .slice none 0 0] 28)))
            replace KK := hide (bal KK.out (.cells #[.int .i64 0, .int .i64 0, .slice none 0 0, .slice none 0 0, .slice none 0 0] 28))
            obtain ⟨cb, hcb⟩ : ∃ cb, cb = wp.heap.size := ⟨_, rfl⟩
            rw [← hcb] at CB HCB ⊢
            clear hcb
            generalize wp.alloc (.cells #[.int .i64 0, .int .i64 0, .slice none 0 0, .slice none 0 0, .slice none 0 0] 28) = we at *
            refine hK.out _ _ ?_ (fun hHeld => ?_)
            · exact CE.out _ KK.out
            clear hK K'
            (try simp only [Act.put, List.setIfInBounds_toArray, List.set_cons_succ, List.set_cons_zero])
            refine wpAnyH_ready (rs := [8]) (by kernel_rfl) (by simp) ?_
            refine AllReadyH.cons (o := ⟨some 76, _, _, _, _, _⟩) rfl (fun K' hK => ?_) AllReadyH.nil
            go_simp
            refine (SP.out _ KK.out _ UP.out.is).mono ?_
            rintro e ws ⟨vs, rfl, hos, hbs⟩
            obtain ⟨ub, uc, uq, rfl, ob, oc, oq⟩ := hos
            obtain ⟨F1, f1, rfl, _⟩ := ob.form
            obtain ⟨F2, f2, rfl, _⟩ := oc.form
            obtain ⟨F3, f3, rfl, _⟩ := oq.form
            have hsz := Nat.le_trans KA.out.size KK.out.size
            have OB := hide (ob.mono hsz)
            have OC := hide (oc.mono hsz)
            have OQ := hide (oq.mono hsz)
            replace KK := hide (btrans KK.out hbs)
            replace CB := hide (CB.out.below hbs)
            clear hbs ob oc oq hsz
            refine hK.out _ _ ?_ (fun hHeld => ?_)
            · exact CE.out _ KK.out
            clear hK K'
            (try simp only [Act.put, List.setIfInBounds_toArray, List.set_cons_succ, List.set_cons_zero])
            refine wpAnyH_take (i := 9) (oi := ⟨some 67, _, _, _, _, _⟩) (v := ?_) rfl (by kernel_rfl) (by kernel_rfl) (by kernel_rfl) (fun _ _ _ h => h) (Or.inl ⟨by kernel_rfl, ?_⟩) (by assumption) ?_
            rotate_left 1
            · (intro w hSw; (try dsimp only at hSw); go_simp) <;> (with_reducible rfl)
            (try simp only [Act.put, List.setIfInBounds_toArray, List.set_cons_succ, List.set_cons_zero])
            refine wpAnyH_take (i := 10) (oi := ⟨some 77, _, _, _, _, _⟩) (v := ?_) rfl (by kernel_rfl) (by kernel_rfl) (by kernel_rfl) (fun _ _ _ h => h) (Or.inl ⟨by kernel_rfl, ?_⟩) (by assumption) ?_
            rotate_left 1
            · (intro w hSw; (try dsimp only at hSw); go_simp) <;> (with_reducible rfl)
            (try simp only [Act.put, List.setIfInBounds_toArray, List.set_cons_succ, List.set_cons_zero])
            refine wpAnyH_take (i := 11) (oi := ⟨some 78, _, _, _, _, _⟩) (v := ?_) rfl (by kernel_rfl) (by kernel_rfl) (by kernel_rfl) (fun _ _ _ h => h) (Or.inl ⟨by kernel_rfl, ?_⟩) (by assumption) ?_
            rotate_left 1
            · (intro w hSw; (try dsimp only at hSw); go_simp) <;> (with_reducible rfl)
            (try simp only [Act.put, List.setIfInBounds_toArray, List.set_cons_succ, List.set_cons_zero])
            refine wpAnyH_take (i := 12) (oi := ⟨some 79, _, _, _, _, _⟩) (v := ?_) rfl (by kernel_rfl) (by kernel_rfl) (by kernel_rfl) (fun _ _ _ h => h) (Or.inl ⟨by kernel_rfl, ?_⟩) (by assumption) ?_
            rotate_left 1
            · (intro w hSw; (try dsimp only at hSw); go_simp) <;> (with_reducible rfl)
            (try simp only [Act.put, List.setIfInBounds_toArray, List.set_cons_succ, List.set_cons_zero])
            refine wpAnyH_ready (rs := [14]) (by kernel_rfl) (by simp) ?_
            refine AllReadyH.cons (o := ⟨none, _, _, _, _, _⟩) rfl (fun K' hK => ?_) AllReadyH.nil
            obtain ⟨b0, b1, b2, b3, b4⟩ := box5_cells (W' := ws) CB.out
            have fb0 := CB.out.frozen 0
            have fb1 := CB.out.frozen 1
            have fb2 := CB.out.frozen 2
            have fb3 := CB.out.frozen 3
            have fb4 := CB.out.frozen 4
            go_simp
            have KS := hide (kp_set5 (B := wa.heap.size) CB.out HCB.out (.int .i64 F.dep) (.int .i64 F.nxt) (.slice F1 F.bl.length f1) (.slice F2 F.ca.length f2) (.slice F3 F.qu.length f3))
            replace OB := hide (OB.out.kp KS.out (by decide) (by decide))
            replace OC := hide (OC.out.kp KS.out (by decide) (by decide))
            replace OQ := hide (OQ.out.kp KS.out (by decide) (by decide))
            replace CB := hide (CB.out.set5 (.int .i64 F.dep) (.int .i64 F.nxt) (.slice F1 F.bl.length f1) (.slice F2 F.ca.length f2) (.slice F3 F.qu.length f3))
            replace KK := hide (KK.out.trans KS.out.below)
            clear b0 b1 b2 b3 b4 fb0 fb1 fb2 fb3 fb4 KS
            generalize ((((((ws.setCell ⟨cb, 0, none⟩ (.int .i64 F.dep)).setCell ⟨cb, 1, none⟩ (.int .i64 F.nxt)).setCell ⟨cb, 2, none⟩ (.slice F1 F.bl.length f1)).setCell ⟨cb, 3, none⟩ (.slice F2 F.ca.length f2)).setCell ⟨cb, 4, none⟩ (.slice F3 F.qu.length f3))) = wg at *
            refine hK.out _ _ ?_ (fun hHeld => ?_)
            · exact CE.out _ KK.out
            clear hK K'
            (try simp only [Act.put, List.setIfInBounds_toArray, List.set_cons_succ, List.set_cons_zero])
            refine wpAnyH_take (i := 15) (oi := ⟨some 10, _, _, _, _, _⟩) (v := ?_) rfl (by kernel_rfl) (by kernel_rfl) (by kernel_rfl) (fun _ _ _ h => h) (Or.inl ⟨by kernel_rfl, ?_⟩) (by assumption) ?_
            rotate_left 1
            · (intro w hSw; (try dsimp only at hSw); go_simp) <;> (with_reducible rfl)
            (try simp only [Act.put, List.setIfInBounds_toArray, List.set_cons_succ, List.set_cons_zero])
            refine wpAnyH_take (i := 16) (oi := ⟨some 11, _, _, _, _, _⟩) (v := ?_) rfl (by kernel_rfl) (by kernel_rfl) (by kernel_rfl) (fun _ _ _ h => h) (Or.inl ⟨by kernel_rfl, ?_⟩) (by assumption) ?_
            rotate_left 1
            · (intro w hSw; (try dsimp only at hSw); go_simp) <;> (with_reducible rfl)
            (try simp only [Act.put, List.setIfInBounds_toArray, List.set_cons_succ, List.set_cons_zero])
            refine wpAnyH_done (by kernel_rfl) ?_ _
            refine NoPanic.normal ?_
            go_wp2
            go_roundw
            case rel => exact ⟨k + 1, D, by omega, by go_num, hide (P0.out.mono (by omega)), hide ((DA.out).below KK.out), hide (RB.out.below KK.out), hide (btrans KA.out KK.out)⟩
            case measure => simp [intOf]; omega
          refine AllReadyH.cons (o := ⟨some 9, _, _, _, _, _⟩) rfl (fun K' hK => ?_) AllReadyH.nil
          go_simp
          have CB := hide (Box.new w0 28 #[.int .i64 0, .int .i64 0, .slice none 0 0, .slice none 0 0, .slice none 0 0])
          have HCB := hide (show wa.heap.size ≤ w0.heap.size from KK.out.size)
          replace KK := hide (bal KK.out (.cells #[.int .i64 0, .int .i64 0, .slice none 0 0, .slice none 0 0, .slice none 0 0] 28))
          obtain ⟨cb, hcb⟩ : ∃ cb, cb = w0.heap.size := ⟨_, rfl⟩
          rw [← hcb] at CB HCB ⊢
          clear hcb
          generalize w0.alloc (.cells #[.int .i64 0, .int .i64 0, .slice none 0 0, .slice none 0 0, .slice none 0 0] 28) = we at *
          refine hK.out _ _ ?_ (fun hHeld => ?_)
          · exact CE.out _ KK.out
          clear hK K'
          (try simp only [Act.put, List.setIfInBounds_toArray, List.set_cons_succ, List.set_cons_zero])
          refine wpAnyH_ready (rs := [7]) (by kernel_rfl) (by simp) ?_
          refine AllReadyH.cons (o := ⟨some 75, _, _, _, _, _⟩) rfl (fun K' hK => ?_) AllReadyH.nil
          go_simp
          refine (page_any x2 _).mono ?_
          rintro e wp ⟨vp, rfl, hop, hbp⟩
          obtain ⟨Ap, cp, rfl⟩ := hop.form
          have UP := hide hop
          replace KK := hide (btrans KK.out hbp)
          replace CB := hide (CB.out.below hbp)
          clear hop hbp
          refine hK.out _ _ ?_ (fun hHeld => ?_)
          · exact CE.out _ KK.out
          clear hK K'
          (try simp only [Act.put, List.setIfInBounds_toArray, List.set_cons_succ, List.set_cons_zero])
          refine wpAnyH_ready (rs := [8]) (by kernel_rfl) (by simp) ?_
          refine AllReadyH.cons (o := ⟨some 76, _, _, _, _, _⟩) rfl (fun K' hK => ?_) AllReadyH.nil
          go_simp
          refine (SP.out _ KK.out _ UP.out.is).mono ?_
          rintro e ws ⟨vs, rfl, hos, hbs⟩
          obtain ⟨ub, uc, uq, rfl, ob, oc, oq⟩ := hos
          obtain ⟨F1, f1, rfl, _⟩ := ob.form
          obtain ⟨F2, f2, rfl, _⟩ := oc.form
          obtain ⟨F3, f3, rfl, _⟩ := oq.form
          have hsz := Nat.le_trans KA.out.size KK.out.size
          have OB := hide (ob.mono hsz)
          have OC := hide (oc.mono hsz)
          have OQ := hide (oq.mono hsz)
          replace KK := hide (btrans KK.out hbs)
          replace CB := hide (CB.out.below hbs)
          clear hbs ob oc oq hsz
          refine hK.out _ _ ?_ (fun hHeld => ?_)
          · exact CE.out _ KK.out
          clear hK K'
          (try simp only [Act.put, List.setIfInBounds_toArray, List.set_cons_succ, List.set_cons_zero])
          refine wpAnyH_take (i := 9) (oi := ⟨some 67, _, _, _, _, _⟩) (v := ?_) rfl (by kernel_rfl) (by kernel_rfl) (by kernel_rfl) (fun _ _ _ h => h) (Or.inl ⟨by kernel_rfl, ?_⟩) (by assumption) ?_
          rotate_left 1
          · (intro w hSw; (try dsimp only at hSw); go_simp) <;> (with_reducible rfl)
          (try simp only [Act.put, List.setIfInBounds_toArray, List.set_cons_succ, List.set_cons_zero])
          refine wpAnyH_take (i := 10) (oi := ⟨some 77, _, _, _, _, _⟩) (v := ?_) rfl (by kernel_rfl) (by kernel_rfl) (by kernel_rfl) (fun _ _ _ h => h) (Or.inl ⟨by kernel_rfl, ?_⟩) (by assumption) ?_
          rotate_left 1
          · (intro w hSw; (try dsimp only at hSw); go_simp) <;> (with_reducible rfl)
          (try simp only [Act.put, List.setIfInBounds_toArray, List.set_cons_succ, List.set_cons_zero])
          refine wpAnyH_take (i := 11) (oi := ⟨some 78, _, _, _, _, _⟩) (v := ?_) rfl (by kernel_rfl) (by kernel_rfl) (by kernel_rfl) (fun _ _ _ h => h) (Or.inl ⟨by kernel_rfl, ?_⟩) (by assumption) ?_
          rotate_left 1
          · (intro w hSw; (try dsimp only at hSw); go_simp) <;> (with_reducible rfl)
          (try simp only [Act.put, List.setIfInBounds_toArray, List.set_cons_succ, List.set_cons_zero])
          refine wpAnyH_take (i := 12) (oi := ⟨some 79, _, _, _, _, _⟩) (v := ?_) rfl (by kernel_rfl) (by kernel_rfl) (by kernel_rfl) (fun _ _ _ h => h) (Or.inl ⟨by kernel_rfl, ?_⟩) (by assumption) ?_
          rotate_left 1
          · (intro w hSw; (try dsimp only at hSw); go_simp) <;> (with_reducible rfl)
          (try simp only [Act.put, List.setIfInBounds_toArray, List.set_cons_succ, List.set_cons_zero])
          refine wpAnyH_ready (rs := [14]) (by kernel_rfl) (by simp) ?_
          refine AllReadyH.cons (o := ⟨none, _, _, _, _, _⟩) rfl (fun K' hK => ?_) AllReadyH.nil
          obtain ⟨b0, b1, b2, b3, b4⟩ := box5_cells (W' := ws) CB.out
          have fb0 := CB.out.frozen 0
          have fb1 := CB.out.frozen 1
          have fb2 := CB.out.frozen 2
          have fb3 := CB.out.frozen 3
          have fb4 := CB.out.frozen 4
          go_simp
          have KS := hide (kp_set5 (B := wa.heap.size) CB.out HCB.out (.int .i64 F.dep) (.int .i64 F.nxt) (.slice F1 F.bl.length f1) (.slice F2 F.ca.length f2) (.slice F3 F.qu.length f3))
          replace OB := hide (OB.out.kp KS.out (by decide) (by decide))
          replace OC := hide (OC.out.kp KS.out (by decide) (by decide))
          replace OQ := hide (OQ.out.kp KS.out (by decide) (by decide))
          replace CB := hide (CB.out.set5 (.int .i64 F.dep) (.int .i64 F.nxt) (.slice F1 F.bl.length f1) (.slice F2 F.ca.length f2) (.slice F3 F.qu.length f3))
          replace KK := hide (KK.out.trans KS.out.below)
          clear b0 b1 b2 b3 b4 fb0 fb1 fb2 fb3 fb4 KS
          generalize ((((((ws.setCell ⟨cb, 0, none⟩ (.int .i64 F.dep)).setCell ⟨cb, 1, none⟩ (.int .i64 F.nxt)).setCell ⟨cb, 2, none⟩ (.slice F1 F.bl.length f1)).setCell ⟨cb, 3, none⟩ (.slice F2 F.ca.length f2)).setCell ⟨cb, 4, none⟩ (.slice F3 F.qu.length f3))) = wg at *
          refine hK.out _ _ ?_ (fun hHeld => ?_)
          · exact CE.out _ KK.out
          clear hK K'
          (try simp only [Act.put, List.setIfInBounds_toArray, List.set_cons_succ, List.set_cons_zero])
          refine wpAnyH_take (i := 15) (oi := ⟨some 10, _, _, _, _, _⟩) (v := ?_) rfl (by kernel_rfl) (by kernel_rfl) (by kernel_rfl) (fun _ _ _ h => h) (Or.inl ⟨by kernel_rfl, ?_⟩) (by assumption) ?_
          rotate_left 1
          · (intro w hSw; (try dsimp only at hSw); go_simp) <;> (with_reducible rfl)
          (try simp only [Act.put, List.setIfInBounds_toArray, List.set_cons_succ, List.set_cons_zero])
          refine wpAnyH_take (i := 16) (oi := ⟨some 11, _, _, _, _, _⟩) (v := ?_) rfl (by kernel_rfl) (by kernel_rfl) (by kernel_rfl) (fun _ _ _ h => h) (Or.inl ⟨by kernel_rfl, ?_⟩) (by assumption) ?_
          rotate_left 1
          · (intro w hSw; (try dsimp only at hSw); go_simp) <;> (with_reducible rfl)
          (try simp only [Act.put, List.setIfInBounds_toArray, List.set_cons_succ, List.set_cons_zero])
          refine wpAnyH_done (by kernel_rfl) ?_ _
          refine NoPanic.normal ?_
          go_wp2
          go_roundw
          case rel => exact ⟨k + 1, D, by omega, by go_num, hide (P0.out.mono (by omega)), hide ((DA.out).below KK.out), hide (RB.out.below KK.out), hide (btrans KA.out KK.out)⟩
          case measure => simp [intOf]; omega
      by_cases h1 : x0 = 1
      · subst h1
        have REQ := hide (show reqE 4 3 0 ([] : By).length = 0 from r_f)
        have SN := hide (submit_any _ D 3 0 (.slice none 0 0) [] wa IN.out BIG.out (OwnBy.nil _).is)
        unfold DvR3 at SN
        have SBE := hide (sb4 (kd := 3) (b := 0) (len := ([] : By).length) P0.out (by omega) REQ.out)
        by_cases hn : D.qu.length < 4
        · have e0 : sbE D 3 0 ([] : By).length = 0 := by rw [SBE.out, if_pos hn]
          obtain ⟨F, hF⟩ : ∃ F, F = sbD D 3 0 [] := ⟨_, rfl⟩
          have PF := hide (show P4 F (k + 1) by rw [hF]; exact p4_sb P0.out e0)
          have hn1 : decide ((D.qu.length : Int) < 4) = true := decide_eq_true (by omega)
          have hn2 : decide (4 ≤ (D.qu.length : Int)) = false := decide_eq_false (by omega)
          have hn3 : (D.qu.length : Int) < 4 := by omega
          have hn4 : ¬ 4 ≤ (D.qu.length : Int) := by omega
          rw [e0] at SN
          simp only [if_true] at SN
          rw [← hF] at SN
          clear e0 SBE hF hn
          go_wp2_with fail
          refine SN.out.mono ?_
          rintro e ws ⟨vs, rfl, hos, hbs⟩
          obtain ⟨ub, uc, uq, rfl, ob, oc, oq⟩ := hos
          obtain ⟨F1, f1, rfl, _⟩ := ob.form
          obtain ⟨F2, f2, rfl, _⟩ := oc.form
          obtain ⟨F3, f3, rfl, _⟩ := oq.form
          have hsz := KA.out.size
          have OBJ : Obj := .cells #[.int .i64 F.dep, .int .i64 F.nxt, .slice F1 F.bl.length f1, .slice F2 F.ca.length f2, .slice F3 F.qu.length f3] 28
          have OB := hide ((ob.mono hsz).below (bal (brefl ws) (.cells #[.int .i64 F.dep, .int .i64 F.nxt, .slice F1 F.bl.length f1, .slice F2 F.ca.length f2, .slice F3 F.qu.length f3] 28)))
          have OC := hide ((oc.mono hsz).below (bal (brefl ws) (.cells #[.int .i64 F.dep, .int .i64 F.nxt, .slice F1 F.bl.length f1, .slice F2 F.ca.length f2, .slice F3 F.qu.length f3] 28)))
          have OQ := hide ((oq.mono hsz).below (bal (brefl ws) (.cells #[.int .i64 F.dep, .int .i64 F.nxt, .slice F1 F.bl.length f1, .slice F2 F.ca.length f2, .slice F3 F.qu.length f3] 28)))
          have CB := hide (Box.new ws 28 #[.int .i64 F.dep, .int .i64 F.nxt, .slice F1 F.bl.length f1, .slice F2 F.ca.length f2, .slice F3 F.qu.length f3])
          have KK := hide (bal hbs (.cells #[.int .i64 F.dep, .int .i64 F.nxt, .slice F1 F.bl.length f1, .slice F2 F.ca.length f2, .slice F3 F.qu.length f3] 28))
          clear hbs ob oc oq OBJ
          go_upto_region 26 with fail
          obtain ⟨cb, hcb⟩ : ∃ cb, cb = ws.heap.size := ⟨_, rfl⟩
          rw [← hcb] at CB ⊢
          generalize ws.alloc (.cells #[.int .i64 F.dep, .int .i64 F.nxt, .slice F1 F.bl.length f1, .slice F2 F.ca.length f2, .slice F3 F.qu.length f3] 28) = wg at *
          clear hcb
          obtain ⟨c0, c1, c2, c3, c4⟩ := box5_cells (W' := wg) CB.out
          have XG := hide (X.out.below KK.out)
          obtain ⟨b0, b1, b2, b3, b4⟩ := box5_cells (W' := wg) XG.out
          have fb0 := XG.out.frozen 0
          have fb1 := XG.out.frozen 1
          have fb2 := XG.out.frozen 2
          have fb3 := XG.out.frozen 3
          have fb4 := XG.out.frozen 4
          clear x0' x1' x2' x3' x4'
          go_wp2
          have KS := hide (kp_set5 (B := w.heap.size) XG.out HG.out (.int .i64 F.dep) (.int .i64 F.nxt) (.slice F1 F.bl.length f1) (.slice F2 F.ca.length f2) (.slice F3 F.qu.length f3))
          have KB := hide (btrans KA.out KK.out)
          have RB2 := hide (RB.out.below KK.out)
          have hgne : w.heap.size ≠ g := by have := HG2.out; omega
          go_roundw
          case rel => exact ⟨k + 1, F, by omega, by go_num, PF, hide ⟨_, _, _, XG.out.set5 _ _ _ _ _, OB.out.kp KS.out (by decide) (by decide), OC.out.kp KS.out (by decide) (by decide), OQ.out.kp KS.out (by decide) (by decide)⟩, hide (RB2.out.far5 hgne _ _ _ _ _), hide (KB.out.trans KS.out.below)⟩
          case measure => simp [intOf]; omega
        · have e0 : sbE D 3 0 ([] : By).length = 8 := by rw [SBE.out, if_neg hn]
          obtain ⟨F, hF⟩ : ∃ F, F = zeroD := ⟨_, rfl⟩
          have hn1 : decide ((D.qu.length : Int) < 4) = false := decide_eq_false (by omega)
          have hn2 : decide (4 ≤ (D.qu.length : Int)) = true := decide_eq_true (by omega)
          have hn3 : ¬ (D.qu.length : Int) < 4 := by omega
          have hn4 : 4 ≤ (D.qu.length : Int) := by omega
          rw [e0] at SN
          simp only [show ¬ (8 : Int) = 0 by decide, if_false] at SN
          rw [← hF] at SN
          clear e0 SBE hF hn
          go_wp2_with fail
          refine SN.out.mono ?_
          rintro e ws ⟨vs, rfl, hos, hbs⟩
          obtain ⟨ub, uc, uq, rfl, ob, oc, oq⟩ := hos
          obtain ⟨F1, f1, rfl, _⟩ := ob.form
          obtain ⟨F2, f2, rfl, _⟩ := oc.form
          obtain ⟨F3, f3, rfl, _⟩ := oq.form
          have hsz := KA.out.size
          have OBJ : Obj := .cells #[.int .i64 F.dep, .int .i64 F.nxt, .slice F1 F.bl.length f1, .slice F2 F.ca.length f2, .slice F3 F.qu.length f3] 28
          have OB := hide ((ob.mono hsz).below (bal (brefl ws) (.cells #[.int .i64 F.dep, .int .i64 F.nxt, .slice F1 F.bl.length f1, .slice F2 F.ca.length f2, .slice F3 F.qu.length f3] 28)))
          have OC := hide ((oc.mono hsz).below (bal (brefl ws) (.cells #[.int .i64 F.dep, .int .i64 F.nxt, .slice F1 F.bl.length f1, .slice F2 F.ca.length f2, .slice F3 F.qu.length f3] 28)))
          have OQ := hide ((oq.mono hsz).below (bal (brefl ws) (.cells #[.int .i64 F.dep, .int .i64 F.nxt, .slice F1 F.bl.length f1, .slice F2 F.ca.length f2, .slice F3 F.qu.length f3] 28)))
          have CB := hide (Box.new ws 28 #[.int .i64 F.dep, .int .i64 F.nxt, .slice F1 F.bl.length f1, .slice F2 F.ca.length f2, .slice F3 F.qu.length f3])
          have KK := hide (bal hbs (.cells #[.int .i64 F.dep, .int .i64 F.nxt, .slice F1 F.bl.length f1, .slice F2 F.ca.length f2, .slice F3 F.qu.length f3] 28))
          clear hbs ob oc oq OBJ
          go_upto_region 26 with fail
          obtain ⟨cb, hcb⟩ : ∃ cb, cb = ws.heap.size := ⟨_, rfl⟩
          rw [← hcb] at CB ⊢
          generalize ws.alloc (.cells #[.int .i64 F.dep, .int .i64 F.nxt, .slice F1 F.bl.length f1, .slice F2 F.ca.length f2, .slice F3 F.qu.length f3] 28) = wg at *
          clear hcb
          go_wp2
          go_roundw
          case rel => exact ⟨k + 1, D, by omega, by go_num, hide (P0.out.mono (by omega)), hide ((DA.out).below KK.out), hide (RB.out.below KK.out), hide (btrans KA.out KK.out)⟩
          case measure => simp [intOf]; omega
      by_cases h2 : x0 = 2
      · subst h2
        have REQ := hide (show reqE 4 1 (x1 % 4) ([] : By).length = 0 from r_r (by omega) (by omega))
        have SN := hide (submit_any _ D 1 (x1 % 4) (.slice none 0 0) [] wa.drew (IN.out.below (below_drew (brefl wa))) BIG.out (OwnBy.nil _).is)
        unfold DvR3 at SN
        have SBE := hide (sb4 (kd := 1) (b := (x1 % 4)) (len := ([] : By).length) P0.out (by omega) REQ.out)
        by_cases hn : D.qu.length < 4
        · have e0 : sbE D 1 (x1 % 4) ([] : By).length = 0 := by rw [SBE.out, if_pos hn]
          obtain ⟨F, hF⟩ : ∃ F, F = sbD D 1 (x1 % 4) [] := ⟨_, rfl⟩
          have PF := hide (show P4 F (k + 1) by rw [hF]; exact p4_sb P0.out e0)
          have hn1 : decide ((D.qu.length : Int) < 4) = true := decide_eq_true (by omega)
          have hn2 : decide (4 ≤ (D.qu.length : Int)) = false := decide_eq_false (by omega)
          have hn3 : (D.qu.length : Int) < 4 := by omega
          have hn4 : ¬ 4 ≤ (D.qu.length : Int) := by omega
          rw [e0] at SN
          simp only [if_true] at SN
          rw [← hF] at SN
          clear e0 SBE hF hn
          go_upto_region 24 with fail
          refine wp_region_noPanic ?_
          refine wp_region_held_drew (S := (fun W => W.cell? ⟨ab, 1, none⟩ = some (.int .u8 x1))) (by kernel_rfl) ?_ (fun hHeld => ?_)
          · exact (AB.out.below (below_drew (brefl wa))).cell 1
          refine wpAnyH_take (i := 0) (oi := ⟨some 104, _, _, _, _, _⟩) (v := ?_) rfl (by kernel_rfl) (by kernel_rfl) (by kernel_rfl) (fun _ _ _ h => h) (Or.inl ⟨by kernel_rfl, ?_⟩) (by assumption) ?_
          rotate_left 1
          · (intro w hSw; (try dsimp only at hSw); go_simp) <;> (with_reducible rfl)
          (try simp only [Act.put, List.setIfInBounds_toArray, List.set_cons_succ, List.set_cons_zero])
          refine wpAnyH_take (i := 1) (oi := ⟨some 105, _, _, _, _, _⟩) (v := ?_) rfl (by kernel_rfl) (by kernel_rfl) (by kernel_rfl) (fun _ _ _ h => h) (Or.inl ⟨by kernel_rfl, ?_⟩) (by assumption) ?_
          rotate_left 1
          · (intro w hSw; (try dsimp only at hSw); go_simp) <;> (with_reducible rfl)
          (try simp only [Act.put, List.setIfInBounds_toArray, List.set_cons_succ, List.set_cons_zero])
          refine wpAnyH_take (i := 2) (oi := ⟨some 106, _, _, _, _, _⟩) (v := ?_) rfl (by kernel_rfl) (by kernel_rfl) (by kernel_rfl) (fun _ _ _ h => h) (Or.inl ⟨by kernel_rfl, ?_⟩) (by assumption) ?_
          rotate_left 1
          · (intro w hSw; (try dsimp only at hSw); go_simp) <;> (with_reducible rfl)
          (try simp only [Act.put, List.setIfInBounds_toArray, List.set_cons_succ, List.set_cons_zero])
          refine wpAnyH_take (i := 3) (oi := ⟨some 107, _, _, _, _, _⟩) (v := ?_) rfl (by kernel_rfl) (by kernel_rfl) (by kernel_rfl) (fun _ _ _ h => h) (Or.inl ⟨by kernel_rfl, ?_⟩) (by assumption) ?_
          rotate_left 1
          · (intro w hSw; (try dsimp only at hSw); go_simp) <;> (with_reducible rfl)
          (try simp only [Act.put, List.setIfInBounds_toArray, List.set_cons_succ, List.set_cons_zero])
          refine wpAnyH_take (i := 4) (oi := ⟨some 12, _, _, _, _, _⟩) (v := ?_) rfl (by kernel_rfl) (by kernel_rfl) (by kernel_rfl) (fun _ _ _ h => h) (Or.inl ⟨by kernel_rfl, ?_⟩) (by assumption) ?_
          rotate_left 1
          · (intro w hSw; (try dsimp only at hSw); go_simp) <;> (with_reducible rfl)
          (try simp only [Act.put, List.setIfInBounds_toArray, List.set_cons_succ, List.set_cons_zero])
          refine wpAnyH_take (i := 5) (oi := ⟨some 13, _, _, _, _, _⟩) (v := ?_) rfl (by kernel_rfl) (by kernel_rfl) (by kernel_rfl) (fun _ _ _ h => h) (Or.inl ⟨by kernel_rfl, ?_⟩) (by assumption) ?_
          rotate_left 1
          · (intro w hSw; (try dsimp only at hSw); go_simp) <;> (with_reducible rfl)
          (try simp only [Act.put, List.setIfInBounds_toArray, List.set_cons_succ, List.set_cons_zero])
          refine wpAnyH_done (by kernel_rfl) ?_ _
          refine NoPanic.normal ?_
          go_wp2_with fail
          refine SN.out.mono ?_
          rintro e ws ⟨vs, rfl, hos, hbs⟩
          obtain ⟨ub, uc, uq, rfl, ob, oc, oq⟩ := hos
          obtain ⟨F1, f1, rfl, _⟩ := ob.form
          obtain ⟨F2, f2, rfl, _⟩ := oc.form
          obtain ⟨F3, f3, rfl, _⟩ := oq.form
          have hsz := KA.out.size
          have OBJ : Obj := .cells #[.int .i64 F.dep, .int .i64 F.nxt, .slice F1 F.bl.length f1, .slice F2 F.ca.length f2, .slice F3 F.qu.length f3] 28
          have OB := hide ((ob.mono hsz).below (bal (brefl ws) (.cells #[.int .i64 F.dep, .int .i64 F.nxt, .slice F1 F.bl.length f1, .slice F2 F.ca.length f2, .slice F3 F.qu.length f3] 28)))
          have OC := hide ((oc.mono hsz).below (bal (brefl ws) (.cells #[.int .i64 F.dep, .int .i64 F.nxt, .slice F1 F.bl.length f1, .slice F2 F.ca.length f2, .slice F3 F.qu.length f3] 28)))
          have OQ := hide ((oq.mono hsz).below (bal (brefl ws) (.cells #[.int .i64 F.dep, .int .i64 F.nxt, .slice F1 F.bl.length f1, .slice F2 F.ca.length f2, .slice F3 F.qu.length f3] 28)))
          have CB := hide (Box.new ws 28 #[.int .i64 F.dep, .int .i64 F.nxt, .slice F1 F.bl.length f1, .slice F2 F.ca.length f2, .slice F3 F.qu.length f3])
          have KK := hide (bal (btrans (below_drew (brefl wa)) hbs) (.cells #[.int .i64 F.dep, .int .i64 F.nxt, .slice F1 F.bl.length f1, .slice F2 F.ca.length f2, .slice F3 F.qu.length f3] 28))
          clear hbs ob oc oq OBJ
          go_upto_region 26 with fail
          obtain ⟨cb, hcb⟩ : ∃ cb, cb = ws.heap.size := ⟨_, rfl⟩
          rw [← hcb] at CB ⊢
          generalize ws.alloc (.cells #[.int .i64 F.dep, .int .i64 F.nxt, .slice F1 F.bl.length f1, .slice F2 F.ca.length f2, .slice F3 F.qu.length f3] 28) = wg at *
          clear hcb
          obtain ⟨c0, c1, c2, c3, c4⟩ := box5_cells (W' := wg) CB.out
          have XG := hide (X.out.below KK.out)
          obtain ⟨b0, b1, b2, b3, b4⟩ := box5_cells (W' := wg) XG.out
          have fb0 := XG.out.frozen 0
          have fb1 := XG.out.frozen 1
          have fb2 := XG.out.frozen 2
          have fb3 := XG.out.frozen 3
          have fb4 := XG.out.frozen 4
          clear x0' x1' x2' x3' x4'
          go_wp2
          have KS := hide (kp_set5 (B := w.heap.size) XG.out HG.out (.int .i64 F.dep) (.int .i64 F.nxt) (.slice F1 F.bl.length f1) (.slice F2 F.ca.length f2) (.slice F3 F.qu.length f3))
          have KB := hide (btrans KA.out KK.out)
          have RB2 := hide (RB.out.below KK.out)
          have hgne : w.heap.size ≠ g := by have := HG2.out; omega
          go_roundw
          case rel => exact ⟨k + 1, F, by omega, by go_num, PF, hide ⟨_, _, _, XG.out.set5 _ _ _ _ _, OB.out.kp KS.out (by decide) (by decide), OC.out.kp KS.out (by decide) (by decide), OQ.out.kp KS.out (by decide) (by decide)⟩, hide (RB2.out.far5 hgne _ _ _ _ _), hide (KB.out.trans KS.out.below)⟩
          case measure => simp [intOf]; omega
        · have e0 : sbE D 1 (x1 % 4) ([] : By).length = 8 := by rw [SBE.out, if_neg hn]
          obtain ⟨F, hF⟩ : ∃ F, F = zeroD := ⟨_, rfl⟩
          have hn1 : decide ((D.qu.length : Int) < 4) = false := decide_eq_false (by omega)
          have hn2 : decide (4 ≤ (D.qu.length : Int)) = true := decide_eq_true (by omega)
          have hn3 : ¬ (D.qu.length : Int) < 4 := by omega
          have hn4 : 4 ≤ (D.qu.length : Int) := by omega
          rw [e0] at SN
          simp only [show ¬ (8 : Int) = 0 by decide, if_false] at SN
          rw [← hF] at SN
          clear e0 SBE hF hn
          go_upto_region 24 with fail
          refine wp_region_noPanic ?_
          refine wp_region_held_drew (S := (fun W => W.cell? ⟨ab, 1, none⟩ = some (.int .u8 x1))) (by kernel_rfl) ?_ (fun hHeld => ?_)
          · exact (AB.out.below (below_drew (brefl wa))).cell 1
          refine wpAnyH_take (i := 0) (oi := ⟨some 104, _, _, _, _, _⟩) (v := ?_) rfl (by kernel_rfl) (by kernel_rfl) (by kernel_rfl) (fun _ _ _ h => h) (Or.inl ⟨by kernel_rfl, ?_⟩) (by assumption) ?_
          rotate_left 1
          · (intro w hSw; (try dsimp only at hSw); go_simp) <;> (with_reducible rfl)
          (try simp only [Act.put, List.setIfInBounds_toArray, List.set_cons_succ, List.set_cons_zero])
          refine wpAnyH_take (i := 1) (oi := ⟨some 105, _, _, _, _, _⟩) (v := ?_) rfl (by kernel_rfl) (by kernel_rfl) (by kernel_rfl) (fun _ _ _ h => h) (Or.inl ⟨by kernel_rfl, ?_⟩) (by assumption) ?_
          rotate_left 1
          · (intro w hSw; (try dsimp only at hSw); go_simp) <;> (with_reducible rfl)
          (try simp only [Act.put, List.setIfInBounds_toArray, List.set_cons_succ, List.set_cons_zero])
          refine wpAnyH_take (i := 2) (oi := ⟨some 106, _, _, _, _, _⟩) (v := ?_) rfl (by kernel_rfl) (by kernel_rfl) (by kernel_rfl) (fun _ _ _ h => h) (Or.inl ⟨by kernel_rfl, ?_⟩) (by assumption) ?_
          rotate_left 1
          · (intro w hSw; (try dsimp only at hSw); go_simp) <;> (with_reducible rfl)
          (try simp only [Act.put, List.setIfInBounds_toArray, List.set_cons_succ, List.set_cons_zero])
          refine wpAnyH_take (i := 3) (oi := ⟨some 107, _, _, _, _, _⟩) (v := ?_) rfl (by kernel_rfl) (by kernel_rfl) (by kernel_rfl) (fun _ _ _ h => h) (Or.inl ⟨by kernel_rfl, ?_⟩) (by assumption) ?_
          rotate_left 1
          · (intro w hSw; (try dsimp only at hSw); go_simp) <;> (with_reducible rfl)
          (try simp only [Act.put, List.setIfInBounds_toArray, List.set_cons_succ, List.set_cons_zero])
          refine wpAnyH_take (i := 4) (oi := ⟨some 12, _, _, _, _, _⟩) (v := ?_) rfl (by kernel_rfl) (by kernel_rfl) (by kernel_rfl) (fun _ _ _ h => h) (Or.inl ⟨by kernel_rfl, ?_⟩) (by assumption) ?_
          rotate_left 1
          · (intro w hSw; (try dsimp only at hSw); go_simp) <;> (with_reducible rfl)
          (try simp only [Act.put, List.setIfInBounds_toArray, List.set_cons_succ, List.set_cons_zero])
          refine wpAnyH_take (i := 5) (oi := ⟨some 13, _, _, _, _, _⟩) (v := ?_) rfl (by kernel_rfl) (by kernel_rfl) (by kernel_rfl) (fun _ _ _ h => h) (Or.inl ⟨by kernel_rfl, ?_⟩) (by assumption) ?_
          rotate_left 1
          · (intro w hSw; (try dsimp only at hSw); go_simp) <;> (with_reducible rfl)
          (try simp only [Act.put, List.setIfInBounds_toArray, List.set_cons_succ, List.set_cons_zero])
          refine wpAnyH_done (by kernel_rfl) ?_ _
          refine NoPanic.normal ?_
          go_wp2_with fail
          refine SN.out.mono ?_
          rintro e ws ⟨vs, rfl, hos, hbs⟩
          obtain ⟨ub, uc, uq, rfl, ob, oc, oq⟩ := hos
          obtain ⟨F1, f1, rfl, _⟩ := ob.form
          obtain ⟨F2, f2, rfl, _⟩ := oc.form
          obtain ⟨F3, f3, rfl, _⟩ := oq.form
          have hsz := KA.out.size
          have OBJ : Obj := .cells #[.int .i64 F.dep, .int .i64 F.nxt, .slice F1 F.bl.length f1, .slice F2 F.ca.length f2, .slice F3 F.qu.length f3] 28
          have OB := hide ((ob.mono hsz).below (bal (brefl ws) (.cells #[.int .i64 F.dep, .int .i64 F.nxt, .slice F1 F.bl.length f1, .slice F2 F.ca.length f2, .slice F3 F.qu.length f3] 28)))
          have OC := hide ((oc.mono hsz).below (bal (brefl ws) (.cells #[.int .i64 F.dep, .int .i64 F.nxt, .slice F1 F.bl.length f1, .slice F2 F.ca.length f2, .slice F3 F.qu.length f3] 28)))
          have OQ := hide ((oq.mono hsz).below (bal (brefl ws) (.cells #[.int .i64 F.dep, .int .i64 F.nxt, .slice F1 F.bl.length f1, .slice F2 F.ca.length f2, .slice F3 F.qu.length f3] 28)))
          have CB := hide (Box.new ws 28 #[.int .i64 F.dep, .int .i64 F.nxt, .slice F1 F.bl.length f1, .slice F2 F.ca.length f2, .slice F3 F.qu.length f3])
          have KK := hide (bal (btrans (below_drew (brefl wa)) hbs) (.cells #[.int .i64 F.dep, .int .i64 F.nxt, .slice F1 F.bl.length f1, .slice F2 F.ca.length f2, .slice F3 F.qu.length f3] 28))
          clear hbs ob oc oq OBJ
          go_upto_region 26 with fail
          obtain ⟨cb, hcb⟩ : ∃ cb, cb = ws.heap.size := ⟨_, rfl⟩
          rw [← hcb] at CB ⊢
          generalize ws.alloc (.cells #[.int .i64 F.dep, .int .i64 F.nxt, .slice F1 F.bl.length f1, .slice F2 F.ca.length f2, .slice F3 F.qu.length f3] 28) = wg at *
          clear hcb
          go_wp2
          go_roundw
          case rel => exact ⟨k + 1, D, by omega, by go_num, hide (P0.out.mono (by omega)), hide ((DA.out).below KK.out), hide (RB.out.below KK.out), hide (btrans KA.out KK.out)⟩
          case measure => simp [intOf]; omega
      · have hd0 : (x0 == 0) = false := by simpa using h0
        have hd1 : (x0 == 1) = false := by simpa using h1
        have hd2 : (x0 == 2) = false := by simpa using h2
        clear h0 h1 h2
        by_cases h4 : x0 = 4
        · subst h4
          clear hd0 hd1 hd2
          have CM := hide (complete_any _ D (x3 % 4) false wa IN.out BIG.out)
          unfold DqR at CM
          have CME := hide (cm4 (p := x3 % 4) P0.out (by omega))
          by_cases hn : (x3 % 4) < (D.qu.length : Int)
          · have e0 : cmE D (x3 % 4) = 0 := by rw [CME.out, if_pos hn]
            obtain ⟨F, hF⟩ : ∃ F, F = cmD D (x3 % 4).toNat false := ⟨_, rfl⟩
            have PF := hide (show P4 F (k + 1) by rw [hF]; exact (p4_cm P0.out (by omega)).mono (by omega))
            have hn1 : decide ((x3 % 4) < (D.qu.length : Int)) = true := decide_eq_true hn
            rw [e0] at CM
            simp only [if_true] at CM
            rw [← hF] at CM
            generalize cmQ D (x3 % 4).toNat false = fq at *
            obtain ⟨y0, y1, y2, l5⟩ := fq
            simp only at CM
            clear e0 CME hF
            go_wp2_with fail
            refine CM.out.mono ?_
            rintro e ws ⟨vs, u5, rfl, hos, hu5, hbs⟩
            obtain ⟨ub, uc, uq, rfl, ob, oc, oq⟩ := hos
            obtain ⟨F1, f1, rfl, _⟩ := ob.form
            obtain ⟨F2, f2, rfl, _⟩ := oc.form
            obtain ⟨F3, f3, rfl, _⟩ := oq.form
            obtain ⟨A5, d5, rfl⟩ := hu5.form
            have hsz := KA.out.size
            have MO := bal (bal (brefl ws) (.cells #[.int .i64 F.dep, .int .i64 F.nxt, .slice F1 F.bl.length f1, .slice F2 F.ca.length f2, .slice F3 F.qu.length f3] 28)) (.cells #[.int .i64 y0, .int .i64 y1, .int .i64 y2, .slice A5 l5.length d5] 39)
            have OB := hide ((ob.mono hsz).below MO)
            have OC := hide ((oc.mono hsz).below MO)
            have OQ := hide ((oq.mono hsz).below MO)
            have CB := hide ((Box.new ws 28 #[.int .i64 F.dep, .int .i64 F.nxt, .slice F1 F.bl.length f1, .slice F2 F.ca.length f2, .slice F3 F.qu.length f3]).more (.cells #[.int .i64 y0, .int .i64 y1, .int .i64 y2, .slice A5 l5.length d5] 39))
            have KK := hide (btrans hbs MO)
            clear hbs ob oc oq MO hu5
            go_upto_region 10 with fail
            obtain ⟨cb, hcb⟩ : ∃ cb, cb = ws.heap.size := ⟨_, rfl⟩
            rw [← hcb] at CB ⊢
            generalize (ws.alloc (.cells #[.int .i64 F.dep, .int .i64 F.nxt, .slice F1 F.bl.length f1, .slice F2 F.ca.length f2, .slice F3 F.qu.length f3] 28)).alloc (.cells #[.int .i64 y0, .int .i64 y1, .int .i64 y2, .slice A5 l5.length d5] 39) = wg at *
            clear hcb a0 a1 a2 a3
            have a3 := (AB.out.below KK.out).cell 3
            simp at a3
            obtain ⟨c0, c1, c2, c3, c4⟩ := box5_cells (W' := wg) CB.out
            have XG := hide (X.out.below KK.out)
            obtain ⟨b0, b1, b2, b3, b4⟩ := box5_cells (W' := wg) XG.out
            have fb0 := XG.out.frozen 0
            have fb1 := XG.out.frozen 1
            have fb2 := XG.out.frozen 2
            have fb3 := XG.out.frozen 3
            have fb4 := XG.out.frozen 4
            clear x0' x1' x2' x3' x4'
            go_wp2
            have KS := hide (kp_set5 (B := w.heap.size) XG.out HG.out (.int .i64 F.dep) (.int .i64 F.nxt) (.slice F1 F.bl.length f1) (.slice F2 F.ca.length f2) (.slice F3 F.qu.length f3))
            have KB := hide (btrans KA.out KK.out)
            have RB2 := hide (RB.out.below KK.out)
            have hgne : w.heap.size ≠ g := by have := HG2.out; omega
            go_roundw
            case rel => exact ⟨k + 1, F, by omega, by go_num, PF, hide ⟨_, _, _, XG.out.set5 _ _ _ _ _, OB.out.kp KS.out (by decide) (by decide), OC.out.kp KS.out (by decide) (by decide), OQ.out.kp KS.out (by decide) (by decide)⟩, hide (RB2.out.far5 hgne _ _ _ _ _), hide (KB.out.trans KS.out.below)⟩
            case measure => simp [intOf]; omega
          · have e0 : cmE D (x3 % 4) = 2 := by rw [CME.out, if_neg hn]
            obtain ⟨F, hF⟩ : ∃ F, F = zeroD := ⟨_, rfl⟩
            have hn1 : decide ((x3 % 4) < (D.qu.length : Int)) = false := decide_eq_false hn
            rw [e0] at CM
            simp only [show ¬ (2 : Int) = 0 by decide, if_false] at CM
            rw [← hF] at CM
            obtain ⟨fq, hfq⟩ : ∃ fq, fq = zeroQ := ⟨_, rfl⟩
            rw [← hfq] at CM
            obtain ⟨y0, y1, y2, l5⟩ := fq
            simp only at CM
            clear e0 CME hF hfq
            go_wp2_with fail
            refine CM.out.mono ?_
            rintro e ws ⟨vs, u5, rfl, hos, hu5, hbs⟩
            obtain ⟨ub, uc, uq, rfl, ob, oc, oq⟩ := hos
            obtain ⟨F1, f1, rfl, _⟩ := ob.form
            obtain ⟨F2, f2, rfl, _⟩ := oc.form
            obtain ⟨F3, f3, rfl, _⟩ := oq.form
            obtain ⟨A5, d5, rfl⟩ := hu5.form
            have hsz := KA.out.size
            have MO := bal (bal (brefl ws) (.cells #[.int .i64 F.dep, .int .i64 F.nxt, .slice F1 F.bl.length f1, .slice F2 F.ca.length f2, .slice F3 F.qu.length f3] 28)) (.cells #[.int .i64 y0, .int .i64 y1, .int .i64 y2, .slice A5 l5.length d5] 39)
            have OB := hide ((ob.mono hsz).below MO)
            have OC := hide ((oc.mono hsz).below MO)
            have OQ := hide ((oq.mono hsz).below MO)
            have CB := hide ((Box.new ws 28 #[.int .i64 F.dep, .int .i64 F.nxt, .slice F1 F.bl.length f1, .slice F2 F.ca.length f2, .slice F3 F.qu.length f3]).more (.cells #[.int .i64 y0, .int .i64 y1, .int .i64 y2, .slice A5 l5.length d5] 39))
            have KK := hide (btrans hbs MO)
            clear hbs ob oc oq MO hu5
            go_upto_region 10 with fail
            obtain ⟨cb, hcb⟩ : ∃ cb, cb = ws.heap.size := ⟨_, rfl⟩
            rw [← hcb] at CB ⊢
            generalize (ws.alloc (.cells #[.int .i64 F.dep, .int .i64 F.nxt, .slice F1 F.bl.length f1, .slice F2 F.ca.length f2, .slice F3 F.qu.length f3] 28)).alloc (.cells #[.int .i64 y0, .int .i64 y1, .int .i64 y2, .slice A5 l5.length d5] 39) = wg at *
            clear hcb a0 a1 a2 a3
            have a3 := (AB.out.below KK.out).cell 3
            simp at a3
            go_wp2
            go_roundw
            case rel => exact ⟨k + 1, D, by omega, by go_num, hide (P0.out.mono (by omega)), hide ((DA.out).below KK.out), hide (RB.out.below KK.out), hide (btrans KA.out KK.out)⟩
            case measure => simp [intOf]; omega
        · have hd4 : (x0 == 4) = false := by simpa using h4
          have hd5 : (x0 != 4) = true := by simpa using h4
          clear h4
          have CM := hide (complete_any _ D (x3 % 4) true wa IN.out BIG.out)
          unfold DqR at CM
          have CME := hide (cm4 (p := x3 % 4) P0.out (by omega))
          by_cases hn : (x3 % 4) < (D.qu.length : Int)
          · have e0 : cmE D (x3 % 4) = 0 := by rw [CME.out, if_pos hn]
            obtain ⟨F, hF⟩ : ∃ F, F = cmD D (x3 % 4).toNat true := ⟨_, rfl⟩
            have PF := hide (show P4 F (k + 1) by rw [hF]; exact (p4_cm P0.out (by omega)).mono (by omega))
            have hn1 : decide ((x3 % 4) < (D.qu.length : Int)) = true := decide_eq_true hn
            rw [e0] at CM
            simp only [if_true] at CM
            rw [← hF] at CM
            generalize cmQ D (x3 % 4).toNat true = fq at *
            obtain ⟨y0, y1, y2, l5⟩ := fq
            simp only at CM
            clear e0 CME hF
            go_wp2_with fail
            refine CM.out.mono ?_
            rintro e ws ⟨vs, u5, rfl, hos, hu5, hbs⟩
            obtain ⟨ub, uc, uq, rfl, ob, oc, oq⟩ := hos
            obtain ⟨F1, f1, rfl, _⟩ := ob.form
            obtain ⟨F2, f2, rfl, _⟩ := oc.form
            obtain ⟨F3, f3, rfl, _⟩ := oq.form
            obtain ⟨A5, d5, rfl⟩ := hu5.form
            have hsz := KA.out.size
            have MO := bal (bal (brefl ws) (.cells #[.int .i64 F.dep, .int .i64 F.nxt, .slice F1 F.bl.length f1, .slice F2 F.ca.length f2, .slice F3 F.qu.length f3] 28)) (.cells #[.int .i64 y0, .int .i64 y1, .int .i64 y2, .slice A5 l5.length d5] 39)
            have OB := hide ((ob.mono hsz).below MO)
            have OC := hide ((oc.mono hsz).below MO)
            have OQ := hide ((oq.mono hsz).below MO)
            have CB := hide ((Box.new ws 28 #[.int .i64 F.dep, .int .i64 F.nxt, .slice F1 F.bl.length f1, .slice F2 F.ca.length f2, .slice F3 F.qu.length f3]).more (.cells #[.int .i64 y0, .int .i64 y1, .int .i64 y2, .slice A5 l5.length d5] 39))
            have KK := hide (btrans hbs MO)
            clear hbs ob oc oq MO hu5
            go_upto_region 10 with fail
            obtain ⟨cb, hcb⟩ : ∃ cb, cb = ws.heap.size := ⟨_, rfl⟩
            rw [← hcb] at CB ⊢
            generalize (ws.alloc (.cells #[.int .i64 F.dep, .int .i64 F.nxt, .slice F1 F.bl.length f1, .slice F2 F.ca.length f2, .slice F3 F.qu.length f3] 28)).alloc (.cells #[.int .i64 y0, .int .i64 y1, .int .i64 y2, .slice A5 l5.length d5] 39) = wg at *
            clear hcb a0 a1 a2 a3
            have a3 := (AB.out.below KK.out).cell 3
            simp at a3
            obtain ⟨c0, c1, c2, c3, c4⟩ := box5_cells (W' := wg) CB.out
            have XG := hide (X.out.below KK.out)
            obtain ⟨b0, b1, b2, b3, b4⟩ := box5_cells (W' := wg) XG.out
            have fb0 := XG.out.frozen 0
            have fb1 := XG.out.frozen 1
            have fb2 := XG.out.frozen 2
            have fb3 := XG.out.frozen 3
            have fb4 := XG.out.frozen 4
            clear x0' x1' x2' x3' x4'
            go_wp2
            have KS := hide (kp_set5 (B := w.heap.size) XG.out HG.out (.int .i64 F.dep) (.int .i64 F.nxt) (.slice F1 F.bl.length f1) (.slice F2 F.ca.length f2) (.slice F3 F.qu.length f3))
            have KB := hide (btrans KA.out KK.out)
            have RB2 := hide (RB.out.below KK.out)
            have hgne : w.heap.size ≠ g := by have := HG2.out; omega
            go_roundw
            case rel => exact ⟨k + 1, F, by omega, by go_num, PF, hide ⟨_, _, _, XG.out.set5 _ _ _ _ _, OB.out.kp KS.out (by decide) (by decide), OC.out.kp KS.out (by decide) (by decide), OQ.out.kp KS.out (by decide) (by decide)⟩, hide (RB2.out.far5 hgne _ _ _ _ _), hide (KB.out.trans KS.out.below)⟩
            case measure => simp [intOf]; omega
          · have e0 : cmE D (x3 % 4) = 2 := by rw [CME.out, if_neg hn]
            obtain ⟨F, hF⟩ : ∃ F, F = zeroD := ⟨_, rfl⟩
            have hn1 : decide ((x3 % 4) < (D.qu.length : Int)) = false := decide_eq_false hn
            rw [e0] at CM
            simp only [show ¬ (2 : Int) = 0 by decide, if_false] at CM
            rw [← hF] at CM
            obtain ⟨fq, hfq⟩ : ∃ fq, fq = zeroQ := ⟨_, rfl⟩
            rw [← hfq] at CM
            obtain ⟨y0, y1, y2, l5⟩ := fq
            simp only at CM
            clear e0 CME hF hfq
            go_wp2_with fail
            refine CM.out.mono ?_
            rintro e ws ⟨vs, u5, rfl, hos, hu5, hbs⟩
            obtain ⟨ub, uc, uq, rfl, ob, oc, oq⟩ := hos
            obtain ⟨F1, f1, rfl, _⟩ := ob.form
            obtain ⟨F2, f2, rfl, _⟩ := oc.form
            obtain ⟨F3, f3, rfl, _⟩ := oq.form
            obtain ⟨A5, d5, rfl⟩ := hu5.form
            have hsz := KA.out.size
            have MO := bal (bal (brefl ws) (.cells #[.int .i64 F.dep, .int .i64 F.nxt, .slice F1 F.bl.length f1, .slice F2 F.ca.length f2, .slice F3 F.qu.length f3] 28)) (.cells #[.int .i64 y0, .int .i64 y1, .int .i64 y2, .slice A5 l5.length d5] 39)
            have OB := hide ((ob.mono hsz).below MO)
            have OC := hide ((oc.mono hsz).below MO)
            have OQ := hide ((oq.mono hsz).below MO)
            have CB := hide ((Box.new ws 28 #[.int .i64 F.dep, .int .i64 F.nxt, .slice F1 F.bl.length f1, .slice F2 F.ca.length f2, .slice F3 F.qu.length f3]).more (.cells #[.int .i64 y0, .int .i64 y1, .int .i64 y2, .slice A5 l5.length d5] 39))
            have KK := hide (btrans hbs MO)
            clear hbs ob oc oq MO hu5
            go_upto_region 10 with fail
            obtain ⟨cb, hcb⟩ : ∃ cb, cb = ws.heap.size := ⟨_, rfl⟩
            rw [← hcb] at CB ⊢
            generalize (ws.alloc (.cells #[.int .i64 F.dep, .int .i64 F.nxt, .slice F1 F.bl.length f1, .slice F2 F.ca.length f2, .slice F3 F.qu.length f3] 28)).alloc (.cells #[.int .i64 y0, .int .i64 y1, .int .i64 y2, .slice A5 l5.length d5] 39) = wg at *
            clear hcb a0 a1 a2 a3
            have a3 := (AB.out.below KK.out).cell 3
            simp at a3
            go_wp2
            go_roundw
            case rel => exact ⟨k + 1, D, by omega, by go_num, hide (P0.out.mono (by omega)), hide ((DA.out).below KK.out), hide (RB.out.below KK.out), hide (btrans KA.out KK.out)⟩
            case measure => simp [intOf]; omega
    · obtain rfl : k = L.length := by omega
      obtain ⟨vb, vc, vq, hX, hob, hoc, hoq⟩ := DA0.out
      obtain ⟨E1, g1, rfl, _⟩ := hob.form
      obtain ⟨E2, g2, rfl, _⟩ := hoc.form
      obtain ⟨E3, g3, rfl, _⟩ := hoq.form
      obtain ⟨x0, x1, x2, x3, x4⟩ := box5_cells (W' := wr) hX
      obtain ⟨b0, b1, b2, b3, b4⟩ := box5_cells (W' := wr) RB0.out
      have fb0 := RB0.out.frozen 0
      have fb1 := RB0.out.frozen 1
      have fb2 := RB0.out.frozen 2
      have fb3 := RB0.out.frozen 3
      have fb4 := RB0.out.frozen 4
      have OB := hide hob
      have OC := hide hoc
      have OQ := hide hoq
      clear hX hob hoc hoq DA0
      go_wp2
      have KS := hide (kp_set5 (B := w.heap.size) RB0.out (Nat.le_refl _) (.int .i64 D.dep) (.int .i64 D.nxt) (.slice E1 D.bl.length g1) (.slice E2 D.ca.length g2) (.slice E3 D.qu.length g3))
      exact ret_db Try.results30 rfl rfl rfl (RB0.out.set5 _ _ _ _ _) ⟨D, _, rfl, P0.out.mono hl, ⟨_, _, _, rfl, OB.out.kp KS.out (by decide) (by decide), OC.out.kp KS.out (by decide) (by decide), OQ.out.kp KS.out (by decide) (by decide)⟩, KW.out.trans KS.out.below⟩
end Go.Proofs.Ytnegigcjeoenmaa.Dv
