import Derived.Test.YtkcopcmoaloecaaT12
import Derived.Test.YtkcopcmoaloecaaT6
import Derived.Test.YtkcopcmoaloecaaT8
namespace Go.Proofs.Ytkcopcmoaloecaa.Fp
open Go Go.RowKit
set_option linter.unusedVariables false
set_option linter.unusedSimpArgs false
/-- a case in a box, and the box of a plan -/
structure S3 (w W : World) (g h : Nat) (c : Fc) (p : P5) : Prop where
  K : Below w.heap.size w W
  lg : w.heap.size ≤ g
  lh : w.heap.size ≤ h
  ne : g ≠ h
  X : CB W g c
  Z : PB W h p
theorem S3.below {w W W' : World} {g h : Nat} {c : Fc} {p : P5} (s : S3 w W g h c p) (hb : Below W.heap.size W W') : S3 w W' g h c p :=
  ⟨btrans s.K hb, s.lg, s.lh, s.ne, s.X.below hb, s.Z.below hb⟩
theorem S3.ret {w W : World} {g h : Nat} {c : Fc} {p : P5} (s : S3 w W g h c p) (x : P5) : S3 w (W.setRow h (pC x)) g h c x :=
  ⟨row_below2 s.K s.lh, s.lg, s.lh, s.ne, box_row_far s.X s.ne, box_row s.Z⟩
theorem S3.new (w : World) (c : Fc) : S3 w ((w.alloc (.cells (fC c) 23)).alloc (.cells (pC p0) 28)) w.heap.size (w.heap.size + 1) c p0 :=
  ⟨bal2 w _ _, Nat.le_refl _, Nat.le_succ _, (Nat.succ_ne_self _).symm, Box.more (Box.new w 23 _) _, Box.new2 w _ 28 _⟩
theorem ret_pi {fn : Func} {a : Act} {W : World} {g k m : Nat} {p : P5} {e : Int} {Q : Ending → World → Prop} (hr : fn.results = #[.cell k 28, .tmp m]) (h2 : a.tmps.getD k undef = .pointer (some ⟨g, 0, none⟩)) (h3 : a.tmps.getD m undef = .int .i64 e) (hd : a.defers = [])
    (hE : PB W g p) (hq : Q (.returned (.tuple #[pV p, .int .i64 e])) W) : bodyPost Try.prog fn Q .ret a W := by
  obtain ⟨ac, er, wa, ke, us⟩ := p
  exact ret_p2 hr h2 h3 hd hE hq
/-- what Plan answers -/
def PlR (c : Fc) (w : World) (e : Ending) (w' : World) : Prop := e = .returned (.tuple #[pV (plE c), .int .i64 (chk c)]) ∧ Below w.heap.size w w'
set_option maxRecDepth 100000 in
set_option maxHeartbeats 16000000 in
theorem plan_any (wr rg : Bool) (pr : Int) (sh fi be bu : Bool) (en : Int) (wb tr ow on ca ba di fu : Bool) (mi : Int) (w : World) : Calls Try.prog 13 #[.agg #[.bool wr, .bool rg, .int .i64 pr, .bool sh, .bool fi, .bool be, .bool bu, .int .i64 en, .bool wb, .bool tr, .bool ow, .bool on, .bool ca, .bool ba, .bool di, .bool fu, .int .i64 mi]] w (PlR ⟨wr, rg, pr, sh, fi, be, bu, en, wb, tr, ow, on, ca, ba, di, fu, mi⟩ w) := by
  have CK := fun w => check_any wr rg pr sh fi be bu en wb tr ow on ca ba di fu mi w
  have RU := hide (fun w => rules_any mi w)
  have IXA := fun m g gc w h1 h2 => idx_any m ⟨wr, rg, pr, sh, fi, be, bu, en, wb, tr, ow, on, ca, ba, di, fu, mi⟩ g gc w h1 h2
  have HP : plE ⟨wr, rg, pr, sh, fi, be, bu, en, wb, tr, ow, on, ca, ba, di, fu, mi⟩ = if chk ⟨wr, rg, pr, sh, fi, be, bu, en, wb, tr, ow, on, ca, ba, di, fu, mi⟩ = 0 then rp (ix ⟨wr, rg, pr, sh, fi, be, bu, en, wb, tr, ow, on, ca, ba, di, fu, mi⟩) mi else p0 := rfl
  have HL := ix_le ⟨wr, rg, pr, sh, fi, be, bu, en, wb, tr, ow, on, ca, ba, di, fu, mi⟩
  unfold PlR
  obtain ⟨n, hn⟩ : ∃ n, n = ix ⟨wr, rg, pr, sh, fi, be, bu, en, wb, tr, ow, on, ca, ba, di, fu, mi⟩ := ⟨_, rfl⟩
  obtain ⟨ch, hch⟩ : ∃ n, n = chk ⟨wr, rg, pr, sh, fi, be, bu, en, wb, tr, ow, on, ca, ba, di, fu, mi⟩ := ⟨_, rfl⟩
  obtain ⟨q, hq⟩ : ∃ n, n = plE ⟨wr, rg, pr, sh, fi, be, bu, en, wb, tr, ow, on, ca, ba, di, fu, mi⟩ := ⟨_, rfl⟩
  rw [← hn] at IXA HL HP
  rw [← hch] at HP CK
  rw [← hq] at HP
  rw [← hq, ← hch]
  clear hn hch hq
  replace HP := hide HP
  replace CK := hide CK
  replace IXA := hide IXA
  replace HL := hide HL
  have s0 := hide (S3.new w ⟨wr, rg, pr, sh, fi, be, bu, en, wb, tr, ow, on, ca, ba, di, fu, mi⟩)
  go_enter Try.func13, Try.ntmps13
  go_upto_region 1 with fail
  obtain ⟨W0, hW0⟩ : ∃ W0, W0 = (w.alloc (.cells (fC ⟨wr, rg, pr, sh, fi, be, bu, en, wb, tr, ow, on, ca, ba, di, fu, mi⟩) 23)).alloc (.cells (pC p0) 28) := ⟨_, rfl⟩
  obtain ⟨g2, hg2⟩ : ∃ g2, g2 = w.heap.size := ⟨_, rfl⟩
  rw [← hW0, ← hg2] at s0
  unfold fC pC p0 at hW0
  dsimp only at hW0
  rw [← hW0, ← hg2]
  clear hW0 hg2
  go_wp2_with (refine wpList_load_row rfl 23 _ rfl g2 rfl 23 _ (0, 0) _ s0.out.X Try.underlying23 rfl (by kernel_rfl) ?_)
  refine (CK.out _).mono ?_
  rintro e w1 ⟨rfl, hb⟩
  have s1 := hide (s0.out.below hb)
  clear hb s0 CK
  by_cases hc : ch = 0
  rotate_left 1
  · have e1 : q = p0 := by rw [HP.out, if_neg hc]
    subst e1
    clear HP
    have hb : (ch != 0) = true := bne_iff_ne.2 hc
    go_wp2_with (refine wpList_store_row rfl 28 _ _ rfl (g2 + 1) (pC p0) rfl rfl 28 _ s1.out.Z (by kernel_rfl) rfl (by kernel_rfl) ?_)
    exact ret_pi rfl rfl rfl rfl (s1.out.ret p0).Z ⟨rfl, (s1.out.ret p0).K⟩
  subst hc
  replace HP := hide (show q = rp n mi by rw [HP.out, if_pos rfl])
  obtain ⟨x0, x1, x2, x3, x4, x5, x6, x7, x8, x9, x10, x11, x12, x13, x14, x15, x16⟩ := s1.out.X.cells
  go_wp2_with fail
  refine (RU.out _).mono ?_
  rintro e w2 ⟨g, rfl, hR, hb⟩
  have s2 := hide (s1.out.below hb)
  clear hb s1 RU x0 x1 x2 x3 x4 x5 x6 x7 x8 x9 x10 x11 x12 x13 x14 x15 x16
  go_wp2_with fail
  refine (IXA.out mi g g2 w2 hR s2.out.X).mono ?_
  rintro e w3 ⟨rfl, hb⟩
  have s3 := hide (s2.out.below hb)
  have HR := hide (Box.below hR hb)
  clear hb s2 hR IXA
  have hn16 : n < 16 := by have := HL.out; omega
  have hn2 : (n : Int) < 16 := by omega
  have hn0 : (0 : Int) ≤ (n : Int) := by omega
  obtain ⟨y0, y1, y2, y3, y4, y5⟩ := rules_cells HR.out hn16
  rw [← HP.out] at y1 y2 y3 y4 y5
  clear y0
  obtain ⟨ac, er, wa, ke, us⟩ := q
  dsimp only at y1 y2 y3 y4 y5
  clear HP HL hn16
  go_wp2_with (refine wpList_store_row rfl 28 _ _ rfl (g2 + 1) (pC ⟨ac, er, wa, ke, us⟩) rfl rfl 28 _ s3.out.Z (by kernel_rfl) rfl (by kernel_rfl) ?_)
  exact ret_pi (p := ⟨ac, er, wa, ke, us⟩) rfl rfl rfl rfl (S3.ret s3.out (⟨ac, er, wa, ke, us⟩ : P5)).Z ⟨rfl, (S3.ret s3.out (⟨ac, er, wa, ke, us⟩ : P5)).K⟩
end Go.Proofs.Ytkcopcmoaloecaa.Fp
