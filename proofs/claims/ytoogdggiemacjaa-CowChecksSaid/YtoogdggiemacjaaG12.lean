import Derived.Test.YtoogdggiemacjaaG11
import Derived.Test.YtoogdggiemacjaaF18
namespace Go.Proofs.Ytoogdggiemacjaa.Cw
open Go Go.RowKit
set_option linter.unusedVariables false
set_option linter.unusedSimpArgs false
theorem own_b {w w' : World} {base N size : Nat} {t : TypeId} {v : Value} {xs : List Value} (h : w.ownsRow base t size v N xs) (e : ∀ k, v.ownBlock = some k → w'.heap[k]? = w.heap[k]?) : w'.ownsRow base t size v N xs := by
  obtain ⟨hl, h | ⟨g, cap, cur, e2, hg, hh, r⟩⟩ := h
  · exact ⟨hl, .inl h⟩
  · exact ⟨hl, .inr ⟨g, cap, cur, e2, hg, (e g (by rw [e2]; rfl)).trans hh, r⟩⟩
/-- the blocks of a machine of one's own lie below C -/
def LowT (C gs gf n : Nat) (T : Tb) : Prop := gs < C ∧ gf < C ∧ ∀ j, j < n → ∀ g, (tAt T j).2.ownBlock = some g → g < C
theorem OwM.low {B C gs gf : Nat} {w w' : World} {M : Cow} {cs cf : Nat} {T : Tb} (h : OwM B w M (some ⟨gs, 0, none⟩) cs (some ⟨gf, 0, none⟩) cf T) (hL : LowT C gs gf M.sp.length T) (e : ∀ k, k < C → w'.heap[k]? = w.heap[k]?) : OwM B w' M (some ⟨gs, 0, none⟩) cs (some ⟨gf, 0, none⟩) cf T :=
  ⟨h.tl, own_b h.fr (fun k hk => e k (by injection hk with hk; subst hk; exact hL.2.1)), own_b h.sp (fun k hk => e k (by injection hk with hk; subst hk; exact hL.1)), h.lv, fun j hj => own_b (h.pg j hj) (fun k hk => e k (hL.2.2 j hj k hk)), h.ne⟩
theorem take_set_self {α : Type} : ∀ (L : List α) (k : Nat) (x : α), (L.set k x).take k = L.take k
  | [], k, x => by simp
  | a :: L, 0, x => rfl
  | a :: L, k + 1, x => by simp [take_set_self L k x]
set_option maxRecDepth 100000 in
set_option maxHeartbeats 32000000 in
theorem rfork_any (M : Cow) (As Af : Option Addr) (cs cf : Nat) (s : Int) (w : World) (h : CwIn w M As cs Af cf) (hB : Big M) : Calls Try.prog 35 #[.agg (cwA M As cs Af cf), .int .i64 s] w (Res3 w (fkG M s).1 (fkG M s).2.1 (fkG M s).2.2) := by
  have PA := hide (space_at (M := M) (s := s))
  obtain ⟨i64, hi64, hz64, hy64, hx64⟩ := info_parts info64
  obtain ⟨i62, hi62, hz62, hy62, hx62⟩ := info_parts info62
  have E0 := hide (fun hn : csE M s ≠ 0 => show fkG M s = (zeroM, 0, csE M s) from if_pos hn)
  have E1 := hide (fun (hn : csE M s = 0) (hl : M.sp.length = 8) => show fkG M s = (zeroM, 0, 9) from (if_neg (fun g => g hn)).trans (if_pos hl))
  have E2 := hide (fun (hn : csE M s = 0) (hl : ¬ M.sp.length = 8) => show fkG M s = ((fkS M s.toNat M.sz.toNat).add (sAt (fkS M s.toNat M.sz.toNat).sp s.toNat).2, (M.sp.length : Int), 0) from (if_neg (fun g => g hn)).trans (if_neg hl))
  unfold Res3
  obtain ⟨W0, hW0⟩ : ∃ W0, W0 = (w.alloc (.cells (cwA M As cs Af cf) 28)).alloc (.cells #[.int .i64 0, .slice none 0 0, .slice none 0 0, .int .i64 0] 28) := ⟨_, rfl⟩
  have K := hide (show Below w.heap.size w W0 by rw [hW0]; exact bal (bal (brefl w) _) _)
  have X := hide (show Box W0 w.heap.size 28 (cwA M As cs Af cf) by rw [hW0]; exact (Box.new w 28 _).more _)
  have Y := hide (show Box W0 (w.heap.size + 1) 28 #[.int .i64 0, .slice none 0 0, .slice none 0 0, .int .i64 0] by rw [hW0]; exact Box.new2 _ _ _ _)
  have IN := hide h
  have CK := hide (fun w' => fun hb : Below w.heap.size w w' => rspace_any M As Af cs cf s w' (h.below hb) hB)
  have CL := hide (fun w' => fun hb : Below w.heap.size w w' => copy_any M As Af cs cf w' (h.below hb))
  clear h hB
  unfold cwA at X hW0 CK CL ⊢
  generalize csE M s = ec at *
  go_enter Try.func35, Try.ntmps35
  go_upto_region 1 with fail
  rw [← hW0]
  clear hW0
  obtain ⟨g2, hg2⟩ : ∃ g, g = w.heap.size + 1 := ⟨_, rfl⟩
  obtain ⟨g, hg⟩ : ∃ g, g = w.heap.size := ⟨_, rfl⟩
  have GN := hide (show g ≠ g2 by omega)
  have GG := hide (show w.heap.size ≤ g ∧ w.heap.size ≤ g2 by omega)
  rw [← hg2, ← hg]
  rw [← hg2] at Y
  rw [← hg] at X
  clear hg2 hg
  obtain ⟨x0, x1, x2, x3⟩ := box4 X.out
  go_wp2_with fail
  refine (CK.out _ K.out).mono ?_
  rintro e w1 ⟨rfl, hb⟩
  replace X := hide (X.out.below hb)
  replace Y := hide (Y.out.below hb)
  replace K := hide (btrans K.out hb)
  clear hb x0 x1 x2 x3 CK
  obtain ⟨x0, x1, x2, x3⟩ := box4 X.out
  by_cases h1 : ec = 0
  case neg =>
    have E := hide (E0.out h1)
    obtain ⟨y0, y1, y2, y3⟩ := box4 Y.out
    have z0 := Y.out.frozen 0
    have z1 := Y.out.frozen 1
    have z2 := Y.out.frozen 2
    have z3 := Y.out.frozen 3
    go_wp2
    have KK := kp4 Y.out GG.out.2 (.int .i64 0) (.slice none 0 0) (.slice none 0 0) (.int .i64 0)
    refine ret_c3 Try.results35 rfl rfl rfl rfl (box4s Y.out) ⟨none, 0, none, 0, ?_, ?_, K.out.trans KK.below⟩
    · rw [E.out]; rfl
    · rw [E.out]; exact zero_in _
  case pos =>
    obtain ⟨n, rfl, hn, hl, hz, hsz, hfm, hst, -⟩ := PA.out h1
    subst h1
    by_cases h8 : M.sp.length = 8
    case pos =>
      have E := hide (E1.out rfl h8)
      have h8c : (8 : Int) ≤ ((M.sp.length : Nat) : Int) := by omega
      clear E0 E1 E2 PA hst hfm hsz hl hz
      have H8 := hide h8
      clear h8
      obtain ⟨y0, y1, y2, y3⟩ := box4 Y.out
      have z0 := Y.out.frozen 0
      have z1 := Y.out.frozen 1
      have z2 := Y.out.frozen 2
      have z3 := Y.out.frozen 3
      go_wp2
      refine ret_c3 Try.results35 rfl rfl rfl rfl (box4s Y.out) ⟨none, 0, none, 0, ?_, ?_, K.out.trans (kp4 Y.out GG.out.2 _ _ _ _).below⟩
      · rw [E.out]; rfl
      · rw [E.out]; exact zero_in _
    have E := hide (E2.out rfl h8)
    rw [Int.toNat_natCast] at E
    have HSZ := hide hsz
    have HPL := hide (plen hsz hfm)
    have HCB := hide (cbound hsz hfm hst)
    have PGS := hide (show ∀ m, m < (sAt M.sp n).2.length → pgG M.fr.length (pAt (sAt M.sp n).2 m) from fun m hm => (hfm _ (sAt_mem hn)).2 _ (pAt_mem hm))
    have XF := hide (fk_facts hn)
    clear E0 E1 E2 PA hst hfm
    obtain ⟨ln, hln⟩ : ∃ ln, ln = (sAt M.sp n).2.length := ⟨_, rfl⟩
    have HLN := hide hln
    rw [← hln] at hz
    have HZN := hide (show M.sz = (ln : Int) by omega)
    have zz : M.sz.toNat = ln := by omega
    rw [zz] at E
    have l2 : ln ≤ 512 := by rw [hln]; exact HPL.out n hn
    have l1 : M.sp.length ≤ 8 := hsz.2.1.2
    have l3 : M.fr.length ≤ 256 := hsz.2.2.1.2
    have hln1 : 1 ≤ ln := by have := hsz.1.1; omega
    have h8c : ¬ (8 : Int) ≤ ((M.sp.length : Nat) : Int) := by omega
    have H8 := hide h8
    clear hl hz hsz hln zz h8
    go_wp2_with fail
    refine (CL.out _ K.out (by have := HSZ.out.2.1.2; omega) (by have := HSZ.out.2.2.1.2; omega) (fun k hk => by have := HPL.out k hk; omega)).mono ?_
    rintro e w2 ⟨As2, cs2, Af2, cf2, T, rfl, hO, hb⟩
    replace X := hide (X.out.below hb)
    replace Y := hide (Y.out.below hb)
    have GX := hide (show g < w2.heap.size from X.out.lt)
    have GS := hide (show g2 < w2.heap.size from Y.out.lt)
    have GB := hide (show w.heap.size ≤ w1.heap.size from K.out.size)
    replace K := hide (btrans K.out hb)
    have O := hide hO
    clear hO hb x0 x1 x2 x3 CL
    have M3 := bal (brefl w2) (.cells #[.int .i64 M.sz, .slice As2 M.sp.length cs2, .slice Af2 M.fr.length cf2, .int .i64 M.cp] 28)
    have V := hide (Box.new w2 28 #[.int .i64 M.sz, .slice As2 M.sp.length cs2, .slice Af2 M.fr.length cf2, .int .i64 M.cp])
    replace X := hide (X.out.below M3)
    replace Y := hide (Y.out.below M3)
    replace O := hide (O.out.below M3)
    replace K := hide (btrans K.out M3)
    clear M3
    go_upto_region 7 with fail
    obtain ⟨g3, hg3⟩ : ∃ g, g = w2.heap.size := ⟨_, rfl⟩
    have G3 := hide (show g2 ≠ g3 by have := GS.out; omega)
    have G5 := hide (show g ≠ g3 by have := GX.out; omega)
    have G4 := hide (show w.heap.size ≤ g3 by have := GS.out; have := GG.out.2; omega)
    rw [← hg3] at V ⊢
    clear hg3
    generalize w2.alloc (.cells #[.int .i64 M.sz, .slice As2 M.sp.length cs2, .slice Af2 M.fr.length cf2, .int .i64 M.cp] 28) = w3 at *
    replace O := hide (O.out.mono1 GB.out)
    obtain ⟨gs, eA, _, _, _, _, _⟩ := O.out.space hn
    obtain ⟨gp, cp2, ev, gpl, _, _, _, _⟩ := O.out.page (m := 0) hn (by rw [← HLN.out]; omega)
    obtain ⟨gf, eF, _⟩ := O.out.frame (k := 0) (by have := HSZ.out.2.2.1.1; omega)
    subst eA eF
    have EV := hide ev
    rw [← HLN.out] at EV
    clear ev
    have n0 : (0 : Int) ≤ (n : Int) := by omega
    have n1 : (n : Int) < (M.sp.length : Int) := by omega
    have GV := V.out.lt
    have GY := Y.out.lt
    have GX2 := X.out.lt
    have LOW := hide (show LowT w3.heap.size gs gf M.sp.length T from ⟨(row_lt O.out.sp rfl).2, (row_lt O.out.fr rfl).2, fun j hj gg hg => (row_lt (O.out.pg j hj) hg).2⟩)
    have GW9 := hide K.out.size
    have GPL := hide gpl
    have GFL := hide LOW.out.2.1
    have M5 := bal (brefl w3) (.cells #[.bool true, .slice none 0 0] 62)
    have C := hide (Box.new w3 62 #[.bool true, .slice none 0 0])
    replace O := hide (O.out.below M5)
    replace V := hide (V.out.below M5)
    replace Y := hide (Y.out.below M5)
    replace X := hide (X.out.below M5)
    replace K := hide (btrans K.out M5)
    clear M5
    go_upto_region 8 with fail
    obtain ⟨g9, hg9⟩ : ∃ gg, gg = w3.heap.size := ⟨_, rfl⟩
    have N39 := hide (show g3 ≠ g9 by omega)
    have N29 := hide (show g2 ≠ g9 by omega)
    have N19 := hide (show g ≠ g9 by omega)
    rw [← hg9] at C LOW GW9 GPL GFL ⊢
    clear hg9 gpl GV GY GX2
    generalize w3.alloc (.cells #[.bool true, .slice none 0 0] 62) = w4 at *
    have P := hide (show w4.ownsRow (g9 + 1) 64 2 (.slice none 0 0) 0 (pcs ((sAt (fkS M n 0).sp n).2.take 0)) from ⟨rfl, .inl ⟨rfl, rfl⟩⟩)
    go_wp2
    go_loopw [10] (fun i wr => ∃ (k : Nat) (PA : Option Addr) (cP : Nat), k ≤ ln ∧ i = .int .i64 k ∧ Hid (OwM w.heap.size wr (fkS M n k) (some ⟨gs, 0, none⟩) cs2 (some ⟨gf, 0, none⟩) cf2 T) ∧ Hid (Box wr g3 28 #[.int .i64 M.sz, .slice (some ⟨gs, 0, none⟩) M.sp.length cs2, .slice (some ⟨gf, 0, none⟩) M.fr.length cf2, .int .i64 M.cp]) ∧ Hid (Box wr g2 28 #[.int .i64 0, .slice none 0 0, .slice none 0 0, .int .i64 0]) ∧ Hid (Box wr g 28 #[.int .i64 M.sz, .slice As M.sp.length cs, .slice Af M.fr.length cf, .int .i64 M.cp]) ∧ Hid (Box wr g9 62 #[.bool true, .slice PA k cP]) ∧ Hid (wr.ownsRow (g9 + 1) 64 2 (.slice PA k cP) k (pcs ((sAt (fkS M n k).sp n).2.take k))) ∧ Hid (Below w.heap.size w wr)) (fun i _ => ln - (intOf i).toNat)
    case atStart => exact ⟨0, none, 0, Nat.zero_le _, rfl, O, V, Y, X, C, P, K⟩
    case round =>
      clear O V Y X C P K
      obtain ⟨k, PA, cP, hk, rfl, O, V, Y, X, C, P, K⟩ := hrel
      have hnx : n < (fkS M n k).sp.length := by rw [(XF.out k).1]; exact hn
      have hlk : (sAt (fkS M n k).sp n).2.length = ln := by rw [(XF.out k).2.2.1, ← HLN.out]
      have HLS := hide (XF.out k).1
      have HLF := hide (XF.out k).2.1
      have GC5 := hide C.out.lt
      by_cases hlt : k < ln
      · have hl2 : (k : Int) < M.sz := by have := HZN.out; omega
        have hl3 : (k : Int) < (ln : Int) := by omega
        have hk0 : (0 : Int) ≤ (k : Int) := by omega
        have EVL := hide (show (tAt T n).2 = .slice (some ⟨gp, 0, none⟩) (sAt (fkS M n k).sp n).2.length cp2 by rw [hlk]; exact EV.out)
        have HKM := hide (show k < (sAt (fkS M n k).sp n).2.length by rw [hlk]; exact hlt)
        have HNX := hide hnx
        clear hlk hnx
        obtain ⟨v0, v1, v2, v3⟩ := box4 V.out
        obtain ⟨gs2, eA, _, _, _, s1, _⟩ := O.out.space (n := n) HNX.out
        injection eA with eA; injection eA with eA
        subst eA
        rw [EV.out] at s1
        obtain ⟨gp2, cp3, ev2, _, _, p0, p1, zp⟩ := O.out.page HNX.out HKM.out
        have eg : gp = gp2 := by
          have := EVL.out.symm.trans ev2
          injection this with this; injection this with this; injection this with this
        subst eg
        have zp1 := zp (k * 2 + 1)
        clear zp ev2
        have PGK := hide (show pgG M.fr.length (pAt (sAt (fkS M n k).sp n).2 k) by rw [(XF.out k).2.2.2.1 k (Nat.le_refl _) (by rw [← HLN.out]; exact hlt)]; exact PGS.out k (by rw [← HLN.out]; exact hlt))
        have NX1 := hide (show fkS M n (k + 1) = pgStep (fkS M n k) n k from rfl)
        have TK := hide (show (sAt (fkS M n (k + 1)).sp n).2.take (k + 1) = (sAt (fkS M n k).sp n).2.take k ++ [((pAt (sAt (fkS M n k).sp n).2 k).1, false)] by
          show (sAt (pgStep (fkS M n k) n k).sp n).2.take (k + 1) = _
          rw [step_sp, sAt_set HNX.out, if_pos rfl]
          dsimp only
          rw [pAt_snoc (by rw [List.length_set]; exact HKM.out), take_set_self, pAt_set HKM.out, if_pos rfl])
        unfold pgStep at NX1
        have ON := hide (O.out.setP1 (n := n) (m := k) HNX.out HKM.out EVL.out false)
        have SN := hide (O.out.sideP (n := n) HNX.out EVL.out (k * 2 + 1) (.bool false))
        have VN := hide (SN.out.box _ _ V.out)
        have YN := hide (SN.out.box _ _ Y.out)
        have XN := hide (SN.out.box _ _ X.out)
        have CN := hide (C.out.far (show g9 ≠ gp by have := GPL.out; omega) (b := gp) (i := k * 2 + 1) (.bool false))
        have PN := hide (own_blk P.out (fun kk hk1 _ => heap_setCell_other wr ⟨gp, k * 2 + 1, none⟩ kk (.bool false) (show kk ≠ gp by have := GPL.out; omega)))
        have KN := hide (K.out.trans SN.out.below)
        go_upto_region 12 with fail
        clear O V Y X C P K SN
        have O := ON
        have V := VN
        have Y := YN
        have X := XN
        have C := CN
        have P := PN
        have K := KN
        clear ON VN YN XN CN PN KN
        clear p0 p1 zp1 s1 v0 v1 v2 v3
        generalize World.setCell _ ⟨gp, k * 2 + 1, none⟩ (.bool false) = w5 at *
        have GC5 := hide C.out.lt
        obtain ⟨v0, v1, v2, v3⟩ := box4 V.out
        have e5 := setP_at HNX.out k ((pAt (sAt (fkS M n k).sp n).2 k).1, false)
        obtain ⟨gs2, eA, _, _, _, s1, _⟩ := O.out.space (n := n) (by rw [setP_len]; exact HNX.out)
        injection eA with eA; injection eA with eA
        subst eA
        rw [EV.out] at s1
        obtain ⟨gp2, cp3, ev2, _, _, p0, p1, _⟩ := O.out.page (n := n) (m := k) (by rw [setP_len]; exact HNX.out) (by rw [e5]; simp only [List.length_set]; exact HKM.out)
        have eg : gp = gp2 := by
          rw [e5] at ev2
          have := EVL.out.symm.trans ev2
          injection this with this; injection this with this; injection this with this
        subst eg
        rw [e5] at p0 p1
        simp only [pAt_set HKM.out, if_pos] at p0 p1
        clear ev2 e5
        have FB := hide (XF.out k).2.2.2.2
        have PGF := PGK.out
        unfold pgG at PGF
        have hpf : (pAt (sAt (fkS M n k).sp n).2 k).1 < 0 ∨ (0 ≤ (pAt (sAt (fkS M n k).sp n).2 k).1 ∧ (pAt (sAt (fkS M n k).sp n).2 k).1 < M.fr.length) := by
          rcases PGF with e | e
          · left; rw [e]; decide
          · right; exact e
        clear PGF PGK
        obtain ⟨f, hf⟩ : ∃ f, f = (pAt (sAt (fkS M n k).sp n).2 k).1 := ⟨_, rfl⟩
        rw [← hf] at O p0 hpf NX1 TK
        clear hf
        have M6 := bal (brefl w5) (.cells #[.int .i64 f, .bool false] 64)
        have U := hide (Box.new w5 64 #[.int .i64 f, .bool false])
        have NPQ := hide (fun gg (hh : (Value.slice PA k cP).ownBlock = some gg) => (row_lt P.out hh).2)
        replace O := hide (O.out.below M6)
        replace V := hide (V.out.below M6)
        replace Y := hide (Y.out.below M6)
        replace X := hide (X.out.below M6)
        replace C := hide (C.out.below M6)
        replace P := hide (row_below P.out M6)
        replace K := hide (btrans K.out M6)
        clear M6
        go_upto_region 13 with fail
        clear v0 v1 v2 v3 s1 p0 p1
        obtain ⟨gq, hgq⟩ : ∃ gg, gg = w5.heap.size := ⟨_, rfl⟩
        have GQC := hide (show gq ≠ g9 by have := GC5.out; omega)
        have GQF := hide (show gf < gq by have := GFL.out; have := GC5.out; omega)
        rw [← hgq] at U NPQ ⊢
        clear hgq
        generalize w5.alloc (.cells #[.int .i64 f, .bool false] 64) = w6 at *
        obtain ⟨c0, c1⟩ := box2 C.out
        obtain ⟨u0, u1⟩ := box2 U.out
        have GC6 := C.out.lt
        have M8 := bal (brefl w6) (.cells #[.int .i64 f, .bool false] 64)
        have NB := hide (Box.new w6 64 #[.int .i64 f, .bool false])
        replace O := hide (O.out.below M8)
        replace V := hide (V.out.below M8)
        replace Y := hide (Y.out.below M8)
        replace X := hide (X.out.below M8)
        replace C := hide (C.out.below M8)
        replace P := hide (row_below P.out M8)
        replace K := hide (btrans K.out M8)
        replace U := hide (U.out.below M8)
        have SB := hide (show g9 + 1 ≤ (w6.alloc (.cells #[.int .i64 f, .bool false] 64)).heap.size from Nat.le_trans GC6 M8.size)
        clear M8
        go_upto_region 14 with (at_builtin; refine wpList_append_own_at _ rfl (.tmp 52) (.tmp 54) 60 rfl (g9 + 1) 64 i64 _ 2 16 Try.underlying60 hi64 hz64 hy64 hx64 rfl (by omega) (.slice PA k cP) k _ rfl P.out ⟨w6.heap.size, 0, none⟩ 1 1 [.int .i64 f, .bool false] rfl rfl (two_at NB.out) (one_two rfl rfl) (by simp only [maxLen]; omega) (by omega) SB.out ?_; intro v9 w9 hown hg9 _ hat; obtain ⟨PA2, cP2, ev, hcN⟩ := row_form hown; subst ev; have BG := (Kp.grown P.out hg9 (Nat.le_refl _) SB.out); obtain ⟨xc0, xc1⟩ := box2 (Box.kp C.out BG (by decide)); have xf1 := (Box.kp C.out BG (by decide)).frozen 1)
        have LOWK := LOW.out
        rw [← show ((fkS M n k).setP n k (f, false)).sp.length = M.sp.length from (setP_len _ _ _ _).trans HLS.out] at LOWK
        have O9 := O.out.low LOWK (fun kk hk => BG.below.block kk (by omega))
        have ON := hide (O9.low LOWK (w' := w9.setCell ⟨g9, 1, none⟩ (.slice PA2 (k + 1) cP2)) (fun kk hk => heap_setCell_other w9 ⟨g9, 1, none⟩ kk (.slice PA2 (k + 1) cP2) (show kk ≠ g9 by omega)))
        have VN := hide ((Box.kp V.out BG (by decide)).far N39.out (b := g9) (i := 1) (.slice PA2 (k + 1) cP2))
        have YN := hide ((Box.kp Y.out BG (by decide)).far N29.out (b := g9) (i := 1) (.slice PA2 (k + 1) cP2))
        have XN := hide ((Box.kp X.out BG (by decide)).far N19.out (b := g9) (i := 1) (.slice PA2 (k + 1) cP2))
        have CN := hide (show Box (w9.setCell ⟨g9, 1, none⟩ (.slice PA2 (k + 1) cP2)) g9 62 #[.bool true, .slice PA2 (k + 1) cP2] by have := (Box.kp C.out BG (by decide)).put 1 (.slice PA2 (k + 1) cP2); simpa using this)
        have PN := hide (show (w9.setCell ⟨g9, 1, none⟩ (.slice PA2 (k + 1) cP2)).ownsRow (g9 + 1) 64 2 (.slice PA2 (k + 1) cP2) (k + 1) (pcs ((sAt (fkS M n (k + 1)).sp n).2.take (k + 1))) by
          rw [TK.out, pcs_snoc]
          exact own_blk hown (fun kk hk1 _ => heap_setCell_other w9 ⟨g9, 1, none⟩ kk (.slice PA2 (k + 1) cP2) (show kk ≠ g9 by omega)))
        have UN := hide (show Box (w9.setCell ⟨g9, 1, none⟩ (.slice PA2 (k + 1) cP2)) gq 64 #[.int .i64 f, .bool false] from Box.far (show Box w9 gq 64 #[.int .i64 f, .bool false] from (hg9.block gq U.out.lt (fun e => absurd (NPQ.out gq e.symm) (Nat.lt_irrefl _))).trans U.out) GQC.out (b := g9) (i := 1) (.slice PA2 (k + 1) cP2))
        have KN := hide ((K.out.trans (BG.below.mono (show w.heap.size ≤ g9 + 1 by have := GW9.out; omega))).setCell (p := ⟨g9, 1, none⟩) GW9.out (.slice PA2 (k + 1) cP2))
        clear O9 LOWK BG hown hg9 hat hcN xc0 xc1 xf1 c0 c1 u0 u1 TK NB SB NPQ GC6
        have SN := trivial
        clear O V Y X C P K SN
        have O := ON
        have V := VN
        have Y := YN
        have X := XN
        have C := CN
        have P := PN
        have K := KN
        clear ON VN YN XN CN PN KN
        clear U
        have U := UN
        clear UN
        generalize w9.setCell ⟨g9, 1, none⟩ (.slice PA2 (k + 1) cP2) = w9 at *
        obtain ⟨u0, u1⟩ := box2 U.out
        by_cases h0 : f < 0
        · have h0b : ¬ (0 : Int) ≤ f := by omega
          rw [if_pos h0] at NX1
          replace O := hide (show OwM w.heap.size w9 (fkS M n (k + 1)) (some ⟨gs, 0, none⟩) cs2 (some ⟨gf, 0, none⟩) cf2 T by rw [NX1.out]; exact O.out)
          clear hpf NX1 h0
          go_wp2
          clear u0 u1 U
          go_roundw
          case rel => first | exact ⟨k + 1, PA2, cP2, by omega, by go_num, O, V, Y, X, C, P, K⟩ | ((repeat apply Exists.intro); exact ⟨⟨k + 1, PA2, cP2, by omega, by go_num, O, V, Y, X, C, P, K⟩, rfl⟩)
          case measure => simp [intOf]; omega
        · rw [if_neg h0] at NX1
          obtain ⟨q, rfl⟩ := Int.eq_ofNat_of_zero_le (show 0 ≤ f by omega)
          have hq : q < M.fr.length := by omega
          have q0 : (0 : Int) ≤ (q : Int) := by omega
          have q1 : (q : Int) < (M.fr.length : Int) := by omega
          rw [Int.toNat_natCast] at NX1
          clear hpf h0
          obtain ⟨v0, v1, v2, v3⟩ := box4 V.out
          go_upto_region 15 with fail
          refine wp_region_noPanic ?_
          refine wp_region_held_drew (S := (fun W => W.cell? ⟨g3, 2, none⟩ = some (.slice (some ⟨gf, 0, none⟩) M.fr.length cf2) ∧ W.cell? ⟨gq, 0, none⟩ = some (.int .i64 (q : Int)))) (by kernel_rfl) ?_ (fun hHeld => ?_)
          · exact ⟨v2, u0⟩
          clear v0 v1 v3 u1
          replace O := hide (O.out.below (below_drewN (brefl w9) 1))
          replace V := hide (V.out.below (below_drewN (brefl w9) 1))
          replace Y := hide (Y.out.below (below_drewN (brefl w9) 1))
          replace X := hide (X.out.below (below_drewN (brefl w9) 1))
          replace C := hide (C.out.below (below_drewN (brefl w9) 1))
          replace U := hide (U.out.below (below_drewN (brefl w9) 1))
          replace P := hide (row_below P.out (below_drewN (brefl w9) 1))
          replace K := hide (btrans K.out (below_drewN (brefl w9) 1))
          change Hid (OwM _ w9.drew _ _ _ _ _ _) at O
          change Hid (Box w9.drew _ _ _) at V
          change Hid (Box w9.drew _ _ _) at Y
          change Hid (Box w9.drew _ _ _) at X
          change Hid (Box w9.drew _ _ _) at C
          change Hid (Box w9.drew _ _ _) at U
          change Hid (World.ownsRow w9.drew _ _ _ _ _ _) at P
          change Hid (Below _ _ w9.drew) at K
          change World.cell? w9.drew _ = _ at v2
          change World.cell? w9.drew _ = _ at u0
          generalize w9.drew = wd at *
          obtain ⟨gf2, egf, _, _, f0, _, zf⟩ := O.out.frame (k := q) (show q < (fkS M n k).fr.length by rw [HLF.out]; exact hq)
          injection egf with egf; injection egf with egf
          subst egf
          have zf0 := zf (q * 2)
          have b1 := FB.out q
          have b2 := HCB.out q hq
          replace f0 : wd.cell? ⟨gf, q * 2, none⟩ = some (.int .i64 (fAt (fkS M n k).fr q).1) := f0
          obtain ⟨c, hc⟩ : ∃ c, c = (fAt (fkS M n k).fr q).1 := ⟨_, rfl⟩
          rw [← hc] at f0 b1 NX1
          clear hc
          have wc : IntKind.i64.wrap (c + 1) = c + 1 := by rw [IntKind.wrap_i64]; omega
          clear b1 b2 FB zf
          have ON := hide (show OwM w.heap.size (wd.setCell ⟨gf, q * 2, none⟩ (.int .i64 (c + 1))) (fkS M n (k + 1)) (some ⟨gs, 0, none⟩) cs2 (some ⟨gf, 0, none⟩) cf2 T by rw [NX1.out]; exact O.out.setF0 (show q < (fkS M n k).fr.length by rw [HLF.out]; exact hq) (c + 1))
          have SN := hide (O.out.sideF (q * 2) (.int .i64 (c + 1)))
          have VN := hide (SN.out.box _ _ V.out)
          have YN := hide (SN.out.box _ _ Y.out)
          have XN := hide (SN.out.box _ _ X.out)
          have CN := hide (C.out.far (show g9 ≠ gf by have := GFL.out; omega) (b := gf) (i := q * 2) (.int .i64 (c + 1)))
          have PN := hide (own_blk P.out (fun kk hk1 _ => heap_setCell_other wd ⟨gf, q * 2, none⟩ kk (.int .i64 (c + 1)) (show kk ≠ gf by have := GFL.out; omega)))
          have KN := hide (K.out.trans SN.out.below)
          have UN := hide (U.out.far (show gq ≠ gf by have := GQF.out; omega) (b := gf) (i := q * 2) (.int .i64 (c + 1)))
          refine wpAnyH_take (i := 0) (oi := ⟨some 60, _, _, _, _, _⟩) (v := ?_) rfl (by kernel_rfl) (by kernel_rfl) (by kernel_rfl) (fun _ _ _ h => h) (Or.inl ⟨by kernel_rfl, ?_⟩) (by assumption) ?_
          rotate_left 1
          · (intro w hSw; (try dsimp only at hSw); go_simp) <;> (with_reducible rfl)
          (try simp only [Act.put, List.setIfInBounds_toArray, List.set_cons_succ, List.set_cons_zero])
          refine wpAnyH_take (i := 1) (oi := ⟨some 61, _, _, _, _, _⟩) (v := ?_) rfl (by kernel_rfl) (by kernel_rfl) (by kernel_rfl) (fun _ _ _ h => h) (Or.inl ⟨by kernel_rfl, ?_⟩) (by assumption) ?_
          rotate_left 1
          · (intro w hSw; (try dsimp only at hSw); go_simp) <;> (with_reducible rfl)
          (try simp only [Act.put, List.setIfInBounds_toArray, List.set_cons_succ, List.set_cons_zero])
          refine wpAnyH_take (i := 2) (oi := ⟨some 62, _, _, _, _, _⟩) (v := ?_) rfl (by kernel_rfl) (by kernel_rfl) (by kernel_rfl) (fun _ _ _ h => h) (Or.inl ⟨by kernel_rfl, ?_⟩) (by assumption) ?_
          rotate_left 1
          · (intro w hSw; (try dsimp only at hSw); go_simp) <;> (with_reducible rfl)
          (try simp only [Act.put, List.setIfInBounds_toArray, List.set_cons_succ, List.set_cons_zero])
          refine wpAnyH_take (i := 3) (oi := ⟨some 63, _, _, _, _, _⟩) (v := ?_) rfl (by kernel_rfl) (by kernel_rfl) (by kernel_rfl) (fun _ _ _ h => h) (Or.inl ⟨by kernel_rfl, ?_⟩) (by assumption) ?_
          rotate_left 1
          · (intro w hSw; (try dsimp only at hSw); go_simp) <;> (with_reducible rfl)
          (try simp only [Act.put, List.setIfInBounds_toArray, List.set_cons_succ, List.set_cons_zero])
          refine wpAnyH_take (i := 4) (oi := ⟨some 64, _, _, _, _, _⟩) (v := ?_) rfl (by kernel_rfl) (by kernel_rfl) (by kernel_rfl) (fun _ _ _ h => h) (Or.inl ⟨by kernel_rfl, ?_⟩) (by assumption) ?_
          rotate_left 1
          · (intro w hSw; (try dsimp only at hSw); go_simp) <;> (with_reducible rfl)
          (try simp only [Act.put, List.setIfInBounds_toArray, List.set_cons_succ, List.set_cons_zero])
          refine wpAnyH_take (i := 5) (oi := ⟨some 65, _, _, _, _, _⟩) (v := ?_) rfl (by kernel_rfl) (by kernel_rfl) (by kernel_rfl) (fun _ _ _ h => h) (Or.inl ⟨by kernel_rfl, ?_⟩) (by assumption) ?_
          rotate_left 1
          · (intro w hSw; (try dsimp only at hSw); go_simp) <;> (with_reducible rfl)
          (try simp only [Act.put, List.setIfInBounds_toArray, List.set_cons_succ, List.set_cons_zero])
          refine wpAnyH_take (i := 6) (oi := ⟨some 66, _, _, _, _, _⟩) (v := ?_) rfl (by kernel_rfl) (by kernel_rfl) (by kernel_rfl) (fun _ _ _ h => h) (Or.inl ⟨by kernel_rfl, ?_⟩) (by assumption) ?_
          rotate_left 1
          · (intro w hSw; (try dsimp only at hSw); go_simp) <;> (with_reducible rfl)
          (try simp only [Act.put, List.setIfInBounds_toArray, List.set_cons_succ, List.set_cons_zero])
          refine wpAnyH_take (i := 7) (oi := ⟨some 67, _, _, _, _, _⟩) (v := ?_) rfl (by kernel_rfl) (by kernel_rfl) (by kernel_rfl) (fun _ _ _ h => h) (Or.inl ⟨by kernel_rfl, ?_⟩) (by assumption) ?_
          rotate_left 1
          · (intro w hSw; (try dsimp only at hSw); go_simp) <;> (with_reducible rfl)
          (try simp only [Act.put, List.setIfInBounds_toArray, List.set_cons_succ, List.set_cons_zero])
          refine wpAnyH_take (i := 8) (oi := ⟨some 68, _, _, _, _, _⟩) (v := ?_) rfl (by kernel_rfl) (by kernel_rfl) (by kernel_rfl) (fun _ _ _ h => h) (Or.inl ⟨by kernel_rfl, ?_⟩) (by assumption) ?_
          rotate_left 1
          · (intro w hSw; (try dsimp only at hSw); go_simp) <;> (with_reducible rfl)
          (try simp only [Act.put, List.setIfInBounds_toArray, List.set_cons_succ, List.set_cons_zero])
          refine wpAnyH_take (i := 9) (oi := ⟨some 69, _, _, _, _, _⟩) (v := ?_) rfl (by kernel_rfl) (by kernel_rfl) (by kernel_rfl) (fun _ _ _ h => h) (Or.inl ⟨by kernel_rfl, ?_⟩) (by assumption) ?_
          rotate_left 1
          · (intro w hSw; (try dsimp only at hSw); go_simp) <;> (with_reducible rfl)
          (try simp only [Act.put, List.setIfInBounds_toArray, List.set_cons_succ, List.set_cons_zero])
          refine wpAnyH_ready (rs := [10]) (by kernel_rfl) (by simp) ?_
          refine AllReadyH.cons (o := ⟨some 70, _, _, _, _, _⟩) rfl (fun K' hK => ?_) AllReadyH.nil
          have xl := f0
          go_simp
          clear xl
          refine hK.out _ _ ?_ (fun hHeld => ?_)
          · first | exact ⟨v2, u0⟩ | exact KS.out
          clear hK K'
          (try simp only [Act.put, List.setIfInBounds_toArray, List.set_cons_succ, List.set_cons_zero])
          refine wpAnyH_take (i := 11) (oi := ⟨some 71, _, _, _, _, _⟩) (v := ?_) rfl (by kernel_rfl) (by kernel_rfl) (by kernel_rfl) (fun _ _ _ h => h) (Or.inl ⟨by kernel_rfl, ?_⟩) (by assumption) ?_
          rotate_left 1
          · (intro w hSw; (try dsimp only at hSw); go_simp) <;> (with_reducible rfl)
          (try simp only [Act.put, List.setIfInBounds_toArray, List.set_cons_succ, List.set_cons_zero])
          refine wpAnyH_take (i := 12) (oi := ⟨some 72, _, _, _, _, _⟩) (v := ?_) rfl (by kernel_rfl) (by kernel_rfl) (by kernel_rfl) (fun _ _ _ h => h) (Or.inl ⟨by kernel_rfl, ?_⟩) (by assumption) ?_
          rotate_left 1
          · (intro w hSw; (try dsimp only at hSw); go_simp) <;> (with_reducible rfl)
          (try simp only [Act.put, List.setIfInBounds_toArray, List.set_cons_succ, List.set_cons_zero])
          refine wpAnyH_take (i := 13) (oi := ⟨some 73, _, _, _, _, _⟩) (v := ?_) rfl (by kernel_rfl) (by kernel_rfl) (by kernel_rfl) (fun _ _ _ h => h) (Or.inl ⟨by kernel_rfl, ?_⟩) (by assumption) ?_
          rotate_left 1
          · (intro w hSw; (try dsimp only at hSw); go_simp) <;> (with_reducible rfl)
          (try simp only [Act.put, List.setIfInBounds_toArray, List.set_cons_succ, List.set_cons_zero])
          refine wpAnyH_ready (rs := [14]) (by kernel_rfl) (by simp) ?_
          refine AllReadyH.cons (o := ⟨none, _, _, _, _, _⟩) rfl (fun K' hK => ?_) AllReadyH.nil
          have zf0' := zf0
          have f0' := f0
          go_simp
          have KS := hide (And.intro (VN.out.cell 2) ((UN.out.cell 0)))
          refine hK.out _ _ ?_ (fun hHeld => ?_)
          · first | exact ⟨v2, u0⟩ | exact KS.out
          clear hK K'
          (try simp only [Act.put, List.setIfInBounds_toArray, List.set_cons_succ, List.set_cons_zero])
          refine wpAnyH_done (by kernel_rfl) ?_ _
          refine NoPanic.normal ?_
          clear KS wc zf0' f0' NX1
          clear O V Y X C P K SN
          have O := ON
          have V := VN
          have Y := YN
          have X := XN
          have C := CN
          have P := PN
          have K := KN
          clear ON VN YN XN CN PN KN
          clear u0 v2 f0 zf0 UN U
          generalize World.setCell _ ⟨gf, q * 2, none⟩ (.int .i64 (c + 1)) = w8 at *
          go_wp2
          go_roundw
          case rel => first | exact ⟨k + 1, PA2, cP2, by omega, by go_num, O, V, Y, X, C, P, K⟩ | ((repeat apply Exists.intro); exact ⟨⟨k + 1, PA2, cP2, by omega, by go_num, O, V, Y, X, C, P, K⟩, rfl⟩)
          case measure => simp [intOf]; omega
      · obtain rfl : ln = k := by omega
        obtain ⟨L, hL⟩ : ∃ L, L = (sAt (fkS M n ln).sp n).2 := ⟨_, rfl⟩
        have HL := hide hL
        have LL := hide (show L.length = ln by rw [hL]; exact hlk)
        rw [← hL] at P
        rw [show L.take ln = L by rw [← LL.out, List.take_length]] at P
        clear hL
        obtain ⟨v0, v1, v2, v3⟩ := box4 V.out
        obtain ⟨c0, c1⟩ := box2 C.out
        have M8 := bal (brefl wr) (.cells #[.bool true, .slice PA ln cP] 62)
        have NB := hide (Box.new wr 62 #[.bool true, .slice PA ln cP])
        have SB := hide (Nat.le_trans K.out.size M8.size)
        replace O := hide (O.out.below M8)
        replace V := hide (V.out.below M8)
        replace Y := hide (Y.out.below M8)
        replace X := hide (X.out.below M8)
        replace C := hide (C.out.below M8)
        replace P := hide (row_below P.out M8)
        replace K := hide (btrans K.out M8)
        clear M8
        have OP := hide O.out.sp
        rw [HLS.out] at OP
        have hz3 : ¬ (ln : Int) < M.sz := by have := HZN.out; omega
        go_upto_region 17 with (at_builtin; refine wpList_append_own_at _ rfl (.tmp 75) (.tmp 77) 25 rfl w.heap.size 62 i62 _ 2 32 Try.underlying25 hi62 hz62 hy62 hx62 rfl (by omega) (.slice (some ⟨gs, 0, none⟩) M.sp.length cs2) M.sp.length (tcs T) rfl OP.out ⟨wr.heap.size, 0, none⟩ 1 1 [.bool true, .slice PA ln cP] rfl rfl (two_at NB.out) (one_two rfl rfl) (by simp only [maxLen]; omega) (by omega) SB.out ?_; intro v9 w7 hown hg9 _ hat; obtain ⟨A4, c4, ev, hcN⟩ := row_form hown; subst ev; have BG := (Kp.grown OP.out hg9 (Nat.le_refl _) SB.out); obtain ⟨xc0, xc1, xc2, xc3⟩ := box4 (Box.kp V.out BG (by decide)); have xf1 := (Box.kp V.out BG (by decide)).frozen 1)
        have O7 := O.out.push (L := L) (v1 := .slice PA ln cP) (by rw [LL.out]; exact row_mono P.out (by have := GW9.out; omega)) (fun gg hg jj hjj e2 => by
          have h1 := (World.ownsRow.lt P.out gg hg).1
          have h2 := LOW.out.2.2 jj (by rw [← HLS.out]; exact hjj) gg e2
          omega) (by rw [HLS.out]; exact hown) BG
        have V7 := Box.kp V.out BG (by decide)
        replace O7 := hide (O7.kp (Kp.boxset V7 G4.out 1 (.slice A4 (M.sp.length + 1) c4)))
        replace X := hide ((Box.kp X.out BG (by decide)).far G5.out (b := g3) (i := 1) (.slice A4 (M.sp.length + 1) c4))
        replace Y := hide ((Box.kp Y.out BG (by decide)).far G3.out (b := g3) (i := 1) (.slice A4 (M.sp.length + 1) c4))
        replace V := hide (show Box (w7.setCell ⟨g3, 1, none⟩ (.slice A4 (M.sp.length + 1) c4)) g3 28 #[.int .i64 M.sz, .slice A4 (M.sp.length + 1) c4, .slice (some ⟨gf, 0, none⟩) M.fr.length cf2, .int .i64 M.cp] by have := V7.put 1 (.slice A4 (M.sp.length + 1) c4); simpa using this)
        replace K := hide ((K.out.trans BG.below).setCell (p := ⟨g3, 1, none⟩) G4.out (.slice A4 (M.sp.length + 1) c4))
        clear V7 BG hown hg9 hat hcN xc0 xc1 xc2 xc3 xf1 v0 v1 v2 v3 c0 c1 OP NB SB C P O
        generalize w7.setCell ⟨g3, 1, none⟩ (.slice A4 (M.sp.length + 1) c4) = w8 at *
        obtain ⟨v0, v1, v2, v3⟩ := box4 V.out
        obtain ⟨x0, x1, x2, x3⟩ := box4 X.out
        refine wp_region_noPanic ?_
        refine wp_region_held_drew (S := (fun W => W.cell? ⟨g3, 0, none⟩ = some (.int .i64 M.sz) ∧ W.cell? ⟨g3, 1, none⟩ = some (.slice A4 (M.sp.length + 1) c4) ∧ W.cell? ⟨g3, 2, none⟩ = some (.slice (some ⟨gf, 0, none⟩) M.fr.length cf2) ∧ W.cell? ⟨g3, 3, none⟩ = some (.int .i64 M.cp) ∧ W.cell? ⟨g, 1, none⟩ = some (.slice As M.sp.length cs))) (by kernel_rfl) ?_ (fun hHeld => ?_)
        · first | exact ⟨v0, v1, v2, v3, x1⟩ | exact KS.out
        replace O7 := hide (O7.out.below (below_drewN (brefl w8) 1))
        replace V := hide (V.out.below (below_drewN (brefl w8) 1))
        replace Y := hide (Y.out.below (below_drewN (brefl w8) 1))
        replace X := hide (X.out.below (below_drewN (brefl w8) 1))
        replace K := hide (btrans K.out (below_drewN (brefl w8) 1))
        change Hid (OwM _ w8.drew _ _ _ _ _ _) at O7
        change Hid (Box w8.drew _ _ _) at V
        change Hid (Box w8.drew _ _ _) at Y
        change Hid (Box w8.drew _ _ _) at X
        change Hid (Below _ _ w8.drew) at K
        generalize w8.drew = w9 at *
        clear v0 v1 v2 v3 x0 x1 x2 x3
        obtain ⟨v0, v1, v2, v3⟩ := box4 V.out
        obtain ⟨x0, x1, x2, x3⟩ := box4 X.out
        obtain ⟨y0, y1, y2, y3⟩ := box4 Y.out
        have z0 := Y.out.frozen 0
        have z1 := Y.out.frozen 1
        have z2 := Y.out.frozen 2
        have z3 := Y.out.frozen 3
        have KK := hide (kp4 Y.out GG.out.2 (.int .i64 M.sz) (.slice A4 (M.sp.length + 1) c4) (.slice (some ⟨gf, 0, none⟩) M.fr.length cf2) (.int .i64 M.cp))
        have VS := hide (far4 V.out G3.out.symm (.int .i64 M.sz) (.slice A4 (M.sp.length + 1) c4) (.slice (some ⟨gf, 0, none⟩) M.fr.length cf2) (.int .i64 M.cp))
        have XS := hide (far4 X.out GN.out (.int .i64 M.sz) (.slice A4 (M.sp.length + 1) c4) (.slice (some ⟨gf, 0, none⟩) M.fr.length cf2) (.int .i64 M.cp))
        have KS := hide (And.intro (VS.out.cell 0) (And.intro (VS.out.cell 1) (And.intro (VS.out.cell 2) (And.intro (VS.out.cell 3) (XS.out.cell 1)))))
        refine wpAnyH_take (i := 0) (oi := ⟨some 80, _, _, _, _, _⟩) (v := ?_) rfl (by kernel_rfl) (by kernel_rfl) (by kernel_rfl) (fun _ _ _ h => h) (Or.inl ⟨by kernel_rfl, ?_⟩) (by assumption) ?_
        rotate_left 1
        · (intro w hSw; (try dsimp only at hSw); go_simp) <;> (with_reducible rfl)
        (try simp only [Act.put, List.setIfInBounds_toArray, List.set_cons_succ, List.set_cons_zero])
        refine wpAnyH_take (i := 1) (oi := ⟨some 81, _, _, _, _, _⟩) (v := ?_) rfl (by kernel_rfl) (by kernel_rfl) (by kernel_rfl) (fun _ _ _ h => h) (Or.inl ⟨by kernel_rfl, ?_⟩) (by assumption) ?_
        rotate_left 1
        · (intro w hSw; (try dsimp only at hSw); go_simp) <;> (with_reducible rfl)
        (try simp only [Act.put, List.setIfInBounds_toArray, List.set_cons_succ, List.set_cons_zero])
        refine wpAnyH_take (i := 2) (oi := ⟨some 82, _, _, _, _, _⟩) (v := ?_) rfl (by kernel_rfl) (by kernel_rfl) (by kernel_rfl) (fun _ _ _ h => h) (Or.inl ⟨by kernel_rfl, ?_⟩) (by assumption) ?_
        rotate_left 1
        · (intro w hSw; (try dsimp only at hSw); go_simp) <;> (with_reducible rfl)
        (try simp only [Act.put, List.setIfInBounds_toArray, List.set_cons_succ, List.set_cons_zero])
        refine wpAnyH_take (i := 3) (oi := ⟨some 83, _, _, _, _, _⟩) (v := ?_) rfl (by kernel_rfl) (by kernel_rfl) (by kernel_rfl) (fun _ _ _ h => h) (Or.inl ⟨by kernel_rfl, ?_⟩) (by assumption) ?_
        rotate_left 1
        · (intro w hSw; (try dsimp only at hSw); go_simp) <;> (with_reducible rfl)
        (try simp only [Act.put, List.setIfInBounds_toArray, List.set_cons_succ, List.set_cons_zero])
        refine wpAnyH_ready (rs := [4]) (by kernel_rfl) (by simp) ?_
        refine AllReadyH.cons (o := _) rfl (fun K' hK => ?_) AllReadyH.nil
        go_simp
        refine hK.out _ _ ?_ (fun hHeld => ?_)
        · first | exact ⟨v0, v1, v2, v3, x1⟩ | exact KS.out
        clear hK K'
        (try simp only [Act.put, List.setIfInBounds_toArray, List.set_cons_succ, List.set_cons_zero])
        refine wpAnyH_take (i := 5) (oi := ⟨some 5, _, _, _, _, _⟩) (v := ?_) rfl (by kernel_rfl) (by kernel_rfl) (by kernel_rfl) (fun _ _ _ h => h) (Or.inl ⟨by kernel_rfl, ?_⟩) (by assumption) ?_
        rotate_left 1
        · (intro w hSw; (try dsimp only at hSw); go_simp) <;> (with_reducible rfl)
        (try simp only [Act.put, List.setIfInBounds_toArray, List.set_cons_succ, List.set_cons_zero])
        refine wpAnyH_take (i := 6) (oi := ⟨some 6, _, _, _, _, _⟩) (v := ?_) rfl (by kernel_rfl) (by kernel_rfl) (by kernel_rfl) (fun _ _ _ h => h) (Or.inl ⟨by kernel_rfl, ?_⟩) (by assumption) ?_
        rotate_left 1
        · (intro w hSw; (try dsimp only at hSw); go_simp) <;> (with_reducible rfl)
        (try simp only [Act.put, List.setIfInBounds_toArray, List.set_cons_succ, List.set_cons_zero])
        refine wpAnyH_done (by kernel_rfl) ?_ _
        refine NoPanic.normal ?_
        go_wp2
        refine ret_c3 Try.results35 rfl rfl rfl rfl (box4s Y.out) ⟨A4, c4, some ⟨gf, 0, none⟩, cf2, ?_, ?_, K.out.trans KK.out.below⟩
        · rw [E.out, ← HL.out]
          have e := cwA_add hn ln L A4 c4 (some ⟨gf, 0, none⟩) cf2
          unfold cwA at e
          rw [e]; rfl
        · rw [E.out, ← HL.out]; exact (O7.out.kp KK.out).toIn
end Go.Proofs.Ytoogdggiemacjaa.Cw
