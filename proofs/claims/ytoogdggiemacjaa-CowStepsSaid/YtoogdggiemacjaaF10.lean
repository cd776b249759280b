import Derived.Test.YtoogdggiemacjaaF9
namespace Go.Proofs.Ytoogdggiemacjaa.Cw
open Go Go.RowKit
set_option linter.unusedVariables false
set_option linter.unusedSimpArgs false
def Cow.kill (M : Cow) (n : Nat) : Cow := { M with sp := M.sp.set n (false, []) }
theorem OwM.killed {B : Nat} {w : World} {M : Cow} {Af : Option Addr} {cs cf g : Nat} {T : Tb} (h : OwM B w M (some ⟨g, 0, none⟩) cs Af cf T) {n : Nat} (hn : n < M.sp.length) : OwM B ((w.setCell ⟨g, n * 2, none⟩ (.bool false)).setCell ⟨g, n * 2 + 1, none⟩ (.slice none 0 0)) (M.kill n) (some ⟨g, 0, none⟩) cs Af cf (T.set n (false, .slice none 0 0)) := by
  have ht : n < T.length := by rw [h.tl]; exact hn
  have e : (M.sp.set n (false, [])).length = M.sp.length := by simp
  have s1 := row_set (row_set h.sp (n * 2) (.bool false)) (n * 2 + 1) (.slice none 0 0)
  have q1 : (tcs T).set (n * 2) (.bool false) = tcs (T.set n (false, (tAt T n).2)) := c2_set0 T n ht (false, (tAt T n).2) (by rw [tAt_get ht])
  have q2 : (tcs (T.set n (false, (tAt T n).2))).set (n * 2 + 1) (.slice none 0 0) = tcs ((T.set n (false, (tAt T n).2)).set n (false, .slice none 0 0)) := c2_set1 (T.set n (false, (tAt T n).2)) n (by simpa using ht) (false, .slice none 0 0) (by simp)
  rw [q1, q2, List.set_set] at s1
  unfold Cow.kill
  refine ⟨by simpa using h.tl, row_other (row_other h.fr h.sp (by decide) _ _) (row_set h.sp _ _) (by decide) _ _, by simp only [e]; exact s1, ?_, ?_, ?_⟩
  · intro k hk
    simp only [e] at hk
    rw [tAt_set ht]
    simp only [sAt_set hn]
    split
    · rfl
    · exact h.lv k hk
  · intro k hk
    simp only [e] at hk
    rw [tAt_set ht]
    simp only [sAt_set hn]
    split
    · exact ⟨rfl, .inl ⟨rfl, rfl⟩⟩
    · exact row_other (row_other (h.pg k hk) h.sp (by decide) _ _) (row_set h.sp _ _) (by decide) _ _
  · intro i j hi hj hij q
    simp only [e] at hi hj
    rw [tAt_set ht, tAt_set ht]
    by_cases e1 : i = n
    · rw [if_pos e1]; intro a; simp [Value.ownBlock] at a
    · rw [if_neg e1]
      by_cases e2 : j = n
      · rw [if_pos e2]; intro a b; simp [Value.ownBlock] at b
      · rw [if_neg e2]; exact h.ne i j hi hj hij q
theorem OwM.sideK {B : Nat} {w : World} {M : Cow} {Af : Option Addr} {cs cf g : Nat} {T : Tb} (h : OwM B w M (some ⟨g, 0, none⟩) cs Af cf T) (i j : Nat) (u v : Value) : Side B w ((w.setCell ⟨g, i, none⟩ u).setCell ⟨g, j, none⟩ v) :=
  (Side.row h.sp (by decide) i u).trans (Side.row (row_set h.sp i u) (by decide) j v)
-- MANY PAGES HIDDEN
def exS (M : Cow) (n : Nat) : Nat → Cow
  | 0 => M
  | k + 1 => hdG (exS M n k) n k
theorem drop_sp (M : Cow) (f : Int) : (dropF M f).sp = M.sp := by unfold dropF Cow.setF; split <;> rfl
theorem drop_sz (M : Cow) (f : Int) : (dropF M f).sz = M.sz := by unfold dropF Cow.setF; split <;> rfl
theorem drop_cp (M : Cow) (f : Int) : (dropF M f).cp = M.cp := by unfold dropF Cow.setF; split <;> rfl
theorem drop_len (M : Cow) (f : Int) : (dropF M f).fr.length = M.fr.length := by unfold dropF Cow.setF; split <;> simp
theorem drop_cnt (M : Cow) (f : Int) (j : Nat) : (fAt (dropF M f).fr j).1 = (fAt M.fr j).1 ∨ (fAt (dropF M f).fr j).1 = (fAt M.fr j).1 - 1 := by
  unfold dropF
  split
  · exact .inl rfl
  · unfold Cow.setF
    simp only
    by_cases hl : f.toNat < M.fr.length
    · rw [fAt_set hl]
      split
      · rename_i e; subst e; exact .inr rfl
      · exact .inl rfl
    · rw [List.set_eq_of_length_le (by omega)]; exact .inl rfl
theorem hd_at {M : Cow} {n : Nat} (hn : n < M.sp.length) (m : Nat) : sAt (hdG M n m).sp n = ((sAt M.sp n).1, (sAt M.sp n).2.set m (-1, false)) := by
  unfold hdG
  rw [setP_at (by rw [drop_sp]; exact hn), drop_sp]
theorem hd_len (M : Cow) (n m : Nat) : (hdG M n m).sp.length = M.sp.length ∧ (hdG M n m).fr.length = M.fr.length ∧ (hdG M n m).sz = M.sz ∧ (hdG M n m).cp = M.cp := by
  unfold hdG
  refine ⟨by rw [setP_len, drop_sp], ?_, ?_, ?_⟩
  · exact drop_len _ _
  · exact drop_sz _ _
  · exact drop_cp _ _
theorem ex_facts {M : Cow} {n : Nat} (hn : n < M.sp.length) : ∀ k, (exS M n k).sp.length = M.sp.length ∧ (exS M n k).fr.length = M.fr.length ∧ (sAt (exS M n k).sp n).2.length = (sAt M.sp n).2.length ∧ (∀ j, k ≤ j → j < (sAt M.sp n).2.length → pAt (sAt (exS M n k).sp n).2 j = pAt (sAt M.sp n).2 j) ∧ ∀ j, (fAt M.fr j).1 - k ≤ (fAt (exS M n k).fr j).1 ∧ (fAt (exS M n k).fr j).1 ≤ (fAt M.fr j).1
  | 0 => ⟨rfl, rfl, rfl, fun _ _ _ => rfl, fun j => ⟨by simp [exS], Int.le_refl _⟩⟩
  | k + 1 => by
    obtain ⟨a, b, c, d, e⟩ := ex_facts hn k
    have hd := hd_len (exS M n k) n k
    have ha := hd_at (M := exS M n k) (n := n) (by rw [a]; exact hn) k
    refine ⟨hd.1.trans a, hd.2.1.trans b, ?_, ?_, ?_⟩
    · show (sAt (hdG (exS M n k) n k).sp n).2.length = _
      rw [ha]; simpa using c
    · intro j hj hjl
      show pAt (sAt (hdG (exS M n k) n k).sp n).2 j = _
      rw [ha]
      by_cases hkl : k < (sAt (exS M n k).sp n).2.length
      · simp only [pAt_set hkl]
        rw [if_neg (by omega)]
        exact d j (by omega) hjl
      · simp only
        rw [List.set_eq_of_length_le (by omega)]
        exact d j (by omega) hjl
    · intro j
      have := drop_cnt (exS M n k) (pAt (sAt (exS M n k).sp n).2 k).1 j
      have q : (fAt (exS M n (k + 1)).fr j).1 = (fAt (dropF (exS M n k) (pAt (sAt (exS M n k).sp n).2 k).1).fr j).1 := rfl
      have := e j
      rw [q]
      push_cast
      omega
theorem cwA_ex (M : Cow) (n : Nat) (As : Option Addr) (cs : Nat) (Af : Option Addr) (cf : Nat) : ∀ k, cwA (exS M n k) As cs Af cf = cwA M As cs Af cf
  | 0 => rfl
  | k + 1 => (cwA_hd _ _ _ _ _ _ _).trans (cwA_ex M n As cs Af cf k)
def exG (M : Cow) (s : Int) : Cow := if csE M s ≠ 0 then zeroM else (exS M s.toNat M.sz.toNat).kill s.toNat
theorem space_at {M : Cow} {s : Int} (h : csE M s = 0) : ∃ n : Nat, s = n ∧ n < M.sp.length ∧ (sAt M.sp n).1 = true ∧ (((sAt M.sp n).2.length : Nat) : Int) = M.sz ∧ szG M ∧ fmG M ∧ stG M ∧ acG M := by
  obtain ⟨hc, h1, h2, h3⟩ := csE_zero h
  obtain ⟨g1, g2, g3, g4⟩ := chE_zero hc
  obtain ⟨n, rfl⟩ := Int.eq_ofNat_of_zero_le h1
  have hn : n < M.sp.length := by omega
  rw [Int.toNat_natCast] at h3
  have a := (g2 _ (sAt_mem hn)).1
  unfold lnG at a
  rw [if_pos h3] at a
  exact ⟨n, rfl, hn, h3, a, g1, g2, g3, g4⟩
theorem cwA_kill (M : Cow) (n : Nat) (As : Option Addr) (cs : Nat) (Af : Option Addr) (cf : Nat) : cwA (M.kill n) As cs Af cf = cwA M As cs Af cf := by
  unfold cwA Cow.kill; simp
set_option maxRecDepth 100000 in
set_option maxHeartbeats 16000000 in
theorem exit_any (M : Cow) (As Af : Option Addr) (cs cf : Nat) (s : Int) (w : World) (h : CwIn w M As cs Af cf) (hB : Big M) : Calls Try.prog 29 #[.agg (cwA M As cs Af cf), .int .i64 s] w (Res w (exG M s) (csE M s)) := by
  have PA := hide (space_at (M := M) (s := s))
  have E0 := hide (fun hn : csE M s ≠ 0 => show exG M s = zeroM from if_pos hn)
  have E1 := hide (fun hn : csE M s = 0 => show exG M s = (exS M s.toNat M.sz.toNat).kill s.toNat from if_neg (fun g => g hn))
  unfold Res
  obtain ⟨W0, hW0⟩ : ∃ W0, W0 = (w.alloc (.cells (cwA M As cs Af cf) 28)).alloc (.cells #[.int .i64 0, .slice none 0 0, .slice none 0 0, .int .i64 0] 28) := ⟨_, rfl⟩
  have K := hide (show Below w.heap.size w W0 by rw [hW0]; exact bal (bal (brefl w) _) _)
  have X := hide (show Box W0 w.heap.size 28 (cwA M As cs Af cf) by rw [hW0]; exact (Box.new w 28 _).more _)
  have Y := hide (show Box W0 (w.heap.size + 1) 28 #[.int .i64 0, .slice none 0 0, .slice none 0 0, .int .i64 0] by rw [hW0]; exact Box.new2 _ _ _ _)
  have IN := hide h
  have CK := hide (fun w' => fun hb : Below w.heap.size w w' => cspace_any M As Af cs cf s w' (h.below hb) hB)
  have CL := hide (fun w' => fun hb : Below w.heap.size w w' => clone_any M As Af cs cf w' (h.below hb))
  clear h hB
  unfold cwA at X hW0 CK CL ⊢
  generalize csE M s = ec at *
  go_enter Try.func29, Try.ntmps29
  go_upto_region 1 with fail
  rw [← hW0]
  clear hW0
  obtain ⟨g2, hg2⟩ : ∃ g, g = w.heap.size + 1 := ⟨_, rfl⟩
  obtain ⟨g, hg⟩ : ∃ g, g = w.heap.size := ⟨_, rfl⟩
  have GN := hide (show g ≠ g2 by omega)
  have GG := hide (show w.heap.size ≤ g ∧ w.heap.size ≤ g2 by omega)
  rw [← hg2, ← hg]
  rw [← hg2] at Y
  rw [← hg] at X
  clear hg2 hg
  obtain ⟨x0, x1, x2, x3⟩ := box4 X.out
  go_wp2_with fail
  refine (CK.out _ K.out).mono ?_
  rintro e w1 ⟨rfl, hb⟩
  replace X := hide (X.out.below hb)
  replace Y := hide (Y.out.below hb)
  replace K := hide (btrans K.out hb)
  clear hb x0 x1 x2 x3 CK
  obtain ⟨x0, x1, x2, x3⟩ := box4 X.out
  by_cases h1 : ec = 0
  case neg =>
    have E := hide (E0.out h1)
    obtain ⟨y0, y1, y2, y3⟩ := box4 Y.out
    have z0 := Y.out.frozen 0
    have z1 := Y.out.frozen 1
    have z2 := Y.out.frozen 2
    have z3 := Y.out.frozen 3
    go_wp2
    have KK := kp4 Y.out GG.out.2 (.int .i64 0) (.slice none 0 0) (.slice none 0 0) (.int .i64 0)
    refine ret_c2 Try.results29 rfl rfl rfl (box4s Y.out) ⟨none, 0, none, 0, ?_, ?_, K.out.trans KK.below⟩
    · rw [E.out]; rfl
    · rw [E.out]; exact zero_in _
  case pos =>
    obtain ⟨n, rfl, hn, hl, hz, hsz, hfm, hst, -⟩ := PA.out h1
    subst h1
    have E := hide (E1.out rfl)
    rw [Int.toNat_natCast] at E
    have HSZ := hide hsz
    have HPL := hide (plen hsz hfm)
    have HCB := hide (cbound hsz hfm hst)
    have PGS := hide (show ∀ m, m < (sAt M.sp n).2.length → pgG M.fr.length (pAt (sAt M.sp n).2 m) from fun m hm => (hfm _ (sAt_mem hn)).2 _ (pAt_mem hm))
    have XF := hide (ex_facts hn)
    have XC := hide (cwA_ex M n)
    clear E0 E1 PA hst hfm
    have zn : M.sz = (M.sz.toNat : Nat) := by omega
    have HZN := hide zn
    have HLZ := hide (show (sAt M.sp n).2.length = M.sz.toNat by omega)
    have zl : M.sz.toNat ≤ 512 := by have := hsz.1.2; omega
    have sl : M.sp.length ≤ 8 := hsz.2.1.2
    clear hl hz zn
    go_wp2_with fail
    refine (CL.out _ K.out HSZ.out HPL.out).mono ?_
    rintro e w2 ⟨As2, cs2, Af2, cf2, T, rfl, hO, hb⟩
    replace X := hide (X.out.below hb)
    replace Y := hide (Y.out.below hb)
    have GS := hide (show g2 < w2.heap.size from Y.out.lt)
    have GB := hide (show w.heap.size ≤ w1.heap.size from K.out.size)
    replace K := hide (btrans K.out hb)
    have O := hide hO
    clear hO hb x0 x1 x2 x3 CL
    have M3 := bal (brefl w2) (.cells #[.int .i64 M.sz, .slice As2 M.sp.length cs2, .slice Af2 M.fr.length cf2, .int .i64 M.cp] 28)
    have V := hide (Box.new w2 28 #[.int .i64 M.sz, .slice As2 M.sp.length cs2, .slice Af2 M.fr.length cf2, .int .i64 M.cp])
    replace X := hide (X.out.below M3)
    replace Y := hide (Y.out.below M3)
    replace O := hide (O.out.below M3)
    replace K := hide (btrans K.out M3)
    clear M3
    go_upto_region 5 with fail
    obtain ⟨g3, hg3⟩ : ∃ g, g = w2.heap.size := ⟨_, rfl⟩
    have G3 := hide (show g2 ≠ g3 by have := GS.out; omega)
    have G4 := hide (show w.heap.size ≤ g3 by have := GS.out; have := GG.out.2; omega)
    rw [← hg3] at V ⊢
    clear hg3
    generalize w2.alloc (.cells #[.int .i64 M.sz, .slice As2 M.sp.length cs2, .slice Af2 M.fr.length cf2, .int .i64 M.cp] 28) = w3 at *
    have HI := hide (fun k (hk : k < M.sz.toNat) wx hO hX hB => hide_any w.heap.size g3 (exS M n k) As2 Af2 cs2 cf2 T n k wx hO hX hB (by rw [(XF.out k).1]; exact hn) (by rw [(XF.out k).2.2.1, HLZ.out]; exact hk) (by rw [(XF.out k).2.1, (XF.out k).2.2.2.1 k (Nat.le_refl _) (by rw [HLZ.out]; exact hk)]; exact PGS.out k (by rw [HLZ.out]; exact hk)) (by rw [(XF.out k).1]; exact hsz.2.1.2) (by rw [(XF.out k).2.2.1]; exact HPL.out n hn) (by rw [(XF.out k).2.1]; exact hsz.2.2.1.2) (fun j hj => by
      have a := (XF.out k).2.2.2.2 j
      have b := HCB.out j (by rw [← (XF.out k).2.1]; exact hj)
      exact ⟨by omega, by omega⟩))
    have n0 : (0 : Int) ≤ (n : Int) := by omega
    obtain ⟨zz, hzz⟩ : ∃ zz, zz = M.sz.toNat := ⟨_, rfl⟩
    rw [← hzz] at HI HZN zl E
    replace O := hide (O.out.mono1 GB.out)
    clear hsz hzz HLZ
    obtain ⟨x0, x1, x2, x3⟩ := box4 X.out
    go_wp2
    clear x0 x1 x2 x3
    go_loopw [20] (fun i wr => ∃ k : Nat, k ≤ zz ∧ i = .int .i64 k ∧ Hid (OwM w.heap.size wr (exS M n k) As2 cs2 Af2 cf2 T) ∧ Hid (Box wr g3 28 (cwA (exS M n k) As2 cs2 Af2 cf2)) ∧ Hid (Box wr g2 28 #[.int .i64 0, .slice none 0 0, .slice none 0 0, .int .i64 0]) ∧ Hid (Below w.heap.size w wr)) (fun i _ => zz - (intOf i).toNat)
    case atStart => exact ⟨0, Nat.zero_le _, rfl, O, V, Y, K⟩
    case round =>
      clear O V Y K X
      obtain ⟨k, hk, rfl, O, V, Y, K⟩ := hrel
      by_cases hlt : k < zz
      · have hl2 : (k : Int) < M.sz := by have := HZN.out; omega
        go_wp2_with fail
        refine (HI.out k hlt _ O.out V.out K.out.size).mono ?_
        rintro e w4 ⟨rfl, hO, hS⟩
        have O4 := hide (show OwM w.heap.size w4 (exS M n (k + 1)) As2 cs2 Af2 cf2 T from hO)
        have V4 := hide (show Box w4 g3 28 (cwA (exS M n (k + 1)) As2 cs2 Af2 cf2) by rw [XC.out, ← XC.out As2 cs2 Af2 cf2 k]; exact hS.box _ _ V.out)
        have Y4 := hide (hS.box _ _ Y.out)
        have K4 := hide (K.out.trans hS.below)
        clear hO hS O V Y K
        go_wp2
        go_roundw
        case rel => first | exact ⟨k + 1, by omega, by go_num, O4, V4, Y4, K4⟩ | ((repeat apply Exists.intro); exact ⟨⟨k + 1, by omega, by go_num, O4, V4, Y4, K4⟩, rfl⟩)
        case measure => simp [intOf]; omega
      · obtain rfl : k = zz := by omega
        have hl3 : ¬ (k : Int) < M.sz := by have := HZN.out; omega
        have hnx : n < (exS M n k).sp.length := by rw [(XF.out k).1]; exact hn
        obtain ⟨gs, eA, _, _, q0, q1, zs⟩ := O.out.space hnx
        subst eA
        have zs0 := zs (n * 2)
        have zs1 := zs (n * 2 + 1)
        have XX := XC.out (some ⟨gs, 0, none⟩) cs2 Af2 cf2 k
        rw [XX] at V
        unfold cwA at V
        obtain ⟨v0, v1, v2, v3⟩ := box4 V.out
        have O4 := hide (O.out.killed hnx)
        have S4 := hide (O.out.sideK (n * 2) (n * 2 + 1) (.bool false) (.slice none 0 0))
        have V4 := hide (S4.out.box _ _ V.out)
        have Y4 := hide (S4.out.box _ _ Y.out)
        have K4 := hide (K.out.trans S4.out.below)
        have n1 : (n : Int) < (M.sp.length : Int) := by omega
        go_upto_region 11 with fail
        clear O V Y K q0 q1 zs zs0 zs1 v0 v1 v2 v3
        generalize (wr.setCell ⟨gs, n * 2, none⟩ (.bool false)).setCell ⟨gs, n * 2 + 1, none⟩ (.slice none 0 0) = w5 at *
        obtain ⟨v0, v1, v2, v3⟩ := box4 V4.out
        obtain ⟨y0, y1, y2, y3⟩ := box4 Y4.out
        have z0 := Y4.out.frozen 0
        have z1 := Y4.out.frozen 1
        have z2 := Y4.out.frozen 2
        have z3 := Y4.out.frozen 3
        go_wp2
        refine ret_c2 Try.results29 rfl rfl rfl (box4s Y4.out) ⟨some ⟨gs, 0, none⟩, cs2, Af2, cf2, ?_, ?_, K4.out.trans (kp4 Y4.out GG.out.2 _ _ _ _).below⟩
        · rw [E.out]
          have e := (cwA_kill (exS M n k) n (some ⟨gs, 0, none⟩) cs2 Af2 cf2).trans XX
          unfold cwA at e
          rw [e]; rfl
        · rw [E.out]; exact (O4.out.setCells4 Y4.out GG.out.2 _ _ _ _).toIn
end Go.Proofs.Ytoogdggiemacjaa.Cw
