import Derived.Test.YtoogdggiemacjaaF12
namespace Go.Proofs.Ytoogdggiemacjaa.Cw
open Go Go.RowKit
set_option linter.unusedVariables false
set_option linter.unusedSimpArgs false
theorem step_append_own {P : Program} {w : World} {ops : Array Oper} {o : Oper} {a : Act} {K : Act → World → Prop} {Q : Exit → Act → World → Prop} {E : Prop} (hgd : o.guard = none) (s x : Operand) (t : TypeId)
    (ho : o.op = .call { callee := .builtin .append, args := #[s, x], argTypes := #[t, t] })
    (base : Nat) (e : TypeId) (i : TypeInfo) (z : Value) (size bytes : Nat) (ht : P.underlying t = some (.slice e)) (hi : P.info? e = some i) (hz : i.zero = some z)
    (hsize : i.size = size) (hby : i.bytes = bytes) (hzs : z.cells.size = size) (hsz : 0 < size)
    (v : Value) (n : Nat) (xs : List Value) (hs : a.eval s = v) (hown : w.ownsRow base e size v n xs)
    (ad : Addr) (m c : Nat) (news : List Value) (hx : a.eval x = .slice (some ad) m c) (hl : news.length = m * size) (hnews : ∀ j u, news[j]? = some u → w.cell? (ad.add j) = some u) (h1 : ∀ u ∈ news, u.oneCell' = true)
    (h63 : n + m ≤ maxLen) (hbytes : (n + m) * bytes ≤ 140737488355328) (hbase : base ≤ w.heap.size)
    (h : ∀ v' w', w'.ownsRow base e size v' (n + m) (xs ++ news) → w.grownBy w' v.ownBlock → K (a.put o.dst v') w') :
    if Region.wanted o (yielded ops a.tmps) = true then Oper.wp P o a w K Q else E := by
  have hw : Region.wanted o (yielded ops a.tmps) = true := by simp [Region.wanted, hgd]
  rw [if_pos hw]
  exact wp_append_own w s x t ho base e i z size bytes ht hi hz hsize hby hzs hsz v n xs hs hown ad m c news hx hl hnews h1 h63 hbytes hbase fun v' w' h2 h3 _ => h v' w' h2 h3
theorem far4 {W : World} {g h : Nat} {t : TypeId} {cs : Array Value} (hX : Box W g t cs) (hne : g ≠ h) (x0 x1 x2 x3 : Value) : Box ((((W.setCell ⟨h, 0, none⟩ x0).setCell ⟨h, 1, none⟩ x1).setCell ⟨h, 2, none⟩ x2).setCell ⟨h, 3, none⟩ x3) g t cs := (((hX.far hne x0).far hne x1).far hne x2).far hne x3
def pgStep (M : Cow) (n m : Nat) : Cow :=
  if (pAt (sAt M.sp n).2 m).1 < 0 then M.setP n m ((pAt (sAt M.sp n).2 m).1, false)
  else (M.setP n m ((pAt (sAt M.sp n).2 m).1, false)).setF (pAt (sAt M.sp n).2 m).1.toNat ((fAt M.fr (pAt (sAt M.sp n).2 m).1.toNat).1 + 1, (fAt M.fr (pAt (sAt M.sp n).2 m).1.toNat).2)
def fkS (M : Cow) (n : Nat) : Nat → Cow
  | 0 => M
  | k + 1 => pgStep (fkS M n k) n k
theorem cell_row (w : World) (cs : Array Value) (t : TypeId) : ∀ j u, cs.toList[j]? = some u → (w.alloc (.cells cs t)).cell? ((⟨w.heap.size, 0, none⟩ : Addr).add j) = some u := by
  intro j u hu
  rw [add_at, Nat.zero_add, (Box.new w t cs).cell]
  simpa using hu
theorem step_sp (M : Cow) (n m : Nat) : (pgStep M n m).sp = M.sp.set n ((sAt M.sp n).1, (sAt M.sp n).2.set m ((pAt (sAt M.sp n).2 m).1, false)) := by
  unfold pgStep; split <;> rfl
theorem step_len (M : Cow) (n m : Nat) : (pgStep M n m).sp.length = M.sp.length ∧ (pgStep M n m).fr.length = M.fr.length ∧ (pgStep M n m).sz = M.sz ∧ (pgStep M n m).cp = M.cp := by
  refine ⟨by rw [step_sp]; simp, ?_, ?_, ?_⟩
  · unfold pgStep; split
    · rfl
    · exact setF_len _ _ _
  · unfold pgStep; split <;> rfl
  · unfold pgStep; split <;> rfl
theorem step_cnt (M : Cow) (n m j : Nat) : (fAt (pgStep M n m).fr j).1 = (fAt M.fr j).1 ∨ (fAt (pgStep M n m).fr j).1 = (fAt M.fr j).1 + 1 := by
  unfold pgStep
  split
  · exact .inl rfl
  · generalize (pAt (sAt M.sp n).2 m).1.toNat = f
    have q : ∀ y, (fAt (M.fr.set f ((fAt M.fr f).1 + 1, y)) j).1 = (fAt M.fr j).1 ∨ (fAt (M.fr.set f ((fAt M.fr f).1 + 1, y)) j).1 = (fAt M.fr j).1 + 1 := by
      intro y
      by_cases hl : f < M.fr.length
      · rw [fAt_set hl]
        split
        · rename_i e; subst e; exact .inr rfl
        · exact .inl rfl
      · rw [List.set_eq_of_length_le (by omega)]; exact .inl rfl
    exact q _
theorem fk_facts {M : Cow} {n : Nat} (hn : n < M.sp.length) : ∀ k, (fkS M n k).sp.length = M.sp.length ∧ (fkS M n k).fr.length = M.fr.length ∧ (sAt (fkS M n k).sp n).2.length = (sAt M.sp n).2.length ∧ (∀ j, k ≤ j → j < (sAt M.sp n).2.length → pAt (sAt (fkS M n k).sp n).2 j = pAt (sAt M.sp n).2 j) ∧ ∀ j, (fAt M.fr j).1 ≤ (fAt (fkS M n k).fr j).1 ∧ (fAt (fkS M n k).fr j).1 ≤ (fAt M.fr j).1 + k
  | 0 => ⟨rfl, rfl, rfl, fun _ _ _ => rfl, fun j => ⟨Int.le_refl _, by simp [fkS]⟩⟩
  | k + 1 => by
    obtain ⟨a, b, c, d, e⟩ := fk_facts hn k
    have hd := step_len (fkS M n k) n k
    have ha : sAt (fkS M n (k + 1)).sp n = ((sAt (fkS M n k).sp n).1, (sAt (fkS M n k).sp n).2.set k ((pAt (sAt (fkS M n k).sp n).2 k).1, false)) := by
      show sAt (pgStep (fkS M n k) n k).sp n = _
      rw [step_sp, sAt_set (by rw [a]; exact hn), if_pos rfl]
    refine ⟨hd.1.trans a, hd.2.1.trans b, ?_, ?_, ?_⟩
    · rw [ha]; simpa using c
    · intro j hj hjl
      rw [ha]
      by_cases hkl : k < (sAt (fkS M n k).sp n).2.length
      · simp only [pAt_set hkl]
        rw [if_neg (by omega)]
        exact d j (by omega) hjl
      · simp only
        rw [List.set_eq_of_length_le (by omega)]
        exact d j (by omega) hjl
    · intro j
      have := step_cnt (fkS M n k) n k j
      have q : (fAt (fkS M n (k + 1)).fr j).1 = (fAt (pgStep (fkS M n k) n k).fr j).1 := rfl
      have := e j
      rw [q]
      push_cast
      omega
theorem cwA_fk (M : Cow) (n : Nat) (As : Option Addr) (cs : Nat) (Af : Option Addr) (cf k : Nat) (hn : n < M.sp.length) : cwA (fkS M n k) As cs Af cf = cwA M As cs Af cf := by
  have a := fk_facts hn k
  have b : (fkS M n k).sz = M.sz ∧ (fkS M n k).cp = M.cp := by
    clear a
    induction k with
    | zero => exact ⟨rfl, rfl⟩
    | succ k ih => exact ⟨(step_len _ _ _).2.2.1.trans ih.1, (step_len _ _ _).2.2.2.trans ih.2⟩
  unfold cwA
  rw [a.1, a.2.1, b.1, b.2]
theorem fk_szcp (M : Cow) (n : Nat) : ∀ k, (fkS M n k).sz = M.sz ∧ (fkS M n k).cp = M.cp
  | 0 => ⟨rfl, rfl⟩
  | k + 1 => ⟨(step_len _ _ _).2.2.1.trans (fk_szcp M n k).1, (step_len _ _ _).2.2.2.trans (fk_szcp M n k).2⟩
def Cow.add (M : Cow) (L : List Pg) : Cow := { M with sp := M.sp ++ [(true, L)] }
theorem cwA_add {M : Cow} {n : Nat} (hn : n < M.sp.length) (k : Nat) (L : List Pg) (As : Option Addr) (cs : Nat) (Af : Option Addr) (cf : Nat) : cwA ((fkS M n k).add L) As cs Af cf = #[.int .i64 M.sz, .slice As (M.sp.length + 1) cs, .slice Af M.fr.length cf, .int .i64 M.cp] := by
  have a := fk_facts hn k
  have b := fk_szcp M n k
  unfold cwA Cow.add
  simp only [List.length_append, List.length_cons, List.length_nil, a.1, a.2.1, b.1, b.2]
theorem tAt_app {T : Tb} {x : Bool × Value} {k : Nat} (h : k < T.length) : tAt (T ++ [x]) k = tAt T k := by
  unfold tAt; rw [List.getD_eq_getElem?_getD, List.getD_eq_getElem?_getD, List.getElem?_append_left h]
theorem tAt_app2 (T : Tb) (x : Bool × Value) : tAt (T ++ [x]) T.length = x := by
  unfold tAt; simp [List.getD_eq_getElem?_getD]
theorem sAt_app {T : List Sp} {x : Sp} {k : Nat} (h : k < T.length) : sAt (T ++ [x]) k = sAt T k := by
  unfold sAt; rw [List.getD_eq_getElem?_getD, List.getD_eq_getElem?_getD, List.getElem?_append_left h]
theorem sAt_app2 (T : List Sp) (x : Sp) : sAt (T ++ [x]) T.length = x := by
  unfold sAt; simp [List.getD_eq_getElem?_getD]
theorem OwM.push {B : Nat} {w w' : World} {M : Cow} {As Af A4 : Option Addr} {cs cf c4 : Nat} {T : Tb} {L : List Pg} {v1 : Value} (h : OwM B w M As cs Af cf T) (hr : w.ownsRow B 64 2 v1 L.length (pcs L)) (hf : ∀ g, v1.ownBlock = some g → ∀ j, j < M.sp.length → (tAt T j).2.ownBlock ≠ some g)
    (ho : w'.ownsRow B 62 2 (.slice A4 (M.sp.length + 1) c4) (M.sp.length + 1) (tcs T ++ [.bool true, v1])) (hk : Kp B 62 w w') : OwM B w' (M.add L) A4 c4 Af cf (T ++ [(true, v1)]) := by
  have e : (M.sp ++ [(true, L)]).length = M.sp.length + 1 := by simp
  unfold Cow.add
  refine ⟨by simp [h.tl], row_kp h.fr hk (by decide), ?_, ?_, ?_, ?_⟩
  · simp only [e]
    rw [show tcs (T ++ [(true, v1)]) = tcs T ++ [.bool true, v1] from c2_append _ _]
    exact ho
  · intro k hk'
    simp only [e] at hk'
    by_cases q : k < M.sp.length
    · rw [tAt_app (by rw [h.tl]; exact q)]
      simp only [sAt_app q]
      exact h.lv k q
    · obtain rfl : k = M.sp.length := by omega
      simp only [sAt_app2]
      rw [← h.tl, tAt_app2]
  · intro k hk'
    simp only [e] at hk'
    by_cases q : k < M.sp.length
    · rw [tAt_app (by rw [h.tl]; exact q)]
      simp only [sAt_app q]
      exact row_kp (h.pg k q) hk (by decide)
    · obtain rfl : k = M.sp.length := by omega
      simp only [sAt_app2]
      rw [← h.tl, tAt_app2]
      exact row_kp hr hk (by decide)
  · intro i j hi hj hij g
    simp only [e] at hi hj
    by_cases q : i < M.sp.length
    · rw [tAt_app (by rw [h.tl]; exact q)]
      by_cases q2 : j < M.sp.length
      · rw [tAt_app (by rw [h.tl]; exact q2)]
        exact h.ne i j q q2 hij g
      · obtain rfl : j = M.sp.length := by omega
        rw [show tAt (T ++ [(true, v1)]) M.sp.length = (true, v1) from by rw [← h.tl, tAt_app2]]
        intro a b
        exact hf g b i q a
    · obtain rfl : i = M.sp.length := by omega
      rw [show tAt (T ++ [(true, v1)]) M.sp.length = (true, v1) from by rw [← h.tl, tAt_app2]]
      intro a
      rw [tAt_app (by rw [h.tl]; omega)]
      exact hf g a j (by omega)
def fkG (M : Cow) (s : Int) : Cow × Int × Int :=
  if csE M s ≠ 0 then (zeroM, 0, csE M s) else if M.sp.length = 8 then (zeroM, 0, 9)
  else ((fkS M s.toNat M.sz.toNat).add (sAt (fkS M s.toNat M.sz.toNat).sp s.toNat).2, M.sp.length, 0)
def Res3 (w : World) (M' : Cow) (nr er : Int) (e : Ending) (w' : World) : Prop := ∃ As cs Af cf, e = .returned (.tuple #[.agg (cwA M' As cs Af cf), .int .i64 nr, .int .i64 er]) ∧ CwIn w' M' As cs Af cf ∧ Below w.heap.size w w'
set_option maxRecDepth 100000 in
set_option maxHeartbeats 32000000 in
theorem fork_any (M : Cow) (As Af : Option Addr) (cs cf : Nat) (s : Int) (w : World) (h : CwIn w M As cs Af cf) (hB : Big M) : Calls Try.prog 28 #[.agg (cwA M As cs Af cf), .int .i64 s] w (Res3 w (fkG M s).1 (fkG M s).2.1 (fkG M s).2.2) := by
  have PA := hide (space_at (M := M) (s := s))
  have E0 := hide (fun hn : csE M s ≠ 0 => show fkG M s = (zeroM, 0, csE M s) from if_pos hn)
  have E1 := hide (fun (hn : csE M s = 0) (hl : M.sp.length = 8) => show fkG M s = (zeroM, 0, 9) from (if_neg (fun g => g hn)).trans (if_pos hl))
  have E2 := hide (fun (hn : csE M s = 0) (hl : ¬ M.sp.length = 8) => show fkG M s = ((fkS M s.toNat M.sz.toNat).add (sAt (fkS M s.toNat M.sz.toNat).sp s.toNat).2, (M.sp.length : Int), 0) from (if_neg (fun g => g hn)).trans (if_neg hl))
  unfold Res3
  obtain ⟨W0, hW0⟩ : ∃ W0, W0 = (w.alloc (.cells (cwA M As cs Af cf) 28)).alloc (.cells #[.int .i64 0, .slice none 0 0, .slice none 0 0, .int .i64 0] 28) := ⟨_, rfl⟩
  have K := hide (show Below w.heap.size w W0 by rw [hW0]; exact bal (bal (brefl w) _) _)
  have X := hide (show Box W0 w.heap.size 28 (cwA M As cs Af cf) by rw [hW0]; exact (Box.new w 28 _).more _)
  have Y := hide (show Box W0 (w.heap.size + 1) 28 #[.int .i64 0, .slice none 0 0, .slice none 0 0, .int .i64 0] by rw [hW0]; exact Box.new2 _ _ _ _)
  have IN := hide h
  have CK := hide (fun w' => fun hb : Below w.heap.size w w' => cspace_any M As Af cs cf s w' (h.below hb) hB)
  have CL := hide (fun w' => fun hb : Below w.heap.size w w' => clone_any M As Af cs cf w' (h.below hb))
  clear h hB
  unfold cwA at X hW0 CK CL ⊢
  generalize csE M s = ec at *
  go_enter Try.func28, Try.ntmps28
  go_upto_region 1 with fail
  rw [← hW0]
  clear hW0
  obtain ⟨g2, hg2⟩ : ∃ g, g = w.heap.size + 1 := ⟨_, rfl⟩
  obtain ⟨g, hg⟩ : ∃ g, g = w.heap.size := ⟨_, rfl⟩
  have GN := hide (show g ≠ g2 by omega)
  have GG := hide (show w.heap.size ≤ g ∧ w.heap.size ≤ g2 by omega)
  rw [← hg2, ← hg]
  rw [← hg2] at Y
  rw [← hg] at X
  clear hg2 hg
  obtain ⟨x0, x1, x2, x3⟩ := box4 X.out
  go_wp2_with fail
  refine (CK.out _ K.out).mono ?_
  rintro e w1 ⟨rfl, hb⟩
  replace X := hide (X.out.below hb)
  replace Y := hide (Y.out.below hb)
  replace K := hide (btrans K.out hb)
  clear hb x0 x1 x2 x3 CK
  obtain ⟨x0, x1, x2, x3⟩ := box4 X.out
  by_cases h1 : ec = 0
  case neg =>
    have E := hide (E0.out h1)
    obtain ⟨y0, y1, y2, y3⟩ := box4 Y.out
    have z0 := Y.out.frozen 0
    have z1 := Y.out.frozen 1
    have z2 := Y.out.frozen 2
    have z3 := Y.out.frozen 3
    go_wp2
    have KK := kp4 Y.out GG.out.2 (.int .i64 0) (.slice none 0 0) (.slice none 0 0) (.int .i64 0)
    refine ret_c3 Try.results28 rfl rfl rfl rfl (box4s Y.out) ⟨none, 0, none, 0, ?_, ?_, K.out.trans KK.below⟩
    · rw [E.out]; rfl
    · rw [E.out]; exact zero_in _
  case pos =>
    obtain ⟨n, rfl, hn, hl, hz, hsz, hfm, hst, -⟩ := PA.out h1
    subst h1
    by_cases h8 : M.sp.length = 8
    case pos =>
      have E := hide (E1.out rfl h8)
      have h8c : (((M.sp.length : Nat) : Int) == 8) = true := by rw [h8]; rfl
      clear E0 E1 E2 PA hst hfm hsz hl hz
      have H8 := hide h8
      clear h8
      obtain ⟨y0, y1, y2, y3⟩ := box4 Y.out
      have z0 := Y.out.frozen 0
      have z1 := Y.out.frozen 1
      have z2 := Y.out.frozen 2
      have z3 := Y.out.frozen 3
      go_wp2
      refine ret_c3 Try.results28 rfl rfl rfl rfl (box4s Y.out) ⟨none, 0, none, 0, ?_, ?_, K.out.trans (kp4 Y.out GG.out.2 _ _ _ _).below⟩
      · rw [E.out]; rfl
      · rw [E.out]; exact zero_in _
    have E := hide (E2.out rfl h8)
    rw [Int.toNat_natCast] at E
    have h8c : (((M.sp.length : Nat) : Int) == 8) = false := by simp; omega
    have HSZ := hide hsz
    have HPL := hide (plen hsz hfm)
    have HCB := hide (cbound hsz hfm hst)
    have PGS := hide (show ∀ m, m < (sAt M.sp n).2.length → pgG M.fr.length (pAt (sAt M.sp n).2 m) from fun m hm => (hfm _ (sAt_mem hn)).2 _ (pAt_mem hm))
    have XF := hide (fk_facts hn)
    have XC := hide (fun As cs Af cf k => cwA_fk M n As cs Af cf k hn)
    clear E0 E1 E2 PA hst hfm
    obtain ⟨ln, hln⟩ : ∃ ln, ln = (sAt M.sp n).2.length := ⟨_, rfl⟩
    have HLN := hide hln
    rw [← hln] at hz
    have zz : M.sz.toNat = ln := by omega
    rw [zz] at E
    have l2 : ln ≤ 512 := by rw [hln]; exact HPL.out n hn
    have l1 : M.sp.length ≤ 8 := hsz.2.1.2
    have l3 : M.fr.length ≤ 256 := hsz.2.2.1.2
    have hln1 : 1 ≤ ln := by have := hsz.1.1; omega
    have H8 := hide h8
    clear hl hz hsz hln zz h8
    go_wp2_with fail
    refine (CL.out _ K.out HSZ.out HPL.out).mono ?_
    rintro e w2 ⟨As2, cs2, Af2, cf2, T, rfl, hO, hb⟩
    replace X := hide (X.out.below hb)
    replace Y := hide (Y.out.below hb)
    have GX := hide (show g < w2.heap.size from X.out.lt)
    have GS := hide (show g2 < w2.heap.size from Y.out.lt)
    have GB := hide (show w.heap.size ≤ w1.heap.size from K.out.size)
    replace K := hide (btrans K.out hb)
    have O := hide hO
    clear hO hb x0 x1 x2 x3 CL
    have M3 := bal (brefl w2) (.cells #[.int .i64 M.sz, .slice As2 M.sp.length cs2, .slice Af2 M.fr.length cf2, .int .i64 M.cp] 28)
    have V := hide (Box.new w2 28 #[.int .i64 M.sz, .slice As2 M.sp.length cs2, .slice Af2 M.fr.length cf2, .int .i64 M.cp])
    replace X := hide (X.out.below M3)
    replace Y := hide (Y.out.below M3)
    replace O := hide (O.out.below M3)
    replace K := hide (btrans K.out M3)
    clear M3
    go_upto_region 7 with fail
    obtain ⟨g3, hg3⟩ : ∃ g, g = w2.heap.size := ⟨_, rfl⟩
    have G3 := hide (show g2 ≠ g3 by have := GS.out; omega)
    have G5 := hide (show g ≠ g3 by have := GX.out; omega)
    have G4 := hide (show w.heap.size ≤ g3 by have := GS.out; have := GG.out.2; omega)
    rw [← hg3] at V ⊢
    clear hg3
    generalize w2.alloc (.cells #[.int .i64 M.sz, .slice As2 M.sp.length cs2, .slice Af2 M.fr.length cf2, .int .i64 M.cp] 28) = w3 at *
    replace O := hide (O.out.mono1 GB.out)
    obtain ⟨gs, eA, _, _, _, s1, _⟩ := O.out.space hn
    obtain ⟨gp, cp2, ev, _, _, _, _, _⟩ := O.out.page (m := 0) hn (by rw [← HLN.out]; omega)
    obtain ⟨gf, eF, _⟩ := O.out.frame (k := 0) (by have := HSZ.out.2.2.1.1; omega)
    subst eA eF
    rw [ev, ← HLN.out] at s1
    have EV := hide ev
    rw [← HLN.out] at EV
    clear ev
    have n0 : (0 : Int) ≤ (n : Int) := by omega
    have n1 : (n : Int) < (M.sp.length : Int) := by omega
    obtain ⟨v0, v1, v2, v3⟩ := box4 V.out
    go_upto_region 8 with fail
    go_wp2
    clear s1 v0 v1 v2 v3
    go_loopw [34] (fun i wr => ∃ k : Nat, k ≤ ln ∧ i = .int .i64 k ∧ Hid (OwM w.heap.size wr (fkS M n k) (some ⟨gs, 0, none⟩) cs2 (some ⟨gf, 0, none⟩) cf2 T) ∧ Hid (Box wr g3 28 #[.int .i64 M.sz, .slice (some ⟨gs, 0, none⟩) M.sp.length cs2, .slice (some ⟨gf, 0, none⟩) M.fr.length cf2, .int .i64 M.cp]) ∧ Hid (Box wr g2 28 #[.int .i64 0, .slice none 0 0, .slice none 0 0, .int .i64 0]) ∧ Hid (Box wr g 28 #[.int .i64 M.sz, .slice As M.sp.length cs, .slice Af M.fr.length cf, .int .i64 M.cp]) ∧ Hid (Below w.heap.size w wr)) (fun i _ => ln - (intOf i).toNat)
    case atStart => exact ⟨0, Nat.zero_le _, rfl, O, V, Y, X, K⟩
    case round =>
      clear O V Y X K
      obtain ⟨k, hk, rfl, O, V, Y, X, K⟩ := hrel
      have hnx : n < (fkS M n k).sp.length := by rw [(XF.out k).1]; exact hn
      have hlk : (sAt (fkS M n k).sp n).2.length = ln := by rw [(XF.out k).2.2.1, ← HLN.out]
      have HLK := hide hlk
      have HLS := hide (XF.out k).1
      have HLF := hide (XF.out k).2.1
      by_cases hlt : k < ln
      · have hl2 : (k : Int) < (ln : Int) := by omega
        have hk0 : (0 : Int) ≤ (k : Int) := by omega
        have EVL := hide (show (tAt T n).2 = .slice (some ⟨gp, 0, none⟩) (sAt (fkS M n k).sp n).2.length cp2 by rw [hlk]; exact EV.out)
        have hkm : k < (sAt (fkS M n k).sp n).2.length := by rw [hlk]; exact hlt
        have HKM := hide hkm
        obtain ⟨gp2, cp3, ev2, _, _, p0, p1, zp⟩ := O.out.page hnx hkm
        have eg : gp = gp2 := by
          have := EVL.out.symm.trans ev2
          injection this with this; injection this with this; injection this with this
        subst eg
        have zp1 := zp (k * 2 + 1)
        have HNX := hide hnx
        clear zp ev2 hkm hlk hnx
        have PGK := hide (show pgG M.fr.length (pAt (sAt (fkS M n k).sp n).2 k) by rw [(XF.out k).2.2.2.1 k (Nat.le_refl _) (by rw [← HLN.out]; exact hlt)]; exact PGS.out k (by rw [← HLN.out]; exact hlt))
        have NX1 := hide (show fkS M n (k + 1) = pgStep (fkS M n k) n k from rfl)
        unfold pgStep at NX1
        have ON := hide (O.out.setP1 (n := n) (m := k) HNX.out HKM.out EVL.out false)
        have SN := hide (O.out.sideP (n := n) HNX.out EVL.out (k * 2 + 1) (.bool false))
        have VN := hide (SN.out.box _ _ V.out)
        have YN := hide (SN.out.box _ _ Y.out)
        have KN := hide (K.out.trans SN.out.below)
        have XN := hide (SN.out.box _ _ X.out)
        go_upto_region 12 with fail
        clear O V Y K SN
        have O := ON
        have V := VN
        have Y := YN
        have K := KN
        clear ON VN YN KN
        clear X
        have X := XN
        clear XN
        clear p0 p1 zp1
        generalize World.setCell _ ⟨gp, k * 2 + 1, none⟩ (.bool false) = w5 at *
        have e5 := setP_at HNX.out k ((pAt (sAt (fkS M n k).sp n).2 k).1, false)
        obtain ⟨gp2, cp3, ev2, _, _, p0, _, _⟩ := O.out.page (n := n) (m := k) (by rw [setP_len]; exact HNX.out) (by rw [e5]; simp only [List.length_set]; exact HKM.out)
        have eg : gp = gp2 := by
          rw [e5] at ev2
          have := EVL.out.symm.trans ev2
          injection this with this; injection this with this; injection this with this
        subst eg
        rw [e5] at p0
        simp only [pAt_set HKM.out, if_pos] at p0
        clear ev2 e5
        have FB := hide (XF.out k).2.2.2.2
        have PGF := PGK.out
        unfold pgG at PGF
        have hpf : (pAt (sAt (fkS M n k).sp n).2 k).1 < 0 ∨ (0 ≤ (pAt (sAt (fkS M n k).sp n).2 k).1 ∧ (pAt (sAt (fkS M n k).sp n).2 k).1 < M.fr.length) := by
          rcases PGF with e | e
          · left; rw [e]; decide
          · right; exact e
        clear PGF PGK
        obtain ⟨f, hf⟩ : ∃ f, f = (pAt (sAt (fkS M n k).sp n).2 k).1 := ⟨_, rfl⟩
        rw [← hf] at O p0 hpf NX1
        clear hf
        by_cases h0 : f < 0
        · have h0b : ¬ (0 : Int) ≤ f := by omega
          rw [if_pos h0] at NX1
          replace O := hide (show OwM w.heap.size w5 (fkS M n (k + 1)) (some ⟨gs, 0, none⟩) cs2 (some ⟨gf, 0, none⟩) cf2 T by rw [NX1.out]; exact O.out)
          clear hpf NX1 h0
          go_wp2
          go_roundw
          case rel => first | exact ⟨k + 1, by omega, by go_num, O, V, Y, X, K⟩ | ((repeat apply Exists.intro); exact ⟨⟨k + 1, by omega, by go_num, O, V, Y, X, K⟩, rfl⟩)
          case measure => simp [intOf]; omega
        · rw [if_neg h0] at NX1
          obtain ⟨q, rfl⟩ := Int.eq_ofNat_of_zero_le (show 0 ≤ f by omega)
          have hq : q < M.fr.length := by omega
          have q0 : (0 : Int) ≤ (q : Int) := by omega
          have q1 : (q : Int) < (M.fr.length : Int) := by omega
          rw [Int.toNat_natCast] at NX1
          obtain ⟨gf2, egf, _, _, f0, _, zf⟩ := O.out.frame (k := q) (show q < (fkS M n k).fr.length by rw [HLF.out]; exact hq)
          injection egf with egf; injection egf with egf
          subst egf
          have zf0 := zf (q * 2)
          have b1 := FB.out q
          have b2 := HCB.out q hq
          replace f0 : w5.cell? ⟨gf, q * 2, none⟩ = some (.int .i64 (fAt (fkS M n k).fr q).1) := f0
          obtain ⟨c, hc⟩ : ∃ c, c = (fAt (fkS M n k).fr q).1 := ⟨_, rfl⟩
          rw [← hc] at f0 b1 NX1
          clear hc
          have wc : IntKind.i64.wrap (c + 1) = c + 1 := by rw [IntKind.wrap_i64]; omega
          clear b1 b2 FB zf hpf h0
          obtain ⟨v0, v1, v2, v3⟩ := box4 V.out
          have ON := hide (show OwM w.heap.size (w5.setCell ⟨gf, q * 2, none⟩ (.int .i64 (c + 1))) (fkS M n (k + 1)) (some ⟨gs, 0, none⟩) cs2 (some ⟨gf, 0, none⟩) cf2 T by rw [NX1.out]; exact O.out.setF0 (show q < (fkS M n k).fr.length by rw [HLF.out]; exact hq) (c + 1))
          have SN := hide (O.out.sideF (q * 2) (.int .i64 (c + 1)))
          have VN := hide (SN.out.box _ _ V.out)
          have YN := hide (SN.out.box _ _ Y.out)
          have XN := hide (SN.out.box _ _ X.out)
          have KN := hide (K.out.trans SN.out.below)
          clear O V Y X K SN NX1
          go_wp2
          go_roundw
          case rel => first | exact ⟨k + 1, by omega, by go_num, ON, VN, YN, XN, KN⟩ | ((repeat apply Exists.intro); exact ⟨⟨k + 1, by omega, by go_num, ON, VN, YN, XN, KN⟩, rfl⟩)
          case measure => simp [intOf]; omega
      · obtain rfl : ln = k := by omega
        obtain ⟨L, hL⟩ : ∃ L, L = (sAt (fkS M n ln).sp n).2 := ⟨_, rfl⟩
        have HL := hide hL
        have LL := hide (show L.length = ln by rw [hL]; exact hlk)
        have LL2 : L.length ≤ 1000 := by rw [hL, hlk]; omega
        have EVL := hide EV.out
        go_upto_region 16 with fail
        refine wp_region_noPanic ?_
        refine wp_region_held_drew (S := (fun _ => True)) (by kernel_rfl) ?_ (fun hHeld => ?_)
        · trivial
        replace O := hide (O.out.below (below_drewN (brefl wr) 1))
        replace V := hide (V.out.below (below_drewN (brefl wr) 1))
        replace Y := hide (Y.out.below (below_drewN (brefl wr) 1))
        replace X := hide (X.out.below (below_drewN (brefl wr) 1))
        replace K := hide (btrans K.out (below_drewN (brefl wr) 1))
        change Hid (OwM _ wr.drew _ _ _ _ _ _) at O
        change Hid (Box wr.drew _ _ _) at V
        change Hid (Box wr.drew _ _ _) at Y
        change Hid (Box wr.drew _ _ _) at X
        change Hid (Below _ _ wr.drew) at K
        generalize wr.drew = w4 at *
        obtain ⟨v0, v1, v2, v3⟩ := box4 V.out
        obtain ⟨i0, hi0, hz0, hz1, hz2⟩ := info_parts info62
        have ISP := hide (show IsP w4 (.slice (some ⟨gp, 0, none⟩) ln cp2) L from by
          have q := isP_row (O.out.pg n hnx)
          rw [EVL.out] at q
          rw [HL.out]; exact q)
        have SZR := hide K.out.size
        refine wpAnyH_take (i := 0) (oi := ⟨some 58, _, _, _, _, _⟩) (v := ?_) rfl (by kernel_rfl) (by kernel_rfl) (by kernel_rfl) (fun _ _ _ h => h) (Or.inl ⟨by kernel_rfl, ?_⟩) (by assumption) ?_
        rotate_left 1
        · (intro w hSw; (try dsimp only at hSw); go_simp) <;> (with_reducible rfl)
        (try simp only [Act.put, List.setIfInBounds_toArray, List.set_cons_succ, List.set_cons_zero])
        refine wpAnyH_take (i := 2) (oi := ⟨some 60, _, _, _, _, _⟩) (v := ?_) rfl (by kernel_rfl) (by kernel_rfl) (by kernel_rfl) (fun _ _ _ h => h) (Or.inl ⟨by kernel_rfl, ?_⟩) (by assumption) ?_
        rotate_left 1
        · (intro w hSw; (try dsimp only at hSw); go_simp) <;> (with_reducible rfl)
        (try simp only [Act.put, List.setIfInBounds_toArray, List.set_cons_succ, List.set_cons_zero])
        refine wpAnyH_ready (rs := [1, 3]) (by kernel_rfl) (by simp) ?_
        refine AllReadyH.cons (o := ⟨some 59, _, _, _, _, _⟩) rfl (fun K' hK => ?_) ?_
        · go_simp
          refine hK.out _ _ ?_ (fun hHeld => ?_)
          · trivial
          clear hK K'
          (try simp only [Act.put, List.setIfInBounds_toArray, List.set_cons_succ, List.set_cons_zero])
          refine wpAnyH_ready (rs := [3]) (by kernel_rfl) (by simp) ?_
          refine AllReadyH.cons (o := ⟨some 61, _, _, _, _, _⟩) rfl (fun K' hK => ?_) AllReadyH.nil
          go_simp
          refine (clonep_any _ L _ ISP.out LL2).mono ?_
          rintro e w5 ⟨A5, c5, rfl, hrow, hb⟩
          rw [LL.out] at hrow
          have RW := hide hrow
          have KN5 := hide hb
          have O5 := hide (O.out.below hb)
          have V5 := hide (V.out.below hb)
          have Y5 := hide (Y.out.below hb)
          have X5 := hide (X.out.below hb)
          have K5 := hide (btrans K.out hb)
          have SZ5 := hide hb.size
          clear hrow hb v0 v1 v2 v3
          obtain ⟨v0, v1, v2, v3⟩ := box4 V5.out
          refine hK.out _ _ ?_ (fun hHeld => ?_)
          · trivial
          clear hK K'
          (try simp only [Act.put, List.setIfInBounds_toArray, List.set_cons_succ, List.set_cons_zero])
          refine wpAnyH_take (i := 4) (oi := ⟨some 62, _, _, _, _, _⟩) (v := ?_) rfl (by kernel_rfl) (by kernel_rfl) (by kernel_rfl) (fun _ _ _ h => h) (Or.inl ⟨by kernel_rfl, ?_⟩) (by assumption) ?_
          rotate_left 1
          · (intro w hSw; (try dsimp only at hSw); go_simp) <;> (with_reducible rfl)
          (try simp only [Act.put, List.setIfInBounds_toArray, List.set_cons_succ, List.set_cons_zero])
          refine wpAnyH_ready (rs := [5]) (by kernel_rfl) (by simp) ?_
          refine AllReadyH.cons (o := ⟨some 63, _, _, _, _, _⟩) rfl (fun K' hK => ?_) AllReadyH.nil
          go_simp
          have NW := hide (cell_row w5 #[.bool true, .slice A5 ln c5] 62)
          have M6 := bal (brefl w5) (.cells #[.bool true, .slice A5 ln c5] 62)
          have O6 := hide (O5.out.below M6)
          have V6 := hide (V5.out.below M6)
          have Y6 := hide (Y5.out.below M6)
          have X6 := hide (X5.out.below M6)
          have K6 := hide (btrans K5.out M6)
          have RW6 := hide (row_below RW.out M6)
          clear M6
          clear v0 v1 v2 v3
          obtain ⟨v0, v1, v2, v3⟩ := box4 V6.out
          generalize hw6 : w5.alloc (.cells #[.bool true, .slice A5 ln c5] 62) = w6 at *
          clear hw6
          refine hK.out _ _ ?_ (fun hHeld => ?_)
          · trivial
          clear hK K'
          (try simp only [Act.put, List.setIfInBounds_toArray, List.set_cons_succ, List.set_cons_zero])
          refine wpAnyH_ready (rs := [6]) (by kernel_rfl) (by simp) ?_
          refine AllReadyH.cons (o := ⟨some 64, _, _, _, _, _⟩) rfl (fun K' hK => ?_) AllReadyH.nil
          refine step_append_own rfl (.tmp 59) (.tmp 63) 25 rfl w.heap.size 62 i0 _ 2 32 Try.underlying25 hi0 hz0 hz1 hz2 rfl (by omega) (.slice (some ⟨gs, 0, none⟩) M.sp.length cs2) M.sp.length _ rfl (by have q := O6.out.sp; rw [HLS.out] at q; exact q) ⟨w5.heap.size, 0, none⟩ 1 1 [.bool true, .slice A5 ln c5] rfl rfl NW.out (by intro u hu; simp at hu; rcases hu with rfl | rfl <;> rfl) (by simp only [maxLen]; omega) (by omega) K6.out.size ?_
          intro v4 w7 hown4 hg4
          obtain ⟨A4, c4, rfl, _⟩ := row_form hown4
          have hr6 : w6.ownsRow w.heap.size 62 2 (.slice (some ⟨gs, 0, none⟩) M.sp.length cs2) M.sp.length (tcs T) := by have q := O6.out.sp; rw [HLS.out] at q; exact q
          have KG := hide (Kp.grown (B := w.heap.size) hr6 hg4 (Nat.le_refl _) K6.out.size)
          have O7 := hide (O6.out.push (L := L) (by rw [LL.out]; exact row_mono RW6.out SZR.out) (fun g' hg' j hj hj2 => by have a := (row_lt RW.out hg').1; have b := (row_lt (O.out.pg j hj) hj2).2; omega) (by rw [HLS.out]; exact hown4) KG.out)
          have V7 := hide (V6.out.kp KG.out (by decide))
          have Y7 := hide (Y6.out.kp KG.out (by decide))
          have X7 := hide (X6.out.kp KG.out (by decide))
          have K7 := hide (K6.out.trans KG.out.below)
          clear hown4 hg4 hr6 v0 v1 v2 v3
          obtain ⟨v0, v1, v2, v3⟩ := box4 V7.out
          have z1 := V7.out.frozen 1
          refine hK.out _ _ ?_ (fun hHeld => ?_)
          · trivial
          clear hK K'
          (try simp only [Act.put, List.setIfInBounds_toArray, List.set_cons_succ, List.set_cons_zero])
          refine wpAnyH_take (i := 7) (oi := ⟨some 65, _, _, _, _, _⟩) (v := ?_) rfl (by kernel_rfl) (by kernel_rfl) (by kernel_rfl) (fun _ _ _ h => h) (Or.inl ⟨by kernel_rfl, ?_⟩) (by assumption) ?_
          rotate_left 1
          · (intro w hSw; (try dsimp only at hSw); go_simp) <;> (with_reducible rfl)
          (try simp only [Act.put, List.setIfInBounds_toArray, List.set_cons_succ, List.set_cons_zero])
          refine wpAnyH_ready (rs := [8]) (by kernel_rfl) (by simp) ?_
          refine AllReadyH.cons (o := ⟨none, _, _, _, _, _⟩) rfl (fun K' hK => ?_) AllReadyH.nil
          go_simp
          refine hK.out _ _ ?_ (fun hHeld => ?_)
          · trivial
          clear hK K'
          (try simp only [Act.put, List.setIfInBounds_toArray, List.set_cons_succ, List.set_cons_zero])
          refine wpAnyH_done (by kernel_rfl) ?_ _
          refine NoPanic.normal ?_
          have KB := Kp.boxset (B := w.heap.size) V7.out G4.out 1 (.slice A4 (M.sp.length + 1) c4)
          replace O7 := hide (O7.out.kp KB)
          have Y := hide (Y7.out.far G3.out (b := g3) (i := 1) (.slice A4 (M.sp.length + 1) c4))
          have X := hide (X7.out.far G5.out (b := g3) (i := 1) (.slice A4 (M.sp.length + 1) c4))
          have V := hide (V7.out.put 1 (.slice A4 (M.sp.length + 1) c4))
          have K := hide (K7.out.trans KB.below)
          clear KB Y7 X7 V7 K7 v0 v1 v2 v3 z1
          simp only [List.setIfInBounds_toArray, List.set_cons_succ, List.set_cons_zero] at V
          generalize w7.setCell ⟨g3, 1, none⟩ (.slice A4 (M.sp.length + 1) c4) = w8 at *
          obtain ⟨v0, v1, v2, v3⟩ := box4 V.out
          obtain ⟨x0, x1, x2, x3⟩ := box4 X.out
          go_upto_region 17 with fail
          refine wp_region_noPanic ?_
          refine wp_region_held_drew (S := (fun W => W.cell? ⟨g3, 0, none⟩ = some (.int .i64 M.sz) ∧ W.cell? ⟨g3, 1, none⟩ = some (.slice A4 (M.sp.length + 1) c4) ∧ W.cell? ⟨g3, 2, none⟩ = some (.slice (some ⟨gf, 0, none⟩) M.fr.length cf2) ∧ W.cell? ⟨g3, 3, none⟩ = some (.int .i64 M.cp) ∧ W.cell? ⟨g, 1, none⟩ = some (.slice As M.sp.length cs))) (by kernel_rfl) ?_ (fun hHeld => ?_)
          · first | exact ⟨v0, v1, v2, v3, x1⟩ | exact KS.out
          replace O7 := hide (O7.out.below (below_drewN (brefl w8) 1))
          replace V := hide (V.out.below (below_drewN (brefl w8) 1))
          replace Y := hide (Y.out.below (below_drewN (brefl w8) 1))
          replace X := hide (X.out.below (below_drewN (brefl w8) 1))
          replace K := hide (btrans K.out (below_drewN (brefl w8) 1))
          change Hid (OwM _ w8.drew _ _ _ _ _ _) at O7
          change Hid (Box w8.drew _ _ _) at V
          change Hid (Box w8.drew _ _ _) at Y
          change Hid (Box w8.drew _ _ _) at X
          change Hid (Below _ _ w8.drew) at K
          generalize w8.drew = w9 at *
          clear v0 v1 v2 v3 x0 x1 x2 x3
          obtain ⟨v0, v1, v2, v3⟩ := box4 V.out
          obtain ⟨x0, x1, x2, x3⟩ := box4 X.out
          obtain ⟨y0, y1, y2, y3⟩ := box4 Y.out
          have z0 := Y.out.frozen 0
          have z1 := Y.out.frozen 1
          have z2 := Y.out.frozen 2
          have z3 := Y.out.frozen 3
          have KK := hide (kp4 Y.out GG.out.2 (.int .i64 M.sz) (.slice A4 (M.sp.length + 1) c4) (.slice (some ⟨gf, 0, none⟩) M.fr.length cf2) (.int .i64 M.cp))
          have VS := hide (far4 V.out G3.out.symm (.int .i64 M.sz) (.slice A4 (M.sp.length + 1) c4) (.slice (some ⟨gf, 0, none⟩) M.fr.length cf2) (.int .i64 M.cp))
          have XS := hide (far4 X.out GN.out (.int .i64 M.sz) (.slice A4 (M.sp.length + 1) c4) (.slice (some ⟨gf, 0, none⟩) M.fr.length cf2) (.int .i64 M.cp))
          have KS := hide (And.intro (VS.out.cell 0) (And.intro (VS.out.cell 1) (And.intro (VS.out.cell 2) (And.intro (VS.out.cell 3) (XS.out.cell 1)))))
          refine wpAnyH_take (i := 0) (oi := ⟨some 66, _, _, _, _, _⟩) (v := ?_) rfl (by kernel_rfl) (by kernel_rfl) (by kernel_rfl) (fun _ _ _ h => h) (Or.inl ⟨by kernel_rfl, ?_⟩) (by assumption) ?_
          rotate_left 1
          · (intro w hSw; (try dsimp only at hSw); go_simp) <;> (with_reducible rfl)
          (try simp only [Act.put, List.setIfInBounds_toArray, List.set_cons_succ, List.set_cons_zero])
          refine wpAnyH_take (i := 1) (oi := ⟨some 67, _, _, _, _, _⟩) (v := ?_) rfl (by kernel_rfl) (by kernel_rfl) (by kernel_rfl) (fun _ _ _ h => h) (Or.inl ⟨by kernel_rfl, ?_⟩) (by assumption) ?_
          rotate_left 1
          · (intro w hSw; (try dsimp only at hSw); go_simp) <;> (with_reducible rfl)
          (try simp only [Act.put, List.setIfInBounds_toArray, List.set_cons_succ, List.set_cons_zero])
          refine wpAnyH_take (i := 2) (oi := ⟨some 68, _, _, _, _, _⟩) (v := ?_) rfl (by kernel_rfl) (by kernel_rfl) (by kernel_rfl) (fun _ _ _ h => h) (Or.inl ⟨by kernel_rfl, ?_⟩) (by assumption) ?_
          rotate_left 1
          · (intro w hSw; (try dsimp only at hSw); go_simp) <;> (with_reducible rfl)
          (try simp only [Act.put, List.setIfInBounds_toArray, List.set_cons_succ, List.set_cons_zero])
          refine wpAnyH_take (i := 3) (oi := ⟨some 69, _, _, _, _, _⟩) (v := ?_) rfl (by kernel_rfl) (by kernel_rfl) (by kernel_rfl) (fun _ _ _ h => h) (Or.inl ⟨by kernel_rfl, ?_⟩) (by assumption) ?_
          rotate_left 1
          · (intro w hSw; (try dsimp only at hSw); go_simp) <;> (with_reducible rfl)
          (try simp only [Act.put, List.setIfInBounds_toArray, List.set_cons_succ, List.set_cons_zero])
          refine wpAnyH_ready (rs := [4]) (by kernel_rfl) (by simp) ?_
          refine AllReadyH.cons (o := _) rfl (fun K' hK => ?_) AllReadyH.nil
          go_simp
          refine hK.out _ _ ?_ (fun hHeld => ?_)
          · first | exact ⟨v0, v1, v2, v3, x1⟩ | exact KS.out
          clear hK K'
          (try simp only [Act.put, List.setIfInBounds_toArray, List.set_cons_succ, List.set_cons_zero])
          refine wpAnyH_take (i := 5) (oi := ⟨some 5, _, _, _, _, _⟩) (v := ?_) rfl (by kernel_rfl) (by kernel_rfl) (by kernel_rfl) (fun _ _ _ h => h) (Or.inl ⟨by kernel_rfl, ?_⟩) (by assumption) ?_
          rotate_left 1
          · (intro w hSw; (try dsimp only at hSw); go_simp) <;> (with_reducible rfl)
          (try simp only [Act.put, List.setIfInBounds_toArray, List.set_cons_succ, List.set_cons_zero])
          refine wpAnyH_take (i := 6) (oi := ⟨some 6, _, _, _, _, _⟩) (v := ?_) rfl (by kernel_rfl) (by kernel_rfl) (by kernel_rfl) (fun _ _ _ h => h) (Or.inl ⟨by kernel_rfl, ?_⟩) (by assumption) ?_
          rotate_left 1
          · (intro w hSw; (try dsimp only at hSw); go_simp) <;> (with_reducible rfl)
          (try simp only [Act.put, List.setIfInBounds_toArray, List.set_cons_succ, List.set_cons_zero])
          refine wpAnyH_done (by kernel_rfl) ?_ _
          refine NoPanic.normal ?_
          go_wp2
          refine ret_c3 Try.results28 rfl rfl rfl rfl (box4s Y.out) ⟨A4, c4, some ⟨gf, 0, none⟩, cf2, ?_, ?_, K.out.trans KK.out.below⟩
          · rw [E.out, ← HL.out]
            have e := cwA_add hn ln L A4 c4 (some ⟨gf, 0, none⟩) cf2
            unfold cwA at e
            rw [e]; rfl
          · rw [E.out, ← HL.out]; exact (O7.out.kp KK.out).toIn
        refine AllReadyH.cons (o := ⟨some 61, _, _, _, _, _⟩) rfl (fun K' hK => ?_) AllReadyH.nil
        go_simp
        refine (clonep_any _ L _ ISP.out LL2).mono ?_
        rintro e w5 ⟨A5, c5, rfl, hrow, hb⟩
        rw [LL.out] at hrow
        have RW := hide hrow
        have KN5 := hide hb
        have O5 := hide (O.out.below hb)
        have V5 := hide (V.out.below hb)
        have Y5 := hide (Y.out.below hb)
        have X5 := hide (X.out.below hb)
        have K5 := hide (btrans K.out hb)
        have SZ5 := hide hb.size
        clear hrow hb v0 v1 v2 v3
        obtain ⟨v0, v1, v2, v3⟩ := box4 V5.out
        refine hK.out _ _ ?_ (fun hHeld => ?_)
        · trivial
        clear hK K'
        (try simp only [Act.put, List.setIfInBounds_toArray, List.set_cons_succ, List.set_cons_zero])
        refine wpAnyH_take (i := 4) (oi := ⟨some 62, _, _, _, _, _⟩) (v := ?_) rfl (by kernel_rfl) (by kernel_rfl) (by kernel_rfl) (fun _ _ _ h => h) (Or.inl ⟨by kernel_rfl, ?_⟩) (by assumption) ?_
        rotate_left 1
        · (intro w hSw; (try dsimp only at hSw); go_simp) <;> (with_reducible rfl)
        (try simp only [Act.put, List.setIfInBounds_toArray, List.set_cons_succ, List.set_cons_zero])
        refine wpAnyH_ready (rs := [1, 5]) (by kernel_rfl) (by simp) ?_
        refine AllReadyH.cons (o := ⟨some 59, _, _, _, _, _⟩) rfl (fun K' hK => ?_) ?_
        · go_simp
          refine hK.out _ _ ?_ (fun hHeld => ?_)
          · trivial
          clear hK K'
          (try simp only [Act.put, List.setIfInBounds_toArray, List.set_cons_succ, List.set_cons_zero])
          refine wpAnyH_ready (rs := [5]) (by kernel_rfl) (by simp) ?_
          refine AllReadyH.cons (o := ⟨some 63, _, _, _, _, _⟩) rfl (fun K' hK => ?_) AllReadyH.nil
          go_simp
          have NW := hide (cell_row w5 #[.bool true, .slice A5 ln c5] 62)
          have M6 := bal (brefl w5) (.cells #[.bool true, .slice A5 ln c5] 62)
          have O6 := hide (O5.out.below M6)
          have V6 := hide (V5.out.below M6)
          have Y6 := hide (Y5.out.below M6)
          have X6 := hide (X5.out.below M6)
          have K6 := hide (btrans K5.out M6)
          have RW6 := hide (row_below RW.out M6)
          clear M6
          clear v0 v1 v2 v3
          obtain ⟨v0, v1, v2, v3⟩ := box4 V6.out
          generalize hw6 : w5.alloc (.cells #[.bool true, .slice A5 ln c5] 62) = w6 at *
          clear hw6
          refine hK.out _ _ ?_ (fun hHeld => ?_)
          · trivial
          clear hK K'
          (try simp only [Act.put, List.setIfInBounds_toArray, List.set_cons_succ, List.set_cons_zero])
          refine wpAnyH_ready (rs := [6]) (by kernel_rfl) (by simp) ?_
          refine AllReadyH.cons (o := ⟨some 64, _, _, _, _, _⟩) rfl (fun K' hK => ?_) AllReadyH.nil
          refine step_append_own rfl (.tmp 59) (.tmp 63) 25 rfl w.heap.size 62 i0 _ 2 32 Try.underlying25 hi0 hz0 hz1 hz2 rfl (by omega) (.slice (some ⟨gs, 0, none⟩) M.sp.length cs2) M.sp.length _ rfl (by have q := O6.out.sp; rw [HLS.out] at q; exact q) ⟨w5.heap.size, 0, none⟩ 1 1 [.bool true, .slice A5 ln c5] rfl rfl NW.out (by intro u hu; simp at hu; rcases hu with rfl | rfl <;> rfl) (by simp only [maxLen]; omega) (by omega) K6.out.size ?_
          intro v4 w7 hown4 hg4
          obtain ⟨A4, c4, rfl, _⟩ := row_form hown4
          have hr6 : w6.ownsRow w.heap.size 62 2 (.slice (some ⟨gs, 0, none⟩) M.sp.length cs2) M.sp.length (tcs T) := by have q := O6.out.sp; rw [HLS.out] at q; exact q
          have KG := hide (Kp.grown (B := w.heap.size) hr6 hg4 (Nat.le_refl _) K6.out.size)
          have O7 := hide (O6.out.push (L := L) (by rw [LL.out]; exact row_mono RW6.out SZR.out) (fun g' hg' j hj hj2 => by have a := (row_lt RW.out hg').1; have b := (row_lt (O.out.pg j hj) hj2).2; omega) (by rw [HLS.out]; exact hown4) KG.out)
          have V7 := hide (V6.out.kp KG.out (by decide))
          have Y7 := hide (Y6.out.kp KG.out (by decide))
          have X7 := hide (X6.out.kp KG.out (by decide))
          have K7 := hide (K6.out.trans KG.out.below)
          clear hown4 hg4 hr6 v0 v1 v2 v3
          obtain ⟨v0, v1, v2, v3⟩ := box4 V7.out
          have z1 := V7.out.frozen 1
          refine hK.out _ _ ?_ (fun hHeld => ?_)
          · trivial
          clear hK K'
          (try simp only [Act.put, List.setIfInBounds_toArray, List.set_cons_succ, List.set_cons_zero])
          refine wpAnyH_take (i := 7) (oi := ⟨some 65, _, _, _, _, _⟩) (v := ?_) rfl (by kernel_rfl) (by kernel_rfl) (by kernel_rfl) (fun _ _ _ h => h) (Or.inl ⟨by kernel_rfl, ?_⟩) (by assumption) ?_
          rotate_left 1
          · (intro w hSw; (try dsimp only at hSw); go_simp) <;> (with_reducible rfl)
          (try simp only [Act.put, List.setIfInBounds_toArray, List.set_cons_succ, List.set_cons_zero])
          refine wpAnyH_ready (rs := [8]) (by kernel_rfl) (by simp) ?_
          refine AllReadyH.cons (o := ⟨none, _, _, _, _, _⟩) rfl (fun K' hK => ?_) AllReadyH.nil
          go_simp
          refine hK.out _ _ ?_ (fun hHeld => ?_)
          · trivial
          clear hK K'
          (try simp only [Act.put, List.setIfInBounds_toArray, List.set_cons_succ, List.set_cons_zero])
          refine wpAnyH_done (by kernel_rfl) ?_ _
          refine NoPanic.normal ?_
          have KB := Kp.boxset (B := w.heap.size) V7.out G4.out 1 (.slice A4 (M.sp.length + 1) c4)
          replace O7 := hide (O7.out.kp KB)
          have Y := hide (Y7.out.far G3.out (b := g3) (i := 1) (.slice A4 (M.sp.length + 1) c4))
          have X := hide (X7.out.far G5.out (b := g3) (i := 1) (.slice A4 (M.sp.length + 1) c4))
          have V := hide (V7.out.put 1 (.slice A4 (M.sp.length + 1) c4))
          have K := hide (K7.out.trans KB.below)
          clear KB Y7 X7 V7 K7 v0 v1 v2 v3 z1
          simp only [List.setIfInBounds_toArray, List.set_cons_succ, List.set_cons_zero] at V
          generalize w7.setCell ⟨g3, 1, none⟩ (.slice A4 (M.sp.length + 1) c4) = w8 at *
          obtain ⟨v0, v1, v2, v3⟩ := box4 V.out
          obtain ⟨x0, x1, x2, x3⟩ := box4 X.out
          go_upto_region 17 with fail
          refine wp_region_noPanic ?_
          refine wp_region_held_drew (S := (fun W => W.cell? ⟨g3, 0, none⟩ = some (.int .i64 M.sz) ∧ W.cell? ⟨g3, 1, none⟩ = some (.slice A4 (M.sp.length + 1) c4) ∧ W.cell? ⟨g3, 2, none⟩ = some (.slice (some ⟨gf, 0, none⟩) M.fr.length cf2) ∧ W.cell? ⟨g3, 3, none⟩ = some (.int .i64 M.cp) ∧ W.cell? ⟨g, 1, none⟩ = some (.slice As M.sp.length cs))) (by kernel_rfl) ?_ (fun hHeld => ?_)
          · first | exact ⟨v0, v1, v2, v3, x1⟩ | exact KS.out
          replace O7 := hide (O7.out.below (below_drewN (brefl w8) 1))
          replace V := hide (V.out.below (below_drewN (brefl w8) 1))
          replace Y := hide (Y.out.below (below_drewN (brefl w8) 1))
          replace X := hide (X.out.below (below_drewN (brefl w8) 1))
          replace K := hide (btrans K.out (below_drewN (brefl w8) 1))
          change Hid (OwM _ w8.drew _ _ _ _ _ _) at O7
          change Hid (Box w8.drew _ _ _) at V
          change Hid (Box w8.drew _ _ _) at Y
          change Hid (Box w8.drew _ _ _) at X
          change Hid (Below _ _ w8.drew) at K
          generalize w8.drew = w9 at *
          clear v0 v1 v2 v3 x0 x1 x2 x3
          obtain ⟨v0, v1, v2, v3⟩ := box4 V.out
          obtain ⟨x0, x1, x2, x3⟩ := box4 X.out
          obtain ⟨y0, y1, y2, y3⟩ := box4 Y.out
          have z0 := Y.out.frozen 0
          have z1 := Y.out.frozen 1
          have z2 := Y.out.frozen 2
          have z3 := Y.out.frozen 3
          have KK := hide (kp4 Y.out GG.out.2 (.int .i64 M.sz) (.slice A4 (M.sp.length + 1) c4) (.slice (some ⟨gf, 0, none⟩) M.fr.length cf2) (.int .i64 M.cp))
          have VS := hide (far4 V.out G3.out.symm (.int .i64 M.sz) (.slice A4 (M.sp.length + 1) c4) (.slice (some ⟨gf, 0, none⟩) M.fr.length cf2) (.int .i64 M.cp))
          have XS := hide (far4 X.out GN.out (.int .i64 M.sz) (.slice A4 (M.sp.length + 1) c4) (.slice (some ⟨gf, 0, none⟩) M.fr.length cf2) (.int .i64 M.cp))
          have KS := hide (And.intro (VS.out.cell 0) (And.intro (VS.out.cell 1) (And.intro (VS.out.cell 2) (And.intro (VS.out.cell 3) (XS.out.cell 1)))))
          refine wpAnyH_take (i := 0) (oi := ⟨some 66, _, _, _, _, _⟩) (v := ?_) rfl (by kernel_rfl) (by kernel_rfl) (by kernel_rfl) (fun _ _ _ h => h) (Or.inl ⟨by kernel_rfl, ?_⟩) (by assumption) ?_
          rotate_left 1
          · (intro w hSw; (try dsimp only at hSw); go_simp) <;> (with_reducible rfl)
          (try simp only [Act.put, List.setIfInBounds_toArray, List.set_cons_succ, List.set_cons_zero])
          refine wpAnyH_take (i := 1) (oi := ⟨some 67, _, _, _, _, _⟩) (v := ?_) rfl (by kernel_rfl) (by kernel_rfl) (by kernel_rfl) (fun _ _ _ h => h) (Or.inl ⟨by kernel_rfl, ?_⟩) (by assumption) ?_
          rotate_left 1
          · (intro w hSw; (try dsimp only at hSw); go_simp) <;> (with_reducible rfl)
          (try simp only [Act.put, List.setIfInBounds_toArray, List.set_cons_succ, List.set_cons_zero])
          refine wpAnyH_take (i := 2) (oi := ⟨some 68, _, _, _, _, _⟩) (v := ?_) rfl (by kernel_rfl) (by kernel_rfl) (by kernel_rfl) (fun _ _ _ h => h) (Or.inl ⟨by kernel_rfl, ?_⟩) (by assumption) ?_
          rotate_left 1
          · (intro w hSw; (try dsimp only at hSw); go_simp) <;> (with_reducible rfl)
          (try simp only [Act.put, List.setIfInBounds_toArray, List.set_cons_succ, List.set_cons_zero])
          refine wpAnyH_take (i := 3) (oi := ⟨some 69, _, _, _, _, _⟩) (v := ?_) rfl (by kernel_rfl) (by kernel_rfl) (by kernel_rfl) (fun _ _ _ h => h) (Or.inl ⟨by kernel_rfl, ?_⟩) (by assumption) ?_
          rotate_left 1
          · (intro w hSw; (try dsimp only at hSw); go_simp) <;> (with_reducible rfl)
          (try simp only [Act.put, List.setIfInBounds_toArray, List.set_cons_succ, List.set_cons_zero])
          refine wpAnyH_ready (rs := [4]) (by kernel_rfl) (by simp) ?_
          refine AllReadyH.cons (o := _) rfl (fun K' hK => ?_) AllReadyH.nil
          go_simp
          refine hK.out _ _ ?_ (fun hHeld => ?_)
          · first | exact ⟨v0, v1, v2, v3, x1⟩ | exact KS.out
          clear hK K'
          (try simp only [Act.put, List.setIfInBounds_toArray, List.set_cons_succ, List.set_cons_zero])
          refine wpAnyH_take (i := 5) (oi := ⟨some 5, _, _, _, _, _⟩) (v := ?_) rfl (by kernel_rfl) (by kernel_rfl) (by kernel_rfl) (fun _ _ _ h => h) (Or.inl ⟨by kernel_rfl, ?_⟩) (by assumption) ?_
          rotate_left 1
          · (intro w hSw; (try dsimp only at hSw); go_simp) <;> (with_reducible rfl)
          (try simp only [Act.put, List.setIfInBounds_toArray, List.set_cons_succ, List.set_cons_zero])
          refine wpAnyH_take (i := 6) (oi := ⟨some 6, _, _, _, _, _⟩) (v := ?_) rfl (by kernel_rfl) (by kernel_rfl) (by kernel_rfl) (fun _ _ _ h => h) (Or.inl ⟨by kernel_rfl, ?_⟩) (by assumption) ?_
          rotate_left 1
          · (intro w hSw; (try dsimp only at hSw); go_simp) <;> (with_reducible rfl)
          (try simp only [Act.put, List.setIfInBounds_toArray, List.set_cons_succ, List.set_cons_zero])
          refine wpAnyH_done (by kernel_rfl) ?_ _
          refine NoPanic.normal ?_
          go_wp2
          refine ret_c3 Try.results28 rfl rfl rfl rfl (box4s Y.out) ⟨A4, c4, some ⟨gf, 0, none⟩, cf2, ?_, ?_, K.out.trans KK.out.below⟩
          · rw [E.out, ← HL.out]
            have e := cwA_add hn ln L A4 c4 (some ⟨gf, 0, none⟩) cf2
            unfold cwA at e
            rw [e]; rfl
          · rw [E.out, ← HL.out]; exact (O7.out.kp KK.out).toIn
        refine AllReadyH.cons (o := ⟨some 63, _, _, _, _, _⟩) rfl (fun K' hK => ?_) AllReadyH.nil
        go_simp
        have NW := hide (cell_row w5 #[.bool true, .slice A5 ln c5] 62)
        have M6 := bal (brefl w5) (.cells #[.bool true, .slice A5 ln c5] 62)
        have O6 := hide (O5.out.below M6)
        have V6 := hide (V5.out.below M6)
        have Y6 := hide (Y5.out.below M6)
        have X6 := hide (X5.out.below M6)
        have K6 := hide (btrans K5.out M6)
        have RW6 := hide (row_below RW.out M6)
        clear M6
        clear v0 v1 v2 v3
        obtain ⟨v0, v1, v2, v3⟩ := box4 V6.out
        generalize hw6 : w5.alloc (.cells #[.bool true, .slice A5 ln c5] 62) = w6 at *
        clear hw6
        refine hK.out _ _ ?_ (fun hHeld => ?_)
        · trivial
        clear hK K'
        (try simp only [Act.put, List.setIfInBounds_toArray, List.set_cons_succ, List.set_cons_zero])
        refine wpAnyH_ready (rs := [1]) (by kernel_rfl) (by simp) ?_
        refine AllReadyH.cons (o := ⟨some 59, _, _, _, _, _⟩) rfl (fun K' hK => ?_) AllReadyH.nil
        go_simp
        refine hK.out _ _ ?_ (fun hHeld => ?_)
        · trivial
        clear hK K'
        (try simp only [Act.put, List.setIfInBounds_toArray, List.set_cons_succ, List.set_cons_zero])
        refine wpAnyH_ready (rs := [6]) (by kernel_rfl) (by simp) ?_
        refine AllReadyH.cons (o := ⟨some 64, _, _, _, _, _⟩) rfl (fun K' hK => ?_) AllReadyH.nil
        refine step_append_own rfl (.tmp 59) (.tmp 63) 25 rfl w.heap.size 62 i0 _ 2 32 Try.underlying25 hi0 hz0 hz1 hz2 rfl (by omega) (.slice (some ⟨gs, 0, none⟩) M.sp.length cs2) M.sp.length _ rfl (by have q := O6.out.sp; rw [HLS.out] at q; exact q) ⟨w5.heap.size, 0, none⟩ 1 1 [.bool true, .slice A5 ln c5] rfl rfl NW.out (by intro u hu; simp at hu; rcases hu with rfl | rfl <;> rfl) (by simp only [maxLen]; omega) (by omega) K6.out.size ?_
        intro v4 w7 hown4 hg4
        obtain ⟨A4, c4, rfl, _⟩ := row_form hown4
        have hr6 : w6.ownsRow w.heap.size 62 2 (.slice (some ⟨gs, 0, none⟩) M.sp.length cs2) M.sp.length (tcs T) := by have q := O6.out.sp; rw [HLS.out] at q; exact q
        have KG := hide (Kp.grown (B := w.heap.size) hr6 hg4 (Nat.le_refl _) K6.out.size)
        have O7 := hide (O6.out.push (L := L) (by rw [LL.out]; exact row_mono RW6.out SZR.out) (fun g' hg' j hj hj2 => by have a := (row_lt RW.out hg').1; have b := (row_lt (O.out.pg j hj) hj2).2; omega) (by rw [HLS.out]; exact hown4) KG.out)
        have V7 := hide (V6.out.kp KG.out (by decide))
        have Y7 := hide (Y6.out.kp KG.out (by decide))
        have X7 := hide (X6.out.kp KG.out (by decide))
        have K7 := hide (K6.out.trans KG.out.below)
        clear hown4 hg4 hr6 v0 v1 v2 v3
        obtain ⟨v0, v1, v2, v3⟩ := box4 V7.out
        have z1 := V7.out.frozen 1
        refine hK.out _ _ ?_ (fun hHeld => ?_)
        · trivial
        clear hK K'
        (try simp only [Act.put, List.setIfInBounds_toArray, List.set_cons_succ, List.set_cons_zero])
        refine wpAnyH_take (i := 7) (oi := ⟨some 65, _, _, _, _, _⟩) (v := ?_) rfl (by kernel_rfl) (by kernel_rfl) (by kernel_rfl) (fun _ _ _ h => h) (Or.inl ⟨by kernel_rfl, ?_⟩) (by assumption) ?_
        rotate_left 1
        · (intro w hSw; (try dsimp only at hSw); go_simp) <;> (with_reducible rfl)
        (try simp only [Act.put, List.setIfInBounds_toArray, List.set_cons_succ, List.set_cons_zero])
        refine wpAnyH_ready (rs := [8]) (by kernel_rfl) (by simp) ?_
        refine AllReadyH.cons (o := ⟨none, _, _, _, _, _⟩) rfl (fun K' hK => ?_) AllReadyH.nil
        go_simp
        refine hK.out _ _ ?_ (fun hHeld => ?_)
        · trivial
        clear hK K'
        (try simp only [Act.put, List.setIfInBounds_toArray, List.set_cons_succ, List.set_cons_zero])
        refine wpAnyH_done (by kernel_rfl) ?_ _
        refine NoPanic.normal ?_
        have KB := Kp.boxset (B := w.heap.size) V7.out G4.out 1 (.slice A4 (M.sp.length + 1) c4)
        replace O7 := hide (O7.out.kp KB)
        have Y := hide (Y7.out.far G3.out (b := g3) (i := 1) (.slice A4 (M.sp.length + 1) c4))
        have X := hide (X7.out.far G5.out (b := g3) (i := 1) (.slice A4 (M.sp.length + 1) c4))
        have V := hide (V7.out.put 1 (.slice A4 (M.sp.length + 1) c4))
        have K := hide (K7.out.trans KB.below)
        clear KB Y7 X7 V7 K7 v0 v1 v2 v3 z1
        simp only [List.setIfInBounds_toArray, List.set_cons_succ, List.set_cons_zero] at V
        generalize w7.setCell ⟨g3, 1, none⟩ (.slice A4 (M.sp.length + 1) c4) = w8 at *
        obtain ⟨v0, v1, v2, v3⟩ := box4 V.out
        obtain ⟨x0, x1, x2, x3⟩ := box4 X.out
        go_upto_region 17 with fail
        refine wp_region_noPanic ?_
        refine wp_region_held_drew (S := (fun W => W.cell? ⟨g3, 0, none⟩ = some (.int .i64 M.sz) ∧ W.cell? ⟨g3, 1, none⟩ = some (.slice A4 (M.sp.length + 1) c4) ∧ W.cell? ⟨g3, 2, none⟩ = some (.slice (some ⟨gf, 0, none⟩) M.fr.length cf2) ∧ W.cell? ⟨g3, 3, none⟩ = some (.int .i64 M.cp) ∧ W.cell? ⟨g, 1, none⟩ = some (.slice As M.sp.length cs))) (by kernel_rfl) ?_ (fun hHeld => ?_)
        · first | exact ⟨v0, v1, v2, v3, x1⟩ | exact KS.out
        replace O7 := hide (O7.out.below (below_drewN (brefl w8) 1))
        replace V := hide (V.out.below (below_drewN (brefl w8) 1))
        replace Y := hide (Y.out.below (below_drewN (brefl w8) 1))
        replace X := hide (X.out.below (below_drewN (brefl w8) 1))
        replace K := hide (btrans K.out (below_drewN (brefl w8) 1))
        change Hid (OwM _ w8.drew _ _ _ _ _ _) at O7
        change Hid (Box w8.drew _ _ _) at V
        change Hid (Box w8.drew _ _ _) at Y
        change Hid (Box w8.drew _ _ _) at X
        change Hid (Below _ _ w8.drew) at K
        generalize w8.drew = w9 at *
        clear v0 v1 v2 v3 x0 x1 x2 x3
        obtain ⟨v0, v1, v2, v3⟩ := box4 V.out
        obtain ⟨x0, x1, x2, x3⟩ := box4 X.out
        obtain ⟨y0, y1, y2, y3⟩ := box4 Y.out
        have z0 := Y.out.frozen 0
        have z1 := Y.out.frozen 1
        have z2 := Y.out.frozen 2
        have z3 := Y.out.frozen 3
        have KK := hide (kp4 Y.out GG.out.2 (.int .i64 M.sz) (.slice A4 (M.sp.length + 1) c4) (.slice (some ⟨gf, 0, none⟩) M.fr.length cf2) (.int .i64 M.cp))
        have VS := hide (far4 V.out G3.out.symm (.int .i64 M.sz) (.slice A4 (M.sp.length + 1) c4) (.slice (some ⟨gf, 0, none⟩) M.fr.length cf2) (.int .i64 M.cp))
        have XS := hide (far4 X.out GN.out (.int .i64 M.sz) (.slice A4 (M.sp.length + 1) c4) (.slice (some ⟨gf, 0, none⟩) M.fr.length cf2) (.int .i64 M.cp))
        have KS := hide (And.intro (VS.out.cell 0) (And.intro (VS.out.cell 1) (And.intro (VS.out.cell 2) (And.intro (VS.out.cell 3) (XS.out.cell 1)))))
        refine wpAnyH_take (i := 0) (oi := ⟨some 66, _, _, _, _, _⟩) (v := ?_) rfl (by kernel_rfl) (by kernel_rfl) (by kernel_rfl) (fun _ _ _ h => h) (Or.inl ⟨by kernel_rfl, ?_⟩) (by assumption) ?_
        rotate_left 1
        · (intro w hSw; (try dsimp only at hSw); go_simp) <;> (with_reducible rfl)
        (try simp only [Act.put, List.setIfInBounds_toArray, List.set_cons_succ, List.set_cons_zero])
        refine wpAnyH_take (i := 1) (oi := ⟨some 67, _, _, _, _, _⟩) (v := ?_) rfl (by kernel_rfl) (by kernel_rfl) (by kernel_rfl) (fun _ _ _ h => h) (Or.inl ⟨by kernel_rfl, ?_⟩) (by assumption) ?_
        rotate_left 1
        · (intro w hSw; (try dsimp only at hSw); go_simp) <;> (with_reducible rfl)
        (try simp only [Act.put, List.setIfInBounds_toArray, List.set_cons_succ, List.set_cons_zero])
        refine wpAnyH_take (i := 2) (oi := ⟨some 68, _, _, _, _, _⟩) (v := ?_) rfl (by kernel_rfl) (by kernel_rfl) (by kernel_rfl) (fun _ _ _ h => h) (Or.inl ⟨by kernel_rfl, ?_⟩) (by assumption) ?_
        rotate_left 1
        · (intro w hSw; (try dsimp only at hSw); go_simp) <;> (with_reducible rfl)
        (try simp only [Act.put, List.setIfInBounds_toArray, List.set_cons_succ, List.set_cons_zero])
        refine wpAnyH_take (i := 3) (oi := ⟨some 69, _, _, _, _, _⟩) (v := ?_) rfl (by kernel_rfl) (by kernel_rfl) (by kernel_rfl) (fun _ _ _ h => h) (Or.inl ⟨by kernel_rfl, ?_⟩) (by assumption) ?_
        rotate_left 1
        · (intro w hSw; (try dsimp only at hSw); go_simp) <;> (with_reducible rfl)
        (try simp only [Act.put, List.setIfInBounds_toArray, List.set_cons_succ, List.set_cons_zero])
        refine wpAnyH_ready (rs := [4]) (by kernel_rfl) (by simp) ?_
        refine AllReadyH.cons (o := _) rfl (fun K' hK => ?_) AllReadyH.nil
        go_simp
        refine hK.out _ _ ?_ (fun hHeld => ?_)
        · first | exact ⟨v0, v1, v2, v3, x1⟩ | exact KS.out
        clear hK K'
        (try simp only [Act.put, List.setIfInBounds_toArray, List.set_cons_succ, List.set_cons_zero])
        refine wpAnyH_take (i := 5) (oi := ⟨some 5, _, _, _, _, _⟩) (v := ?_) rfl (by kernel_rfl) (by kernel_rfl) (by kernel_rfl) (fun _ _ _ h => h) (Or.inl ⟨by kernel_rfl, ?_⟩) (by assumption) ?_
        rotate_left 1
        · (intro w hSw; (try dsimp only at hSw); go_simp) <;> (with_reducible rfl)
        (try simp only [Act.put, List.setIfInBounds_toArray, List.set_cons_succ, List.set_cons_zero])
        refine wpAnyH_take (i := 6) (oi := ⟨some 6, _, _, _, _, _⟩) (v := ?_) rfl (by kernel_rfl) (by kernel_rfl) (by kernel_rfl) (fun _ _ _ h => h) (Or.inl ⟨by kernel_rfl, ?_⟩) (by assumption) ?_
        rotate_left 1
        · (intro w hSw; (try dsimp only at hSw); go_simp) <;> (with_reducible rfl)
        (try simp only [Act.put, List.setIfInBounds_toArray, List.set_cons_succ, List.set_cons_zero])
        refine wpAnyH_done (by kernel_rfl) ?_ _
        refine NoPanic.normal ?_
        go_wp2
        refine ret_c3 Try.results28 rfl rfl rfl rfl (box4s Y.out) ⟨A4, c4, some ⟨gf, 0, none⟩, cf2, ?_, ?_, K.out.trans KK.out.below⟩
        · rw [E.out, ← HL.out]
          have e := cwA_add hn ln L A4 c4 (some ⟨gf, 0, none⟩) cf2
          unfold cwA at e
          rw [e]; rfl
        · rw [E.out, ← HL.out]; exact (O7.out.kp KK.out).toIn
end Go.Proofs.Ytoogdggiemacjaa.Cw
