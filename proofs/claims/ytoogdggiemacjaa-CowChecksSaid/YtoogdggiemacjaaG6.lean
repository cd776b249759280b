import Derived.Test.YtoogdggiemacjaaG5
import Derived.Maps.AppendAt
namespace Go.Proofs.Ytoogdggiemacjaa.Cw
open Go Go.RowKit
set_option linter.unusedVariables false
set_option linter.unusedSimpArgs false
theorem OwM.pushL {lv : Bool} {B : Nat} {w w' : World} {M : Cow} {As Af A4 : Option Addr} {cs cf c4 : Nat} {T : Tb} {L : List Pg} {v1 : Value} (h : OwM B w M As cs Af cf T) (hr : w.ownsRow B 64 2 v1 L.length (pcs L)) (hf : ∀ g, v1.ownBlock = some g → ∀ j, j < M.sp.length → (tAt T j).2.ownBlock ≠ some g)
    (ho : w'.ownsRow B 62 2 (.slice A4 (M.sp.length + 1) c4) (M.sp.length + 1) (tcs T ++ [.bool lv, v1])) (hk : Kp B 62 w w') : OwM B w' { M with sp := M.sp ++ [(lv, L)] } A4 c4 Af cf (T ++ [(lv, v1)]) := by
  have e : (M.sp ++ [(lv, L)]).length = M.sp.length + 1 := by simp
  refine ⟨by simp [h.tl], row_kp h.fr hk (by decide), ?_, ?_, ?_, ?_⟩
  · simp only [e]
    rw [show tcs (T ++ [(lv, v1)]) = tcs T ++ [.bool lv, v1] from c2_append _ _]
    exact ho
  · intro k hk'
    simp only [e] at hk'
    by_cases q : k < M.sp.length
    · rw [tAt_app (by rw [h.tl]; exact q)]
      simp only [sAt_app q]
      exact h.lv k q
    · obtain rfl : k = M.sp.length := by omega
      simp only [sAt_app2]
      rw [← h.tl, tAt_app2]
  · intro k hk'
    simp only [e] at hk'
    by_cases q : k < M.sp.length
    · rw [tAt_app (by rw [h.tl]; exact q)]
      simp only [sAt_app q]
      exact row_kp (h.pg k q) hk (by decide)
    · obtain rfl : k = M.sp.length := by omega
      simp only [sAt_app2]
      rw [← h.tl, tAt_app2]
      exact row_kp hr hk (by decide)
  · intro i j hi hj hij g
    simp only [e] at hi hj
    by_cases q : i < M.sp.length
    · rw [tAt_app (by rw [h.tl]; exact q)]
      by_cases q2 : j < M.sp.length
      · rw [tAt_app (by rw [h.tl]; exact q2)]
        exact h.ne i j q q2 hij g
      · obtain rfl : j = M.sp.length := by omega
        rw [show tAt (T ++ [(lv, v1)]) M.sp.length = (lv, v1) from by rw [← h.tl, tAt_app2]]
        intro a b
        exact hf g b i q a
    · obtain rfl : i = M.sp.length := by omega
      rw [show tAt (T ++ [(lv, v1)]) M.sp.length = (lv, v1) from by rw [← h.tl, tAt_app2]]
      intro a
      rw [tAt_app (by rw [h.tl]; omega)]
      exact hf g a j (by omega)
theorem step_own {P : Program} {ops : Array Oper} {o : Oper} {a : Act} {w : World} {K : Act → World → Prop} {Q : Exit → Act → World → Prop} {E : Prop} (hgd : o.guard = none) (s x : Operand) (t : TypeId)
    (ho : o.op = .call { callee := .builtin .append, args := #[s, x], argTypes := #[t, t] })
    (base : Nat) (e : TypeId) (i : TypeInfo) (z : Value) (size bytes : Nat) (ht : P.underlying t = some (.slice e)) (hi : P.info? e = some i) (hz : i.zero = some z)
    (hsize : i.size = size) (hby : i.bytes = bytes) (hzs : z.cells.size = size) (hsz : 0 < size)
    (v : Value) (n : Nat) (xs : List Value) (hs : a.eval s = v) (hown : w.ownsRow base e size v n xs)
    (ad : Addr) (m c : Nat) (news : List Value) (hx : a.eval x = .slice (some ad) m c) (hl : news.length = m * size) (hnews : ∀ j u, news[j]? = some u → w.cell? (ad.add j) = some u) (h1 : ∀ u ∈ news, u.oneCell' = true)
    (h63 : n + m ≤ maxLen) (hbytes : (n + m) * bytes ≤ 140737488355328) (hbase : base ≤ w.heap.size)
    (h : ∀ v' w', w'.ownsRow base e size v' (n + m) (xs ++ news) → w.grownBy w' v.ownBlock → (v' = .slice none 0 0 ↔ v = .slice none 0 0 ∧ m = 0) → (v'.ownBlock = v.ownBlock ∨ v'.ownBlock = some w.heap.size) → K (a.put o.dst v') w') :
    if Region.wanted o (yielded ops a.tmps) = true then Oper.wp P o a w K Q else E := by
  have hw : Region.wanted o (yielded ops a.tmps) = true := by simp [Region.wanted, hgd]
  rw [if_pos hw]
  obtain ⟨v', w', hr, h2, h3, h4, h5⟩ := run_append_own_at (P := P) w base t o.type e i z size bytes ht hi hz hsize hby hzs hsz v n xs hown ad m c news hl hnews h1 h63 hbytes hbase
  unfold Oper.wp execOp
  simp only [ho, resolve, invoke, builtin, Sem.run_bind, Sem.run_pure, Result.andThen_ok, List.map_toArray, List.map_cons, List.map_nil, hs, hx, hr]
  exact h v' w' h2 h3 h4 h5
theorem two_at {w : World} {g : Nat} {t : TypeId} {x y : Value} (h : Box w g t #[x, y]) : ∀ j u, [x, y][j]? = some u → w.cell? ((⟨g, 0, none⟩ : Addr).add j) = some u := fun j u hu => by
  rw [add_at, Nat.zero_add, h.cell j]
  simpa using hu
theorem one_two {x y : Value} (hx : x.oneCell' = true) (hy : y.oneCell' = true) : ∀ u ∈ [x, y], u.oneCell' = true := fun u hu => by
  rcases List.mem_cons.1 hu with rfl | hu
  · exact hx
  · rw [List.mem_singleton.1 hu]; exact hy
theorem pcs_snoc (L : List Pg) (p : Pg) : pcs (L ++ [p]) = pcs L ++ [.int .i64 p.1, .bool p.2] := c2_append _ _
theorem fcs_snoc (L : List Fr) (p : Fr) : fcs (L ++ [p]) = fcs L ++ [.int .i64 p.1, .int .i64 p.2] := c2_append _ _
theorem tcs_snoc (L : Tb) (p : Bool × Value) : tcs (L ++ [p]) = tcs L ++ [.bool p.1, p.2] := c2_append _ _
theorem OwM.pushF {B : Nat} {w w' : World} {sz cp : Int} {S : List Sp} {F : List Fr} {As Af Af' : Option Addr} {cs cf cf' : Nat} {T : Tb} {f : Fr} (h : OwM B w ⟨sz, S, F, cp⟩ As cs Af cf T) (hr : w'.ownsRow B 53 2 (.slice Af' (F.length + 1) cf') (F.length + 1) (fcs F ++ [.int .i64 f.1, .int .i64 f.2])) (hk : Kp B 53 w w') : OwM B w' ⟨sz, S, F ++ [f], cp⟩ As cs Af' cf' T := by
  refine ⟨h.tl, ?_, row_kp h.sp hk (by decide), h.lv, fun k hk2 => row_kp (h.pg k hk2) hk (by decide), h.ne⟩
  show w'.ownsRow B 53 2 (.slice Af' (F ++ [f]).length cf') (F ++ [f]).length (fcs (F ++ [f]))
  rw [List.length_append, List.length_singleton, fcs_snoc]
  exact hr
theorem OwM.recp {B : Nat} {w : World} {sz sz' cp cp' : Int} {S : List Sp} {F : List Fr} {As Af : Option Addr} {cs cf : Nat} {T : Tb} (h : OwM B w ⟨sz, S, F, cp⟩ As cs Af cf T) : OwM B w ⟨sz', S, F, cp'⟩ As cs Af cf T := ⟨h.tl, h.fr, h.sp, h.lv, h.pg, h.ne⟩
theorem Box.drew {w : World} {g : Nat} {t : TypeId} {cs : Array Value} (h : Box w g t cs) : Box w.drew g t cs := h
set_option maxRecDepth 100000 in
set_option maxHeartbeats 8000000 in
theorem copy_any (M : Cow) (As Af : Option Addr) (cs cf : Nat) (w : World) (h : CwIn w M As cs Af cf) (hs20 : M.sp.length ≤ 1000) (hf300 : M.fr.length ≤ 1000) (hp40 : ∀ k, k < M.sp.length → (sAt M.sp k).2.length ≤ 1000) : Calls Try.prog 58 #[.agg (cwA M As cs Af cf)] w fun e w' => ∃ As' cs' Af' cf' T, e = .returned (.agg (cwA M As' cs' Af' cf')) ∧ OwM w.heap.size w' M As' cs' Af' cf' T ∧ Below w.heap.size w w' := by
  obtain ⟨W0, hW0⟩ : ∃ W0, W0 = ((w.alloc (.cells (cwA M As cs Af cf) 28)).alloc (.cells #[.int .i64 0, .slice none 0 0, .slice none 0 0, .int .i64 0] 28)).alloc (.cells #[.int .i64 M.sz, .slice none 0 0, .slice none 0 0, .int .i64 M.cp] 28) := ⟨_, rfl⟩
  have K := hide (show Below w.heap.size w W0 by rw [hW0]; exact bal (bal (bal (brefl w) _) _) _)
  have X1 := hide (show Box W0 w.heap.size 28 (cwA M As cs Af cf) by rw [hW0]; exact ((Box.new w 28 _).more _).more _)
  have X2 := hide (show Box W0 (w.heap.size + 1) 28 #[.int .i64 0, .slice none 0 0, .slice none 0 0, .int .i64 0] by rw [hW0]; exact (Box.new2 w _ 28 _).more _)
  have X3 := hide (show Box W0 (w.heap.size + 1 + 1) 28 #[.int .i64 M.sz, .slice none 0 0, .slice none 0 0, .int .i64 M.cp] by rw [hW0]; exact Box.new3 w _ _ 28 _)
  have IN := hide h
  obtain ⟨i64, hi64, hz64, hy64, hx64⟩ := info_parts info64
  obtain ⟨i53, hi53, hz53, hy53, hx53⟩ := info_parts info53
  obtain ⟨i62, hi62, hz62, hy62, hx62⟩ := info_parts info62
  have PL := hide hp40
  clear h hp40
  unfold cwA at hW0 X1 ⊢
  go_enter Try.func58, Try.ntmps58
  go_upto_region 2 with fail
  rw [← hW0]
  clear hW0
  have H2 := hide (show w.heap.size ≤ w.heap.size + 1 by omega)
  have H3 := hide (show w.heap.size ≤ w.heap.size + 1 + 1 by omega)
  have N13 := hide (show w.heap.size ≠ w.heap.size + 1 + 1 by omega)
  have N23 := hide (show w.heap.size + 1 ≠ w.heap.size + 1 + 1 by omega)
  generalize hg3 : w.heap.size + 1 + 1 = g3 at *
  generalize hg2 : w.heap.size + 1 = g2 at *
  obtain ⟨g1, hg1⟩ : ∃ g, g = w.heap.size := ⟨_, rfl⟩
  rw [← hg1] at X1 N13
  have H1 := hide (show w.heap.size ≤ g1 by omega)
  rw [← hg1]
  clear hg1 hg2 hg3
  have OM := hide (show OwM w.heap.size W0 ⟨M.sz, M.sp.take 0, [], M.cp⟩ none 0 none 0 [] from ⟨rfl, ⟨rfl, .inl ⟨rfl, rfl⟩⟩, ⟨rfl, .inl ⟨rfl, rfl⟩⟩, fun k hk => absurd hk (Nat.not_lt_zero _), fun k hk => absurd hk (Nat.not_lt_zero _), fun i j hi => absurd hi (Nat.not_lt_zero _)⟩)
  go_wp2
  go_loopw [4] (fun q wr => ∃ (i : Nat) (SA : Option Addr) (cS : Nat) (T : Tb), i ≤ M.sp.length ∧ q = .int .i64 i ∧ Hid (Box wr g1 28 #[.int .i64 M.sz, .slice As M.sp.length cs, .slice Af M.fr.length cf, .int .i64 M.cp]) ∧ Hid (Box wr g2 28 #[.int .i64 0, .slice none 0 0, .slice none 0 0, .int .i64 0]) ∧ Hid (Box wr g3 28 #[.int .i64 M.sz, .slice SA i cS, .slice none 0 0, .int .i64 M.cp]) ∧ Hid (OwM w.heap.size wr ⟨M.sz, M.sp.take i, [], M.cp⟩ SA cS none 0 T) ∧ Hid (Below w.heap.size w wr)) (fun q _ => M.sp.length - (intOf q).toNat)
  case atStart => exact ⟨0, none, 0, [], Nat.zero_le _, rfl, X1, X2, X3, OM, K⟩
  case round =>
    clear X1 X2 X3 OM K
    obtain ⟨i, SA, cS, T, hk, rfl, X1, X2, X3, OM, K⟩ := hrel
    obtain ⟨x0, x1, x2, x3⟩ := box4 X1.out
    by_cases hlt : i < M.sp.length
    · have hl2 : (i : Int) < (M.sp.length : Int) := by omega
      have hk0 : (0 : Int) ≤ (i : Int) := by omega
      obtain ⟨b1, o1, v, rfl, hb1, s0, s1, P1, c1, rfl, _, hR⟩ := IN.out.rs.cells K.out hlt
      have PN0 := PL.out i hlt
      have SN := hide (sAt_snoc hlt)
      rcases hss : sAt M.sp i with ⟨lv, Ls⟩
      rw [hss] at s0 s1 hR PN0 SN
      dsimp only at s0 s1 hR PN0
      clear hss
      obtain ⟨n, hn⟩ : ∃ n, Ls.length = n := ⟨_, rfl⟩
      have HN := hide hn
      rw [hn] at s1 PN0
      have R1 := hide hR
      have LTK := hide (show (M.sp.take i).length = i by rw [List.length_take]; omega)
      clear hR hn
      generalize wr = wo at *
      have B1O := hide (Nat.lt_of_lt_of_le hb1 K.out.size)
      have G1O := hide X1.out.lt
      have HWO := hide K.out.size
      have S1 := hide s1
      have X5 := hide (Box.new wo 62 #[.bool lv, .slice none 0 0])
      have KO := hide (bal (brefl wo) (.cells #[.bool lv, .slice none 0 0] 62))
      have X1a := hide (X1.out.below KO.out)
      have Ka := hide (btrans K.out KO.out)
      have HG5 := hide (show wo.heap.size ≤ wo.heap.size from Nat.le_refl _)
      have HO5 := hide (show wo.heap.size ≤ wo.heap.size + 1 by omega)
      have G5 := hide (show wo.heap.size < wo.heap.size + 1 by omega)
      go_upto_region 6 with fail
      obtain ⟨g5, hg5⟩ : ∃ g, g = wo.heap.size := ⟨_, rfl⟩
      rw [← hg5] at X5 ⊢
      replace HG5 := hide (show wo.heap.size ≤ g5 by omega)
      replace HO5 := hide (show wo.heap.size ≤ g5 + 1 by omega)
      replace G5 := hide (show g5 < g5 + 1 by omega)
      clear hg5 x0 x1 x2 x3 s0 s1
      obtain ⟨B5, hB5⟩ : ∃ B, B = g5 + 1 := ⟨_, rfl⟩
      rw [← hB5] at HO5 G5
      have HBG := hide hB5
      clear hB5
      generalize wo.alloc (.cells #[.bool lv, .slice none 0 0] 62) = w5 at *
      go_wp2
      go_loopw [6] (fun q wr => ∃ (j : Nat) (PA : Option Addr) (cP : Nat), j ≤ n ∧ q = .int .i64 j ∧ Hid (wr.ownsRow B5 64 2 (.slice PA j cP) j (pcs (Ls.take j))) ∧ Hid (Box wr g5 62 #[.bool lv, .slice PA j cP]) ∧ Hid (Box wr g1 28 #[.int .i64 M.sz, .slice (some ⟨b1, o1, none⟩) M.sp.length cs, .slice Af M.fr.length cf, .int .i64 M.cp]) ∧ Hid (Below wo.heap.size wo wr) ∧ Hid (Below w.heap.size w wr)) (fun q _ => n - (intOf q).toNat)
      case atStart => exact ⟨0, none, 0, Nat.zero_le _, rfl, hide ⟨rfl, .inl ⟨rfl, rfl⟩⟩, X5, X1a, KO, Ka⟩
      case round =>
        clear X5 X1a KO Ka
        obtain ⟨j, PA, cP, hj, rfl, PR, X5a, X1, KO, K⟩ := hrel
        obtain ⟨x0, x1, x2, x3⟩ := box4 X1.out
        have s1 := (KO.out.cell (p := ⟨b1, o1 + i * 2 + 1, none⟩) B1O.out).trans S1.out
        by_cases hjl : j < n
        · have hj2 : (j : Int) < (n : Int) := by omega
          have hj0 : (0 : Int) ≤ (j : Int) := by omega
          obtain ⟨b2, o2, rfl, hb2, p0, p1⟩ := R1.out.cells KO.out (by rw [HN.out]; exact hjl)
          have B2O := hide hb2
          have PS := hide (show pcs (Ls.take (j + 1)) = pcs (Ls.take j) ++ [.int .i64 (pAt Ls j).1, .bool (pAt Ls j).2] by rw [pAt_snoc (by rw [HN.out]; exact hjl), pcs_snoc])
          generalize (pAt Ls j).1 = pf at *
          generalize (pAt Ls j).2 = pw at *
          have HB5 := hide (show B5 ≤ wr.heap.size by have := X5a.out.lt; have := HBG.out; omega)
          clear x0 x2 x3
          go_upto_region 9 with fail
          generalize wr = w3 at *
          have CZ := hide (show ∀ w', Below wo.heap.size w3 w' → w'.cell? ⟨g1, 1, none⟩ = some (.slice (some ⟨b1, o1, none⟩) M.sp.length cs) ∧ w'.cell? ⟨b1, o1 + i * 2 + 1, none⟩ = some (.slice (some ⟨b2, o2, none⟩) n c1) ∧ w'.cell? ⟨b2, o2 + j * 2, none⟩ = some (.int .i64 pf) ∧ w'.cell? ⟨b2, o2 + j * 2 + 1, none⟩ = some (.bool pw) from fun w' hb => ⟨(hb.cell (p := ⟨g1, 1, none⟩) G1O.out).trans x1, (hb.cell (p := ⟨b1, _, none⟩) B1O.out).trans s1, (hb.cell (p := ⟨b2, _, none⟩) B2O.out).trans p0, (hb.cell (p := ⟨b2, _, none⟩) B2O.out).trans p1⟩)
          have CE := hide (show ∀ w', Below B5 w3 w' → w'.cell? ⟨g1, 1, none⟩ = some (.slice (some ⟨b1, o1, none⟩) M.sp.length cs) ∧ w'.cell? ⟨b1, o1 + i * 2 + 1, none⟩ = some (.slice (some ⟨b2, o2, none⟩) n c1) ∧ w'.cell? ⟨b2, o2 + j * 2, none⟩ = some (.int .i64 pf) ∧ w'.cell? ⟨b2, o2 + j * 2 + 1, none⟩ = some (.bool pw) from fun w' hb => CZ.out w' (hb.mono HO5.out))
          clear x1 s1 p0 p1
          refine wp_region_noPanic ?_
          refine wp_region_held_drew (S := (fun w => w.cell? ⟨g1, 1, none⟩ = some (.slice (some ⟨b1, o1, none⟩) M.sp.length cs) ∧ w.cell? ⟨b1, o1 + i * 2 + 1, none⟩ = some (.slice (some ⟨b2, o2, none⟩) n c1) ∧ w.cell? ⟨b2, o2 + j * 2, none⟩ = some (.int .i64 pf) ∧ w.cell? ⟨b2, o2 + j * 2 + 1, none⟩ = some (.bool pw))) (by kernel_rfl) ?_ (fun hHeld => ?_)
          · exact CE.out _ (below_drewN (Below.refl B5 w3) 1)
          have KK := hide (below_drewN (Below.refl B5 w3) 1)
          change Hid (Below B5 w3 w3.drew) at KK
          have OP := hide (show w3.drew.ownsRow B5 64 2 (.slice PA j cP) j (pcs (Ls.take j)) from PR.out)
          generalize w3.drew = v0 at *
          refine wpAnyH_take (i := 0) (oi := ⟨some 38, _, _, _, _, _⟩) (v := ?_) rfl (by kernel_rfl) (by kernel_rfl) (by kernel_rfl) (fun _ _ _ h => h) (Or.inl ⟨by kernel_rfl, ?_⟩) (by assumption) ?_
          rotate_left 1
          · (intro w hSw; (try dsimp only at hSw); go_simp) <;> (with_reducible rfl)
          (try simp only [Act.put, List.setIfInBounds_toArray, List.set_cons_succ, List.set_cons_zero])
          refine wpAnyH_take (i := 2) (oi := ⟨some 40, _, _, _, _, _⟩) (v := ?_) rfl (by kernel_rfl) (by kernel_rfl) (by kernel_rfl) (fun _ _ _ h => h) (Or.inl ⟨by kernel_rfl, ?_⟩) (by assumption) ?_
          rotate_left 1
          · (intro w hSw; (try dsimp only at hSw); go_simp) <;> (with_reducible rfl)
          (try simp only [Act.put, List.setIfInBounds_toArray, List.set_cons_succ, List.set_cons_zero])
          refine wpAnyH_take (i := 3) (oi := ⟨some 41, _, _, _, _, _⟩) (v := ?_) rfl (by kernel_rfl) (by kernel_rfl) (by kernel_rfl) (fun _ _ _ h => h) (Or.inl ⟨by kernel_rfl, ?_⟩) (by assumption) ?_
          rotate_left 1
          · (intro w hSw; (try dsimp only at hSw); go_simp) <;> (with_reducible rfl)
          (try simp only [Act.put, List.setIfInBounds_toArray, List.set_cons_succ, List.set_cons_zero])
          refine wpAnyH_take (i := 4) (oi := ⟨some 42, _, _, _, _, _⟩) (v := ?_) rfl (by kernel_rfl) (by kernel_rfl) (by kernel_rfl) (fun _ _ _ h => h) (Or.inl ⟨by kernel_rfl, ?_⟩) (by assumption) ?_
          rotate_left 1
          · (intro w hSw; (try dsimp only at hSw); go_simp) <;> (with_reducible rfl)
          (try simp only [Act.put, List.setIfInBounds_toArray, List.set_cons_succ, List.set_cons_zero])
          refine wpAnyH_take (i := 5) (oi := ⟨some 43, _, _, _, _, _⟩) (v := ?_) rfl (by kernel_rfl) (by kernel_rfl) (by kernel_rfl) (fun _ _ _ h => h) (Or.inl ⟨by kernel_rfl, ?_⟩) (by assumption) ?_
          rotate_left 1
          · (intro w hSw; (try dsimp only at hSw); go_simp) <;> (with_reducible rfl)
          (try simp only [Act.put, List.setIfInBounds_toArray, List.set_cons_succ, List.set_cons_zero])
          refine wpAnyH_take (i := 6) (oi := ⟨some 44, _, _, _, _, _⟩) (v := ?_) rfl (by kernel_rfl) (by kernel_rfl) (by kernel_rfl) (fun _ _ _ h => h) (Or.inl ⟨by kernel_rfl, ?_⟩) (by assumption) ?_
          rotate_left 1
          · (intro w hSw; (try dsimp only at hSw); go_simp) <;> (with_reducible rfl)
          (try simp only [Act.put, List.setIfInBounds_toArray, List.set_cons_succ, List.set_cons_zero])
          refine wpAnyH_take (i := 7) (oi := ⟨some 45, _, _, _, _, _⟩) (v := ?_) rfl (by kernel_rfl) (by kernel_rfl) (by kernel_rfl) (fun _ _ _ h => h) (Or.inl ⟨by kernel_rfl, ?_⟩) (by assumption) ?_
          rotate_left 1
          · (intro w hSw; (try dsimp only at hSw); go_simp) <;> (with_reducible rfl)
          (try simp only [Act.put, List.setIfInBounds_toArray, List.set_cons_succ, List.set_cons_zero])
          refine wpAnyH_take (i := 8) (oi := ⟨some 46, _, _, _, _, _⟩) (v := ?_) rfl (by kernel_rfl) (by kernel_rfl) (by kernel_rfl) (fun _ _ _ h => h) (Or.inl ⟨by kernel_rfl, ?_⟩) (by assumption) ?_
          rotate_left 1
          · (intro w hSw; (try dsimp only at hSw); go_simp) <;> (with_reducible rfl)
          (try simp only [Act.put, List.setIfInBounds_toArray, List.set_cons_succ, List.set_cons_zero])
          refine wpAnyH_take (i := 9) (oi := ⟨some 47, _, _, _, _, _⟩) (v := ?_) rfl (by kernel_rfl) (by kernel_rfl) (by kernel_rfl) (fun _ _ _ h => h) (Or.inl ⟨by kernel_rfl, ?_⟩) (by assumption) ?_
          rotate_left 1
          · (intro w hSw; (try dsimp only at hSw); go_simp) <;> (with_reducible rfl)
          (try simp only [Act.put, List.setIfInBounds_toArray, List.set_cons_succ, List.set_cons_zero])
          refine wpAnyH_take (i := 10) (oi := ⟨some 48, _, _, _, _, _⟩) (v := ?_) rfl (by kernel_rfl) (by kernel_rfl) (by kernel_rfl) (fun _ _ _ h => h) (Or.inl ⟨by kernel_rfl, ?_⟩) (by assumption) ?_
          rotate_left 1
          · (intro w hSw; (try dsimp only at hSw); go_simp) <;> (with_reducible rfl)
          (try simp only [Act.put, List.setIfInBounds_toArray, List.set_cons_succ, List.set_cons_zero])
          refine wpAnyH_ready (rs := [1, 11]) (by kernel_rfl) (by simp) ?_
          refine AllReadyH.cons (o := ⟨some 39, _, _, _, _, _⟩) rfl (fun K' hK => ?_) ?_
          · have xl : v0.cell? ⟨g5, 1, none⟩ = some (.slice PA j cP) := Box.cell (show Box v0 g5 62 #[.bool lv, .slice PA j cP] from (KK.out.block g5 G5.out).trans X5a.out) 1
            go_simp
            clear xl
            refine hK.out _ _ ?_ (fun hHeld => ?_)
            · first | exact CE.out _ KK.out | exact CZ.out _ KZ.out
            clear hK K'
            (try simp only [Act.put, List.setIfInBounds_toArray, List.set_cons_succ, List.set_cons_zero])
            refine wpAnyH_ready (rs := [11]) (by kernel_rfl) (by simp) ?_
            refine AllReadyH.cons (o := ⟨some 49, _, _, _, _, _⟩) rfl (fun K' hK => ?_) AllReadyH.nil
            go_simp
            have hb := bal (brefl v0) (.cells #[.int .i64 pf, .bool pw] 64)
            have SZ := hide (show B5 ≤ v0.heap.size from Nat.le_trans HB5.out KK.out.size)
            have NB := hide ((Box.new v0 64 #[.int .i64 pf, .bool pw]))
            replace OP := hide (row_below OP.out hb)
            replace KK := hide (KK.out.trans (hb.mono SZ.out))
            clear hb
            generalize hgb : v0.heap.size = gb at *
            clear hgb
            generalize v0.alloc (.cells #[.int .i64 pf, .bool pw] 64) = v1 at *
            have SB := hide (show B5 ≤ v1.heap.size from Nat.le_trans HB5.out KK.out.size)
            refine hK.out _ _ ?_ (fun hHeld => ?_)
            · first | exact CE.out _ KK.out | exact CZ.out _ KZ.out
            clear hK K'
            (try simp only [Act.put, List.setIfInBounds_toArray, List.set_cons_succ, List.set_cons_zero])
            refine wpAnyH_ready (rs := [12]) (by kernel_rfl) (by simp) ?_
            refine AllReadyH.cons (o := ⟨some 50, _, _, _, _, _⟩) rfl (fun K' hK => ?_) AllReadyH.nil
            refine step_own rfl (.tmp 39) (.tmp 49) 60 rfl B5 64 i64 _ 2 16 Try.underlying60 hi64 hz64 hy64 hx64 rfl (by omega) (.slice PA j cP) j (pcs (Ls.take j)) rfl OP.out ⟨gb, 0, none⟩ 1 1 [.int .i64 pf, .bool pw] rfl rfl (two_at NB.out) (one_two rfl rfl) (by simp only [maxLen]; omega) (by omega) SB.out ?_
            intro v9 v2 hown hg9 _ hat
            obtain ⟨PN, cN, ev, hcN⟩ := row_form hown
            subst ev
            have BG := (Kp.grown OP.out hg9 (Nat.le_refl _) SB.out)
            replace OP := hide hown
            have KG := hide BG
            replace KK := hide (KK.out.trans BG.below)
            have HCN := hide hcN
            clear BG hown hg9 hat hcN
            refine hK.out _ _ ?_ (fun hHeld => ?_)
            · first | exact CE.out _ KK.out | exact CZ.out _ KZ.out
            clear hK K'
            (try simp only [Act.put, List.setIfInBounds_toArray, List.set_cons_succ, List.set_cons_zero])
            refine wpAnyH_take (i := 13) (oi := ⟨some 51, _, _, _, _, _⟩) (v := ?_) rfl (by kernel_rfl) (by kernel_rfl) (by kernel_rfl) (fun _ _ _ h => h) (Or.inl ⟨by kernel_rfl, ?_⟩) (by assumption) ?_
            rotate_left 1
            · (intro w hSw; (try dsimp only at hSw); go_simp) <;> (with_reducible rfl)
            (try simp only [Act.put, List.setIfInBounds_toArray, List.set_cons_succ, List.set_cons_zero])
            refine wpAnyH_ready (rs := [14]) (by kernel_rfl) (by simp) ?_
            refine AllReadyH.cons (o := ⟨none, _, _, _, _, _⟩) rfl (fun K' hK => ?_) AllReadyH.nil
            have X5 := hide (show Box v2 g5 62 #[.bool lv, .slice PA j cP] from (KK.out.block g5 G5.out).trans X5a.out)
            obtain ⟨xc0, xc1⟩ := box2 X5.out
            have xf1 := X5.out.frozen 1
            go_simp
            have X6 := hide (show Box (v2.setCell ⟨g5, 1, none⟩ (.slice PN (j + 1) cN)) g5 62 #[.bool lv, .slice PN (j + 1) cN] by have := X5.out.put 1 (.slice PN (j + 1) cN); simpa using this)
            have OP2 := hide (own_blk OP.out (fun kk hk1 _ => heap_setCell_other v2 ⟨g5, 1, none⟩ kk (.slice PN (j + 1) cN) (show kk ≠ g5 by have := G5.out; omega)))
            have KZ := hide (show Below wo.heap.size w3 (v2.setCell ⟨g5, 1, none⟩ (.slice PN (j + 1) cN)) from (KK.out.mono HO5.out).setCell (p := ⟨g5, 1, none⟩) HG5.out (.slice PN (j + 1) cN))
            clear xc0 xc1 xf1 X5 OP KK KG
            generalize v2.setCell ⟨g5, 1, none⟩ (.slice PN (j + 1) cN) = vz at *
            refine hK.out _ _ ?_ (fun hHeld => ?_)
            · first | exact CE.out _ KK.out | exact CZ.out _ KZ.out
            clear hK K'
            (try simp only [Act.put, List.setIfInBounds_toArray, List.set_cons_succ, List.set_cons_zero])
            refine wpAnyH_done (by kernel_rfl) ?_ _
            refine NoPanic.normal ?_
            replace X1 := hide (show Box vz g1 28 #[.int .i64 M.sz, .slice (some ⟨b1, o1, none⟩) M.sp.length cs, .slice Af M.fr.length cf, .int .i64 M.cp] from (KZ.out.block g1 G1O.out).trans X1.out)
            replace K := hide (K.out.trans (KZ.out.mono HWO.out))
            replace KO := hide (KO.out.trans KZ.out)
            clear KZ CE CZ PR X5a SZ SB NB HCN
            go_wp2
            go_roundw
            case rel => first | exact ⟨j + 1, PN, cN, by omega, by go_num, hide (by have := PS.out; rw [this]; exact OP2.out), X6, X1, KO, K⟩ | ((repeat apply Exists.intro); exact ⟨⟨j + 1, PN, cN, by omega, by go_num, hide (by have := PS.out; rw [this]; exact OP2.out), X6, X1, KO, K⟩, rfl⟩)
            case measure => simp [intOf]; omega
          refine AllReadyH.cons (o := ⟨some 49, _, _, _, _, _⟩) rfl (fun K' hK => ?_) AllReadyH.nil
          go_simp
          have hb := bal (brefl v0) (.cells #[.int .i64 pf, .bool pw] 64)
          have SZ := hide (show B5 ≤ v0.heap.size from Nat.le_trans HB5.out KK.out.size)
          have NB := hide ((Box.new v0 64 #[.int .i64 pf, .bool pw]))
          replace OP := hide (row_below OP.out hb)
          replace KK := hide (KK.out.trans (hb.mono SZ.out))
          clear hb
          generalize hgb : v0.heap.size = gb at *
          clear hgb
          generalize v0.alloc (.cells #[.int .i64 pf, .bool pw] 64) = v1 at *
          have SB := hide (show B5 ≤ v1.heap.size from Nat.le_trans HB5.out KK.out.size)
          refine hK.out _ _ ?_ (fun hHeld => ?_)
          · first | exact CE.out _ KK.out | exact CZ.out _ KZ.out
          clear hK K'
          (try simp only [Act.put, List.setIfInBounds_toArray, List.set_cons_succ, List.set_cons_zero])
          refine wpAnyH_ready (rs := [1]) (by kernel_rfl) (by simp) ?_
          refine AllReadyH.cons (o := ⟨some 39, _, _, _, _, _⟩) rfl (fun K' hK => ?_) AllReadyH.nil
          have xl : v1.cell? ⟨g5, 1, none⟩ = some (.slice PA j cP) := Box.cell (show Box v1 g5 62 #[.bool lv, .slice PA j cP] from (KK.out.block g5 G5.out).trans X5a.out) 1
          go_simp
          clear xl
          refine hK.out _ _ ?_ (fun hHeld => ?_)
          · first | exact CE.out _ KK.out | exact CZ.out _ KZ.out
          clear hK K'
          (try simp only [Act.put, List.setIfInBounds_toArray, List.set_cons_succ, List.set_cons_zero])
          refine wpAnyH_ready (rs := [12]) (by kernel_rfl) (by simp) ?_
          refine AllReadyH.cons (o := ⟨some 50, _, _, _, _, _⟩) rfl (fun K' hK => ?_) AllReadyH.nil
          refine step_own rfl (.tmp 39) (.tmp 49) 60 rfl B5 64 i64 _ 2 16 Try.underlying60 hi64 hz64 hy64 hx64 rfl (by omega) (.slice PA j cP) j (pcs (Ls.take j)) rfl OP.out ⟨gb, 0, none⟩ 1 1 [.int .i64 pf, .bool pw] rfl rfl (two_at NB.out) (one_two rfl rfl) (by simp only [maxLen]; omega) (by omega) SB.out ?_
          intro v9 v2 hown hg9 _ hat
          obtain ⟨PN, cN, ev, hcN⟩ := row_form hown
          subst ev
          have BG := (Kp.grown OP.out hg9 (Nat.le_refl _) SB.out)
          replace OP := hide hown
          have KG := hide BG
          replace KK := hide (KK.out.trans BG.below)
          have HCN := hide hcN
          clear BG hown hg9 hat hcN
          refine hK.out _ _ ?_ (fun hHeld => ?_)
          · first | exact CE.out _ KK.out | exact CZ.out _ KZ.out
          clear hK K'
          (try simp only [Act.put, List.setIfInBounds_toArray, List.set_cons_succ, List.set_cons_zero])
          refine wpAnyH_take (i := 13) (oi := ⟨some 51, _, _, _, _, _⟩) (v := ?_) rfl (by kernel_rfl) (by kernel_rfl) (by kernel_rfl) (fun _ _ _ h => h) (Or.inl ⟨by kernel_rfl, ?_⟩) (by assumption) ?_
          rotate_left 1
          · (intro w hSw; (try dsimp only at hSw); go_simp) <;> (with_reducible rfl)
          (try simp only [Act.put, List.setIfInBounds_toArray, List.set_cons_succ, List.set_cons_zero])
          refine wpAnyH_ready (rs := [14]) (by kernel_rfl) (by simp) ?_
          refine AllReadyH.cons (o := ⟨none, _, _, _, _, _⟩) rfl (fun K' hK => ?_) AllReadyH.nil
          have X5 := hide (show Box v2 g5 62 #[.bool lv, .slice PA j cP] from (KK.out.block g5 G5.out).trans X5a.out)
          obtain ⟨xc0, xc1⟩ := box2 X5.out
          have xf1 := X5.out.frozen 1
          go_simp
          have X6 := hide (show Box (v2.setCell ⟨g5, 1, none⟩ (.slice PN (j + 1) cN)) g5 62 #[.bool lv, .slice PN (j + 1) cN] by have := X5.out.put 1 (.slice PN (j + 1) cN); simpa using this)
          have OP2 := hide (own_blk OP.out (fun kk hk1 _ => heap_setCell_other v2 ⟨g5, 1, none⟩ kk (.slice PN (j + 1) cN) (show kk ≠ g5 by have := G5.out; omega)))
          have KZ := hide (show Below wo.heap.size w3 (v2.setCell ⟨g5, 1, none⟩ (.slice PN (j + 1) cN)) from (KK.out.mono HO5.out).setCell (p := ⟨g5, 1, none⟩) HG5.out (.slice PN (j + 1) cN))
          clear xc0 xc1 xf1 X5 OP KK KG
          generalize v2.setCell ⟨g5, 1, none⟩ (.slice PN (j + 1) cN) = vz at *
          refine hK.out _ _ ?_ (fun hHeld => ?_)
          · first | exact CE.out _ KK.out | exact CZ.out _ KZ.out
          clear hK K'
          (try simp only [Act.put, List.setIfInBounds_toArray, List.set_cons_succ, List.set_cons_zero])
          refine wpAnyH_done (by kernel_rfl) ?_ _
          refine NoPanic.normal ?_
          replace X1 := hide (show Box vz g1 28 #[.int .i64 M.sz, .slice (some ⟨b1, o1, none⟩) M.sp.length cs, .slice Af M.fr.length cf, .int .i64 M.cp] from (KZ.out.block g1 G1O.out).trans X1.out)
          replace K := hide (K.out.trans (KZ.out.mono HWO.out))
          replace KO := hide (KO.out.trans KZ.out)
          clear KZ CE CZ PR X5a SZ SB NB HCN
          go_wp2
          go_roundw
          case rel => first | exact ⟨j + 1, PN, cN, by omega, by go_num, hide (by have := PS.out; rw [this]; exact OP2.out), X6, X1, KO, K⟩ | ((repeat apply Exists.intro); exact ⟨⟨j + 1, PN, cN, by omega, by go_num, hide (by have := PS.out; rw [this]; exact OP2.out), X6, X1, KO, K⟩, rfl⟩)
          case measure => simp [intOf]; omega
        · obtain rfl : n = j := by omega
          have s1' := s1
          obtain ⟨z0, z1⟩ := box2 X5a.out
          have X3b := hide (X3.out.below KO.out)
          have X2b := hide (X2.out.below KO.out)
          obtain ⟨u0, u1, u2, u3⟩ := box4 X3b.out
          have OMb := hide (OM.out.below KO.out)
          have TLn := hide OM.out.tl
          have PB := hide (fun jj (hjj : jj < i) g (hg : (tAt T jj).2.ownBlock = some g) => (World.ownsRow.lt (OM.out.pg jj (by show jj < (M.sp.take i).length; rw [LTK.out]; exact hjj)) g hg).2)
          have HNl := hide (show Ls.take n = Ls by rw [← HN.out, List.take_length])
          rw [HNl.out] at PR
          have M8 := bal (brefl wr) (.cells #[.bool lv, .slice PA n cP] 62)
          have NB := hide (Box.new wr 62 #[.bool lv, .slice PA n cP])
          have SB0 := Nat.le_trans K.out.size M8.size
          have OMc := hide (OMb.out.below M8)
          have OP := hide OMc.out.sp
          dsimp only at OP
          rw [LTK.out] at OP
          have PRc := hide (row_below PR.out M8)
          have X1c := hide (X1.out.below M8)
          have X2c := hide (X2b.out.below M8)
          have X3c := hide (X3b.out.below M8)
          have Kc := hide (btrans K.out M8)
          have SB := hide SB0
          clear M8 SB0 X1 X2b X3b OMb K PR
          go_upto_region 4 with (at_builtin; refine wpList_append_own_at _ rfl (.tmp 53) (.tmp 55) 25 rfl w.heap.size 62 i62 _ 2 32 Try.underlying25 hi62 hz62 hy62 hx62 rfl (by omega) (.slice SA i cS) i (tcs T) rfl OP.out ⟨wr.heap.size, 0, none⟩ 1 1 [.bool lv, .slice PA n cP] rfl rfl (two_at NB.out) (one_two rfl rfl) (by simp only [maxLen]; omega) (by omega) SB.out ?_; intro v9 w9 hown hg9 _ hat; obtain ⟨PN, cN, ev, hcN⟩ := row_form hown; subst ev; have BG := (Kp.grown OP.out hg9 (Nat.le_refl _) SB.out); obtain ⟨xc0, xc1, xc2, xc3⟩ := box4 (Box.kp X3c.out BG (by decide)); have xf1 := (Box.kp X3c.out BG (by decide)).frozen 1)
          have OMd := OMc.out.pushL (lv := lv) (L := Ls) (v1 := .slice PA n cP) (by rw [HN.out]; exact row_mono PRc.out (by have := HWO.out; have := HO5.out; omega)) (fun gg hg jj hjj e2 => by
            have h1 := (World.ownsRow.lt PRc.out gg hg).1
            have h2 := PB jj (by have : jj < (M.sp.take i).length := hjj; rw [LTK.out] at this; exact this) gg e2
            have := HO5.out
            omega) (by dsimp only; rw [LTK.out]; exact hown) BG
          dsimp only at OMd
          rw [← SN.out] at OMd
          have X3d := Box.kp X3c.out BG (by decide)
          have OMe := hide (OMd.kp (Kp.boxset X3d H3.out 1 (.slice PN (i + 1) cN)))
          have X1e := hide ((Box.kp X1c.out BG (by decide)).far N13.out (b := g3) (i := 1) (.slice PN (i + 1) cN))
          have X2e := hide ((Box.kp X2c.out BG (by decide)).far N23.out (b := g3) (i := 1) (.slice PN (i + 1) cN))
          have X3e := hide (show Box (w9.setCell ⟨g3, 1, none⟩ (.slice PN (i + 1) cN)) g3 28 #[.int .i64 M.sz, .slice PN (i + 1) cN, .slice none 0 0, .int .i64 M.cp] by have := X3d.put 1 (.slice PN (i + 1) cN); simpa using this)
          have Ke := hide ((Kc.out.trans BG.below).setCell (p := ⟨g3, 1, none⟩) H3.out (.slice PN (i + 1) cN))
          clear OMd X3d BG hown hg9 hat hcN xc0 xc1 xc2 xc3 xf1 u0 u1 u2 u3 z0 z1
          generalize w9.setCell ⟨g3, 1, none⟩ (.slice PN (i + 1) cN) = wz at *
          go_wp2
          go_roundw
          case rel => first | exact ⟨i + 1, PN, cN, T ++ [(lv, .slice PA n cP)], by omega, by go_num, X1e, X2e, X3e, OMe, Ke⟩ | ((repeat apply Exists.intro); exact ⟨⟨i + 1, PN, cN, T ++ [(lv, .slice PA n cP)], by omega, by go_num, X1e, X2e, X3e, OMe, Ke⟩, rfl⟩)
          case measure => simp [intOf]; omega
    · obtain rfl : M.sp.length = i := by omega
      rw [List.take_length] at OM
      go_wp2
      clear x0 x1 x2 x3
      go_loopw [7] (fun q wr => ∃ (k : Nat) (FA : Option Addr) (cF : Nat), k ≤ M.fr.length ∧ q = .int .i64 k ∧ Hid (Box wr g1 28 #[.int .i64 M.sz, .slice As M.sp.length cs, .slice Af M.fr.length cf, .int .i64 M.cp]) ∧ Hid (Box wr g2 28 #[.int .i64 0, .slice none 0 0, .slice none 0 0, .int .i64 0]) ∧ Hid (Box wr g3 28 #[.int .i64 M.sz, .slice SA M.sp.length cS, .slice FA k cF, .int .i64 M.cp]) ∧ Hid (OwM w.heap.size wr ⟨M.sz, M.sp, M.fr.take k, M.cp⟩ SA cS FA cF T) ∧ Hid (Below w.heap.size w wr)) (fun q _ => M.fr.length - (intOf q).toNat)
      case atStart => exact ⟨0, none, 0, Nat.zero_le _, rfl, X1, X2, X3, hide (by rw [List.take_zero]; exact OM.out), K⟩
      case round =>
        clear X1 X2 X3 OM K
        obtain ⟨k, FA, cF, hk, rfl, X1, X2, X3, OM, K⟩ := hrel
        by_cases hlt : k < M.fr.length
        · have hl2 : (k : Int) < (M.fr.length : Int) := by omega
          have hk0 : (0 : Int) ≤ (k : Int) := by omega
          obtain ⟨b1, o1, rfl, hb1, y0, y1⟩ := IN.out.rf.cells (brefl w) hlt
          have B1O := hide hb1
          have FSN := hide (fAt_snoc hlt)
          have FLN := hide (show (M.fr.take k).length = k by rw [List.length_take]; omega)
          rcases hff : fAt M.fr k with ⟨f0, f1⟩
          rw [hff] at y0 y1 FSN
          dsimp only at y0 y1
          clear hff
          obtain ⟨x0, x1, x2, x3⟩ := box4 X1.out
          go_upto_region 14 with fail
          clear x0 x1 x2 x3
          generalize wr = w3 at *
          refine wp_region_noPanic ?_
          refine wp_region_held_drew (S := (fun w => w.cell? ⟨g1, 2, none⟩ = some (.slice (some ⟨b1, o1, none⟩) M.fr.length cf) ∧ w.cell? ⟨b1, o1 + k * 2, none⟩ = some (.int .i64 f0) ∧ w.cell? ⟨b1, o1 + k * 2 + 1, none⟩ = some (.int .i64 f1))) (by kernel_rfl) ?_ (fun hHeld => ?_)
          · exact ⟨Box.cell (Box.drew X1.out) 2, (K.out.cell (p := ⟨b1, _, none⟩) B1O.out).trans y0, (K.out.cell (p := ⟨b1, _, none⟩) B1O.out).trans y1⟩
          have KK := hide (below_drewN K.out 1)
          change Hid (Below w.heap.size w w3.drew) at KK
          replace X1 := hide X1.out.drew
          replace X2 := hide X2.out.drew
          replace X3 := hide X3.out.drew
          replace OM := hide (OM.out.below (below_drewN (brefl w3) 1))
          change Hid (OwM w.heap.size w3.drew _ _ _ _ _ _) at OM
          generalize w3.drew = v0 at *
          refine wpAnyH_take (i := 0) (oi := ⟨some 65, _, _, _, _, _⟩) (v := ?_) rfl (by kernel_rfl) (by kernel_rfl) (by kernel_rfl) (fun _ _ _ h => h) (Or.inl ⟨by kernel_rfl, ?_⟩) (by assumption) ?_
          rotate_left 1
          · (intro w hSw; (try dsimp only at hSw); go_simp) <;> (with_reducible rfl)
          (try simp only [Act.put, List.setIfInBounds_toArray, List.set_cons_succ, List.set_cons_zero])
          refine wpAnyH_take (i := 2) (oi := ⟨some 67, _, _, _, _, _⟩) (v := ?_) rfl (by kernel_rfl) (by kernel_rfl) (by kernel_rfl) (fun _ _ _ h => h) (Or.inl ⟨by kernel_rfl, ?_⟩) (by assumption) ?_
          rotate_left 1
          · (intro w hSw; (try dsimp only at hSw); go_simp) <;> (with_reducible rfl)
          (try simp only [Act.put, List.setIfInBounds_toArray, List.set_cons_succ, List.set_cons_zero])
          refine wpAnyH_take (i := 3) (oi := ⟨some 68, _, _, _, _, _⟩) (v := ?_) rfl (by kernel_rfl) (by kernel_rfl) (by kernel_rfl) (fun _ _ _ h => h) (Or.inl ⟨by kernel_rfl, ?_⟩) (by assumption) ?_
          rotate_left 1
          · (intro w hSw; (try dsimp only at hSw); go_simp) <;> (with_reducible rfl)
          (try simp only [Act.put, List.setIfInBounds_toArray, List.set_cons_succ, List.set_cons_zero])
          refine wpAnyH_take (i := 4) (oi := ⟨some 69, _, _, _, _, _⟩) (v := ?_) rfl (by kernel_rfl) (by kernel_rfl) (by kernel_rfl) (fun _ _ _ h => h) (Or.inl ⟨by kernel_rfl, ?_⟩) (by assumption) ?_
          rotate_left 1
          · (intro w hSw; (try dsimp only at hSw); go_simp) <;> (with_reducible rfl)
          (try simp only [Act.put, List.setIfInBounds_toArray, List.set_cons_succ, List.set_cons_zero])
          refine wpAnyH_take (i := 5) (oi := ⟨some 70, _, _, _, _, _⟩) (v := ?_) rfl (by kernel_rfl) (by kernel_rfl) (by kernel_rfl) (fun _ _ _ h => h) (Or.inl ⟨by kernel_rfl, ?_⟩) (by assumption) ?_
          rotate_left 1
          · (intro w hSw; (try dsimp only at hSw); go_simp) <;> (with_reducible rfl)
          (try simp only [Act.put, List.setIfInBounds_toArray, List.set_cons_succ, List.set_cons_zero])
          refine wpAnyH_take (i := 6) (oi := ⟨some 71, _, _, _, _, _⟩) (v := ?_) rfl (by kernel_rfl) (by kernel_rfl) (by kernel_rfl) (fun _ _ _ h => h) (Or.inl ⟨by kernel_rfl, ?_⟩) (by assumption) ?_
          rotate_left 1
          · (intro w hSw; (try dsimp only at hSw); go_simp) <;> (with_reducible rfl)
          (try simp only [Act.put, List.setIfInBounds_toArray, List.set_cons_succ, List.set_cons_zero])
          refine wpAnyH_ready (rs := [1, 7]) (by kernel_rfl) (by simp) ?_
          refine AllReadyH.cons (o := ⟨some 66, _, _, _, _, _⟩) rfl (fun K' hK => ?_) ?_
          · obtain ⟨xl0, xl1, xl2, xl3⟩ := box4 X3.out
            go_simp
            clear xl0 xl1 xl2 xl3
            refine hK.out _ _ ?_ (fun hHeld => ?_)
            · exact ⟨Box.cell X1.out 2, (KK.out.cell (p := ⟨b1, _, none⟩) B1O.out).trans y0, (KK.out.cell (p := ⟨b1, _, none⟩) B1O.out).trans y1⟩
            clear hK K'
            (try simp only [Act.put, List.setIfInBounds_toArray, List.set_cons_succ, List.set_cons_zero])
            refine wpAnyH_ready (rs := [7]) (by kernel_rfl) (by simp) ?_
            refine AllReadyH.cons (o := ⟨some 72, _, _, _, _, _⟩) rfl (fun K' hK => ?_) AllReadyH.nil
            go_simp
            have hb := bal (brefl v0) (.cells #[.int .i64 f0, .int .i64 f1] 53)
            have SZ := hide (show w.heap.size ≤ v0.heap.size from KK.out.size)
            have NB := hide (Box.new v0 53 #[.int .i64 f0, .int .i64 f1])
            replace X1 := hide (X1.out.below hb)
            replace X2 := hide (X2.out.below hb)
            replace X3 := hide (X3.out.below hb)
            replace OM := hide (OM.out.below hb)
            replace KK := hide (btrans KK.out hb)
            clear hb
            generalize hgb : v0.heap.size = gb at *
            clear hgb
            generalize v0.alloc (.cells #[.int .i64 f0, .int .i64 f1] 53) = v1 at *
            have SB := hide (show w.heap.size ≤ v1.heap.size from KK.out.size)
            have OP := hide OM.out.fr
            dsimp only at OP
            rw [FLN.out] at OP
            refine hK.out _ _ ?_ (fun hHeld => ?_)
            · exact ⟨Box.cell X1.out 2, (KK.out.cell (p := ⟨b1, _, none⟩) B1O.out).trans y0, (KK.out.cell (p := ⟨b1, _, none⟩) B1O.out).trans y1⟩
            clear hK K'
            (try simp only [Act.put, List.setIfInBounds_toArray, List.set_cons_succ, List.set_cons_zero])
            refine wpAnyH_ready (rs := [8]) (by kernel_rfl) (by simp) ?_
            refine AllReadyH.cons (o := ⟨some 73, _, _, _, _, _⟩) rfl (fun K' hK => ?_) AllReadyH.nil
            refine step_own rfl (.tmp 66) (.tmp 72) 26 rfl w.heap.size 53 i53 _ 2 16 Try.underlying26 hi53 hz53 hy53 hx53 rfl (by omega) (.slice FA k cF) k (fcs (M.fr.take k)) rfl OP.out ⟨gb, 0, none⟩ 1 1 [.int .i64 f0, .int .i64 f1] rfl rfl (two_at NB.out) (one_two rfl rfl) (by simp only [maxLen]; omega) (by omega) SB.out ?_
            intro v9 v2 hown hg9 _ hat
            obtain ⟨PN, cN, ev, hcN⟩ := row_form hown
            subst ev
            have BG := (Kp.grown OP.out hg9 (Nat.le_refl _) SB.out)
            replace OM := hide (OM.out.pushF (f := (f0, f1)) (by rw [FLN.out]; exact hown) BG)
            replace X1 := hide (Box.kp X1.out BG (by decide))
            replace X2 := hide (Box.kp X2.out BG (by decide))
            replace X3 := hide (Box.kp X3.out BG (by decide))
            replace KK := hide (KK.out.trans BG.below)
            clear BG hown hg9 hat hcN OP NB SB SZ
            refine hK.out _ _ ?_ (fun hHeld => ?_)
            · exact ⟨Box.cell X1.out 2, (KK.out.cell (p := ⟨b1, _, none⟩) B1O.out).trans y0, (KK.out.cell (p := ⟨b1, _, none⟩) B1O.out).trans y1⟩
            clear hK K'
            (try simp only [Act.put, List.setIfInBounds_toArray, List.set_cons_succ, List.set_cons_zero])
            refine wpAnyH_take (i := 9) (oi := ⟨some 74, _, _, _, _, _⟩) (v := ?_) rfl (by kernel_rfl) (by kernel_rfl) (by kernel_rfl) (fun _ _ _ h => h) (Or.inl ⟨by kernel_rfl, ?_⟩) (by assumption) ?_
            rotate_left 1
            · (intro w hSw; (try dsimp only at hSw); go_simp) <;> (with_reducible rfl)
            (try simp only [Act.put, List.setIfInBounds_toArray, List.set_cons_succ, List.set_cons_zero])
            refine wpAnyH_ready (rs := [10]) (by kernel_rfl) (by simp) ?_
            refine AllReadyH.cons (o := ⟨none, _, _, _, _, _⟩) rfl (fun K' hK => ?_) AllReadyH.nil
            obtain ⟨xc0, xc1, xc2, xc3⟩ := box4 X3.out
            have xf2 := X3.out.frozen 2
            go_simp
            replace OM := hide (OM.out.kp (Kp.boxset X3.out H3.out 2 (.slice PN (k + 1) cN)))
            replace X1 := hide (X1.out.far (N13.out) (b := g3) (i := 2) (.slice PN (k + 1) cN))
            replace X2 := hide (X2.out.far (N23.out) (b := g3) (i := 2) (.slice PN (k + 1) cN))
            replace X3 := hide (show Box (v2.setCell ⟨g3, 2, none⟩ (.slice PN (k + 1) cN)) g3 28 #[.int .i64 M.sz, .slice SA M.sp.length cS, .slice PN (k + 1) cN, .int .i64 M.cp] by have := X3.out.put 2 (.slice PN (k + 1) cN); simpa using this)
            replace KK := hide (KK.out.setCell (p := ⟨g3, 2, none⟩) H3.out (.slice PN (k + 1) cN))
            clear xc0 xc1 xc2 xc3 xf2
            generalize v2.setCell ⟨g3, 2, none⟩ (.slice PN (k + 1) cN) = vz at *
            refine hK.out _ _ ?_ (fun hHeld => ?_)
            · exact ⟨Box.cell X1.out 2, (KK.out.cell (p := ⟨b1, _, none⟩) B1O.out).trans y0, (KK.out.cell (p := ⟨b1, _, none⟩) B1O.out).trans y1⟩
            clear hK K'
            (try simp only [Act.put, List.setIfInBounds_toArray, List.set_cons_succ, List.set_cons_zero])
            refine wpAnyH_done (by kernel_rfl) ?_ _
            refine NoPanic.normal ?_
            go_wp2
            go_roundw
            case rel => first | exact ⟨k + 1, PN, cN, by omega, by go_num, X1, X2, X3, hide (by rw [FSN.out]; exact OM.out), KK⟩ | ((repeat apply Exists.intro); exact ⟨⟨k + 1, PN, cN, by omega, by go_num, X1, X2, X3, hide (by rw [FSN.out]; exact OM.out), KK⟩, rfl⟩)
            case measure => simp [intOf]; omega
          refine AllReadyH.cons (o := ⟨some 72, _, _, _, _, _⟩) rfl (fun K' hK => ?_) AllReadyH.nil
          go_simp
          have hb := bal (brefl v0) (.cells #[.int .i64 f0, .int .i64 f1] 53)
          have SZ := hide (show w.heap.size ≤ v0.heap.size from KK.out.size)
          have NB := hide (Box.new v0 53 #[.int .i64 f0, .int .i64 f1])
          replace X1 := hide (X1.out.below hb)
          replace X2 := hide (X2.out.below hb)
          replace X3 := hide (X3.out.below hb)
          replace OM := hide (OM.out.below hb)
          replace KK := hide (btrans KK.out hb)
          clear hb
          generalize hgb : v0.heap.size = gb at *
          clear hgb
          generalize v0.alloc (.cells #[.int .i64 f0, .int .i64 f1] 53) = v1 at *
          have SB := hide (show w.heap.size ≤ v1.heap.size from KK.out.size)
          have OP := hide OM.out.fr
          dsimp only at OP
          rw [FLN.out] at OP
          refine hK.out _ _ ?_ (fun hHeld => ?_)
          · exact ⟨Box.cell X1.out 2, (KK.out.cell (p := ⟨b1, _, none⟩) B1O.out).trans y0, (KK.out.cell (p := ⟨b1, _, none⟩) B1O.out).trans y1⟩
          clear hK K'
          (try simp only [Act.put, List.setIfInBounds_toArray, List.set_cons_succ, List.set_cons_zero])
          refine wpAnyH_ready (rs := [1]) (by kernel_rfl) (by simp) ?_
          refine AllReadyH.cons (o := ⟨some 66, _, _, _, _, _⟩) rfl (fun K' hK => ?_) AllReadyH.nil
          obtain ⟨xl0, xl1, xl2, xl3⟩ := box4 X3.out
          go_simp
          clear xl0 xl1 xl2 xl3
          refine hK.out _ _ ?_ (fun hHeld => ?_)
          · exact ⟨Box.cell X1.out 2, (KK.out.cell (p := ⟨b1, _, none⟩) B1O.out).trans y0, (KK.out.cell (p := ⟨b1, _, none⟩) B1O.out).trans y1⟩
          clear hK K'
          (try simp only [Act.put, List.setIfInBounds_toArray, List.set_cons_succ, List.set_cons_zero])
          refine wpAnyH_ready (rs := [8]) (by kernel_rfl) (by simp) ?_
          refine AllReadyH.cons (o := ⟨some 73, _, _, _, _, _⟩) rfl (fun K' hK => ?_) AllReadyH.nil
          refine step_own rfl (.tmp 66) (.tmp 72) 26 rfl w.heap.size 53 i53 _ 2 16 Try.underlying26 hi53 hz53 hy53 hx53 rfl (by omega) (.slice FA k cF) k (fcs (M.fr.take k)) rfl OP.out ⟨gb, 0, none⟩ 1 1 [.int .i64 f0, .int .i64 f1] rfl rfl (two_at NB.out) (one_two rfl rfl) (by simp only [maxLen]; omega) (by omega) SB.out ?_
          intro v9 v2 hown hg9 _ hat
          obtain ⟨PN, cN, ev, hcN⟩ := row_form hown
          subst ev
          have BG := (Kp.grown OP.out hg9 (Nat.le_refl _) SB.out)
          replace OM := hide (OM.out.pushF (f := (f0, f1)) (by rw [FLN.out]; exact hown) BG)
          replace X1 := hide (Box.kp X1.out BG (by decide))
          replace X2 := hide (Box.kp X2.out BG (by decide))
          replace X3 := hide (Box.kp X3.out BG (by decide))
          replace KK := hide (KK.out.trans BG.below)
          clear BG hown hg9 hat hcN OP NB SB SZ
          refine hK.out _ _ ?_ (fun hHeld => ?_)
          · exact ⟨Box.cell X1.out 2, (KK.out.cell (p := ⟨b1, _, none⟩) B1O.out).trans y0, (KK.out.cell (p := ⟨b1, _, none⟩) B1O.out).trans y1⟩
          clear hK K'
          (try simp only [Act.put, List.setIfInBounds_toArray, List.set_cons_succ, List.set_cons_zero])
          refine wpAnyH_take (i := 9) (oi := ⟨some 74, _, _, _, _, _⟩) (v := ?_) rfl (by kernel_rfl) (by kernel_rfl) (by kernel_rfl) (fun _ _ _ h => h) (Or.inl ⟨by kernel_rfl, ?_⟩) (by assumption) ?_
          rotate_left 1
          · (intro w hSw; (try dsimp only at hSw); go_simp) <;> (with_reducible rfl)
          (try simp only [Act.put, List.setIfInBounds_toArray, List.set_cons_succ, List.set_cons_zero])
          refine wpAnyH_ready (rs := [10]) (by kernel_rfl) (by simp) ?_
          refine AllReadyH.cons (o := ⟨none, _, _, _, _, _⟩) rfl (fun K' hK => ?_) AllReadyH.nil
          obtain ⟨xc0, xc1, xc2, xc3⟩ := box4 X3.out
          have xf2 := X3.out.frozen 2
          go_simp
          replace OM := hide (OM.out.kp (Kp.boxset X3.out H3.out 2 (.slice PN (k + 1) cN)))
          replace X1 := hide (X1.out.far (N13.out) (b := g3) (i := 2) (.slice PN (k + 1) cN))
          replace X2 := hide (X2.out.far (N23.out) (b := g3) (i := 2) (.slice PN (k + 1) cN))
          replace X3 := hide (show Box (v2.setCell ⟨g3, 2, none⟩ (.slice PN (k + 1) cN)) g3 28 #[.int .i64 M.sz, .slice SA M.sp.length cS, .slice PN (k + 1) cN, .int .i64 M.cp] by have := X3.out.put 2 (.slice PN (k + 1) cN); simpa using this)
          replace KK := hide (KK.out.setCell (p := ⟨g3, 2, none⟩) H3.out (.slice PN (k + 1) cN))
          clear xc0 xc1 xc2 xc3 xf2
          generalize v2.setCell ⟨g3, 2, none⟩ (.slice PN (k + 1) cN) = vz at *
          refine hK.out _ _ ?_ (fun hHeld => ?_)
          · exact ⟨Box.cell X1.out 2, (KK.out.cell (p := ⟨b1, _, none⟩) B1O.out).trans y0, (KK.out.cell (p := ⟨b1, _, none⟩) B1O.out).trans y1⟩
          clear hK K'
          (try simp only [Act.put, List.setIfInBounds_toArray, List.set_cons_succ, List.set_cons_zero])
          refine wpAnyH_done (by kernel_rfl) ?_ _
          refine NoPanic.normal ?_
          go_wp2
          go_roundw
          case rel => first | exact ⟨k + 1, PN, cN, by omega, by go_num, X1, X2, X3, hide (by rw [FSN.out]; exact OM.out), KK⟩ | ((repeat apply Exists.intro); exact ⟨⟨k + 1, PN, cN, by omega, by go_num, X1, X2, X3, hide (by rw [FSN.out]; exact OM.out), KK⟩, rfl⟩)
          case measure => simp [intOf]; omega
        · obtain rfl : M.fr.length = k := by omega
          rw [List.take_length] at OM
          obtain ⟨x0, x1, x2, x3⟩ := box4 X1.out
          go_upto_region 15 with fail
          clear x0 x1 x2 x3
          obtain ⟨x0, x1, x2, x3⟩ := box4 X3.out
          obtain ⟨q0, q1, q2, q3⟩ := box4 X2.out
          have f0 := X2.out.frozen 0
          have f1 := X2.out.frozen 1
          have f2 := X2.out.frozen 2
          have f3 := X2.out.frozen 3
          go_wp2
          exact ret_c1 Try.results58 rfl rfl (box4s X2.out) ⟨SA, cS, FA, cF, T, rfl, OM.out.kp (kp4 X2.out H2.out _ _ _ _), below4 K.out H2.out _ _ _ _⟩
end Go.Proofs.Ytoogdggiemacjaa.Cw
