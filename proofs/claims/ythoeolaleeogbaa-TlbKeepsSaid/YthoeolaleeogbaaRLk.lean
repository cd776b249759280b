import Derived.Test.YthoeolaleeogbaaRChk
import Derived.Maps.AppendAt
namespace Go.Proofs.Ythoeolaleeogbaa.Tb
open Go Go.RowKit Go.Proofs.Ythoeolaleeogbaa.Pt
set_option linter.unusedVariables false
theorem step_append_own {P : Program} {w : World} {ops : Array Oper} {o : Oper} {a : Act} {K : Act → World → Prop} {Q : Exit → Act → World → Prop} {E : Prop} (hgd : o.guard = none) (s x : Operand) (t : TypeId)
    (ho : o.op = .call { callee := .builtin .append, args := #[s, x], argTypes := #[t, t] })
    (base : Nat) (e : TypeId) (i : TypeInfo) (z : Value) (size bytes : Nat) (ht : P.underlying t = some (.slice e)) (hi : P.info? e = some i) (hz : i.zero = some z)
    (hsize : i.size = size) (hby : i.bytes = bytes) (hzs : z.cells.size = size) (hsz : 0 < size)
    (v : Value) (n : Nat) (xs : List Value) (hs : a.eval s = v) (hown : w.ownsRow base e size v n xs)
    (ad : Addr) (m c : Nat) (news : List Value) (hx : a.eval x = .slice (some ad) m c) (hl : news.length = m * size) (hnews : ∀ j u, news[j]? = some u → w.cell? (ad.add j) = some u) (h1 : ∀ u ∈ news, u.oneCell' = true)
    (h63 : n + m ≤ maxLen) (hbytes : (n + m) * bytes ≤ 140737488355328) (hbase : base ≤ w.heap.size)
    (h : ∀ v' w', w'.ownsRow base e size v' (n + m) (xs ++ news) → w.grownBy w' v.ownBlock → K (a.put o.dst v') w') :
    if Region.wanted o (yielded ops a.tmps) = true then Oper.wp P o a w K Q else E := by
  have hw : Region.wanted o (yielded ops a.tmps) = true := by simp [Region.wanted, hgd]
  rw [if_pos hw]
  exact wp_append_own w s x t ho base e i z size bytes ht hi hz hsize hby hzs hsz v n xs hs hown ad m c news hx hl hnews h1 h63 hbytes hbase fun v' w' h2 h3 _ => h v' w' h2 h3
theorem rnew_any (size : Int) (w : World) : Calls Try.prog 15 #[.int .i64 size] w (TlbR (if szB size = true then size else 0) [] (if szB size = true then 0 else 1) w) := by
  unfold TlbR
  cases hs : szB size
  · have X := hide (Box.new w 24 #[.int .i64 0, .slice none 0 0])
    unfold szB at hs
    rw [decide_eq_false_iff_not] at hs
    by_cases h1 : size < 1
    · clear hs
      go_enter Try.func15, Try.ntmps15
      go_wp2
      exact ret_tlb2 Try.results15 rfl rfl rfl X.out ⟨none, 0, rfl, own_nil _ _, bal (brefl _) _⟩
    · have h2 : 16 < size := by omega
      clear hs
      go_enter Try.func15, Try.ntmps15
      go_wp2
      exact ret_tlb2 Try.results15 rfl rfl rfl X.out ⟨none, 0, rfl, own_nil _ _, bal (brefl _) _⟩
  · have X := hide (Box.new w 24 #[.int .i64 size, .slice none 0 0])
    unfold szB at hs
    rw [decide_eq_true_eq] at hs
    have h1 : ¬ size < 1 := by omega
    have h2 : ¬ 16 < size := by omega
    clear hs
    go_enter Try.func15, Try.ntmps15
    go_wp2
    exact ret_tlb2 Try.results15 rfl rfl rfl X.out ⟨none, 0, rfl, own_nil _ _, bal (brefl _) _⟩
theorem ok_nonneg {size : Int} {L : List Te} (h : chkT size L = 0) : ∀ o ∈ L, 0 ≤ o.2.1 := fun o ho => (okE_bd ((chkT_ok.1 h).2.2.1 o ho)).2.1.1
set_option maxHeartbeats 2000000 in
theorem rlook_any (size : Int) (A : Option Addr) (L : List Te) (c : Nat) (s p : Int) (w : World) (h : TlbIn w A L c) (hp : inP p) :
    Calls Try.prog 20 #[.agg #[.int .i64 size, .slice A L.length c], .int .i64 s, .int .i64 p] w fun e w' => e = .returned (.tuple #[.int .u64 (lookW size L s p), .bool (lookB size L s p)]) ∧ Below w.heap.size w w' := by
  obtain ⟨W0, hW0⟩ : ∃ W0, W0 = w.alloc (.cells #[.int .i64 size, .slice A L.length c] 24) := ⟨_, rfl⟩
  have K0 := hide (show Below w.heap.size w W0 by rw [hW0]; exact bal (brefl w) _)
  have X0 := hide (show Box W0 w.heap.size 24 #[.int .i64 size, .slice A L.length c] by rw [hW0]; exact Box.new w _ _)
  have T0 := hide (h.below K0.out)
  have C := hide (rcheck_any size A L c W0 T0.out)
  have HW := hide hW0
  have HI := hide h.inw
  by_cases hk : chkT size L = 0
  · rw [hk] at C
    have hn : L.length ≤ 16 := by obtain ⟨a, b, _⟩ := chkT_ok.1 hk; omega
    have HNN := hide (ok_nonneg hk)
    have HLK := hide (show lookT size L s p = L.find? fun e => cov e s p by unfold lookT; rw [if_neg (by simpa using hk)])
    clear hk hW0 h
    go_enter Try.func20, Try.ntmps20
    go_wp2_with fail
    rw [← HW.out]
    refine C.out.mono ?_
    rintro e w1 ⟨rfl, hb1⟩
    have K1 := hide hb1
    clear hb1
    go_wp2
    go_loopw [8] (fun i wr => ∃ k : Nat, k ≤ L.length ∧ i = .int .i64 k ∧ Hid (∀ j, j < k → cov (teAt L j) s p = false) ∧ Hid (Below W0.heap.size W0 wr)) (fun i _ => L.length - (intOf i).toNat)
    case atStart => exact ⟨0, Nat.zero_le _, rfl, hide (fun j hj => absurd hj (Nat.not_lt_zero _)), K1⟩
    case round =>
      obtain ⟨k, hk, rfl, HJ, HB⟩ := hrel
      have x1 := (X0.out.below HB.out).cell 1
      simp at x1
      by_cases hlt : k < L.length
      · obtain ⟨b, off, rfl, hbl, hcs⟩ := T0.out.ts.cells HB.out hlt
        obtain ⟨c0, c1, c2⟩ := hcs k hlt
        have HT := hide (fun (W : World) (hW : Below W0.heap.size W0 W) => show W.cell? ⟨b, off + k * 3 + 2, none⟩ = some (.int .u64 (teAt L k).2.2) by
          obtain ⟨b', off', e, _, hc⟩ := T0.out.ts.cells hW hlt
          injection e with e
          injection e with e1 e2
          subst e1 e2
          exact (hc k hlt).2.2)
        have hk0 : (0 : Int) ≤ (k : Int) := by omega
        have hkl : (k : Int) < (L.length : Int) := by omega
        have CH := hide (fun w => hits_any (teAt L k) s p w (HNN.out _ (teAt_mem hlt)) hp (HI.out _ (teAt_mem hlt)))
        have HN := hide (fun (q : cov (teAt L k) s p = false) => show ∀ j, j < k + 1 → cov (teAt L j) s p = false from fun j hj => by
          by_cases e : j = k
          · rw [e]; exact q
          · exact HJ.out j (by omega))
        unfold tv at CH
        cases hc : cov (teAt L k) s p
        · rw [hc] at CH
          have HN2 := hide (HN.out hc)
          clear hc hcs
          go_wp2_with fail
          refine (CH.out _).mono ?_
          rintro e w2 ⟨rfl, hb2⟩
          have K2 := hide (btrans HB.out hb2)
          clear hb2 x1 c0 c1 c2
          go_wp2
          go_roundw
          case rel => exact ⟨k + 1, by omega, by go_num, HN2, K2⟩
          case measure => simp [intOf]; omega
        · rw [hc] at CH
          have E := hide (show lookW size L s p = (teAt L k).2.2 ∧ lookB size L s p = true by unfold lookW lookB; rw [HLK.out, find_hit hlt hc HJ.out]; exact ⟨rfl, rfl⟩)
          clear hc hcs
          go_wp2_with fail
          refine (CH.out _).mono ?_
          rintro e w2 ⟨rfl, hb2⟩
          have K2 := hide (btrans HB.out hb2)
          have x1 := (X0.out.below K2.out).cell 1
          simp at x1
          clear hb2 c0 c1 c2
          have c2 := HT.out _ K2.out
          go_wp2
          go_ret2
          rw [E.out.1, E.out.2]
          exact ⟨rfl, btrans K0.out K2.out⟩
      · have hkl : ¬ (k : Int) < (L.length : Int) := by omega
        have E := hide (show lookW size L s p = 0 ∧ lookB size L s p = false by unfold lookW lookB; rw [HLK.out, find_miss (fun j hj => HJ.out j (by omega))]; exact ⟨rfl, rfl⟩)
        go_wp2
        go_ret2
        rw [E.out.1, E.out.2]
        exact ⟨rfl, btrans K0.out HB.out⟩
  · have E := hide (show lookW size L s p = 0 ∧ lookB size L s p = false by unfold lookW lookB lookT; rw [if_pos hk]; exact ⟨rfl, rfl⟩)
    have hd : (chkT size L != 0) = true := by simpa using hk
    generalize chkT size L = er at *
    clear hk hW0 h hp
    go_enter Try.func20, Try.ntmps20
    go_wp2_with fail
    rw [← HW.out]
    refine C.out.mono ?_
    rintro e w1 ⟨rfl, hb1⟩
    have K := hide hb1
    clear hb1
    go_wp2
    go_ret2
    rw [E.out.1, E.out.2]
    exact ⟨rfl, btrans K0.out K.out⟩
theorem filter_next {q : Te → Bool} {L : List Te} {k : Nat} (h : k < L.length) : (L.take (k + 1)).filter q = (L.take k).filter q ++ if q (teAt L k) = true then [teAt L k] else [] := by
  rw [take_snoc L h, List.filter_append]
  congr 1
  simp [List.filter_cons]
end Go.Proofs.Ythoeolaleeogbaa.Tb
