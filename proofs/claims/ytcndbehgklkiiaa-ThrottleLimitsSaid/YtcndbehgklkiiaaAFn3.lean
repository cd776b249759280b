import Derived.Test.YtcndbehgklkiiaaAFn2
namespace Go.Proofs.Ytcndbehgklkiiaa.Ac
open Go Go.RowKit
set_option linter.unusedVariables false
set_option linter.unusedSimpArgs false
theorem tr_bad {L : List A5} {k : Nat} (h : k + 1 < L.length) (h2 : ¬ (0 ≤ pa L (k + 1) ∧ pa L (k + 1) ≤ k)) : ¬ tr L := fun g => h2 (by have := g.2 (k + 1) h (by omega); omega)
set_option maxRecDepth 100000 in
set_option maxHeartbeats 4000000 in
theorem tree_any (A : Option Addr) (cp : Nat) (L : List A5) (w : World) (hr : As w A L) (h1 : 1 ≤ L.length) (h8 : L.length ≤ 8) (hcp : L.length ≤ cp) :
    Calls Try.prog 48 #[.slice A L.length cp] w fun e w' => e = .returned (.bool (decide (tr L))) ∧ Below w.heap.size w w' := by
  have HR := hide hr
  have K0 := hide (brefl w)
  obtain ⟨b0, off0, hA, hbl0, z0, z1, z2, z3, z4⟩ := hr.cells (brefl w) (show 0 < L.length by omega)
  have Z := hide (show ∀ wr, Below w.heap.size w wr → wr.cell? ⟨b0, off0, none⟩ = some (.int .i64 (pa L 0)) from fun wr hb => by
    have e := (hb.cell (p := ⟨b0, off0 + 0 * 5, none⟩) hbl0).trans z0
    rwa [Nat.zero_mul, Nat.add_zero] at e)
  clear z0 z1 z2 z3 z4 hr
  subst hA
  by_cases h2 : L.length = 1
  · have T := hide (show decide (tr L) = decide (pa L 0 = -1) from decide_eq_decide.2 ⟨fun h => h.1, fun h => ⟨h, fun k hk h0 => by omega⟩⟩)
    have y0 := Z.out w K0.out
    have H2 := hide h2
    have hcp1 : 1 ≤ cp := by omega
    rw [h2]
    clear h2 Z HR h1 h8 hbl0
    rw [T.out]
    by_cases hc : cp = 1
    · clear hcp1
      subst hc
      by_cases he : pa L 0 = -1
      · rw [he] at y0 ⊢
        clear he T H2 hcp
        go_enter Try.func48, Try.ntmps48
        go_wp2
        refine wp_loop_rounds 1 ?_
        rw [rounds_succ]
        go_wp2
        go_ret
        exact ⟨ret_bool (by decide), K0.out⟩
      · have de := decide_eq_false he
        have de2 : (pa L 0 == -1) = false := by simpa using he
        rw [de]
        clear de he T H2 hcp
        generalize pa L 0 = p at *
        go_enter Try.func48, Try.ntmps48
        go_wp2
        refine wp_loop_rounds 1 ?_
        rw [rounds_succ]
        go_wp2
        go_ret
        exact ⟨rfl, K0.out⟩
    · obtain ⟨c, rfl⟩ : ∃ c, cp = c + 2 := ⟨cp - 2, by omega⟩
      clear hcp1
      by_cases he : pa L 0 = -1
      · rw [he] at y0 ⊢
        clear he T H2 hcp hc
        go_enter Try.func48, Try.ntmps48
        go_wp2
        refine wp_loop_rounds 1 ?_
        rw [rounds_succ]
        go_wp2
        go_ret
        exact ⟨ret_bool (by decide), K0.out⟩
      · have de := decide_eq_false he
        have de2 : (pa L 0 == -1) = false := by simpa using he
        rw [de]
        clear de he T H2 hcp hc
        generalize pa L 0 = p at *
        go_enter Try.func48, Try.ntmps48
        go_wp2
        refine wp_loop_rounds 1 ?_
        rw [rounds_succ]
        go_wp2
        go_ret
        exact ⟨rfl, K0.out⟩
  · obtain ⟨c, rfl⟩ : ∃ c, cp = c + 2 := ⟨cp - 2, by omega⟩
    obtain ⟨n, hn⟩ : ∃ n, L.length = n + 1 := ⟨L.length - 1, by omega⟩
    have HN := hide hn
    have hn1 : 1 ≤ n := by omega
    have hn7 : n ≤ 7 := by omega
    rw [hn]
    clear hn h1 h8 h2 hcp
    go_enter Try.func48, Try.ntmps48
    go_wp2
    go_loopw [3, 4, 8] (fun _ _ c wr => ∃ k : Nat, k ≤ n ∧ c = .int .i64 k ∧ Hid (Below w.heap.size w wr) ∧ Hid (∀ j, j < k → 0 ≤ pa L (j + 1) ∧ pa L (j + 1) ≤ j)) (fun _ _ c _ => n - (intOf c).toNat)
    case atStart => exact ⟨0, Nat.zero_le _, rfl, K0, hide (fun j h => by omega)⟩
    case round =>
      clear K0
      obtain ⟨k, hk, rfl, K, N⟩ := hrel
      by_cases hlt : k < n
      · have hl2 : (k : Int) < (n : Int) := by omega
        have hk0 : (0 : Int) ≤ (k : Int) := by omega
        have hk9 : k < 9 := by omega
        have hkn : k + 1 < L.length := by rw [HN.out]; omega
        obtain ⟨b, off, eA, hbl, y0, y1, y2, y3, y4⟩ := HR.out.cells K.out hkn
        injection eA with eA
        injection eA with e1 e2
        subst e1 e2
        have ea : off0 + (k + 1) * 5 = off0 + 5 + k * 5 := by omega
        rw [ea] at y0 y1 y2 y3 y4
        clear ea
        have BAD := hide (fun h => decide_eq_false (tr_bad hkn h))
        have NEXT := hide (fun (h : 0 ≤ pa L (k + 1) ∧ pa L (k + 1) ≤ k) j (hj : j < k + 1) => (if e : j = k then e ▸ h else N.out j (by omega) : 0 ≤ pa L (j + 1) ∧ pa L (j + 1) ≤ j))
        have KB := hide (btrans K.out (bal (brefl wr) (.cells #[.int .i64 (pa L (k + 1)), .int .i64 (us L (k + 1)), .int .i64 (mn L (k + 1)), .int .i64 (lo L (k + 1)), .int .i64 (mx L (k + 1))] 58)))
        clear N hkn
        generalize pa L (k + 1) = p at *
        generalize us L (k + 1) = u at *
        generalize mn L (k + 1) = m at *
        generalize lo L (k + 1) = l at *
        generalize mx L (k + 1) = x at *
        by_cases h1 : p < 0
        · have E := hide (BAD.out (by omega))
          clear BAD NEXT
          go_wp2
          go_ret
          exact ⟨ret_bool E.out.symm, KB.out⟩
        · by_cases h2 : (k : Int) < p
          · have E := hide (BAD.out (by omega))
            clear BAD NEXT
            go_wp2
            go_ret
            exact ⟨ret_bool E.out.symm, KB.out⟩
          · have E := hide (NEXT.out ⟨by omega, by omega⟩)
            clear BAD NEXT
            go_wp2
            go_roundw
            case rel => exact ⟨k + 1, by omega, by go_num, KB, E⟩
            case measure => simp [intOf]; omega
      · obtain rfl : k = n := by omega
        have y0 := Z.out _ K.out
        have T := hide (show decide (tr L) = decide (pa L 0 = -1) from decide_eq_decide.2 ⟨fun h => h.1, fun h => ⟨h, fun k hk h0 => by
          have := N.out (k - 1) (by rw [HN.out] at hk; omega)
          rw [show k - 1 + 1 = k by omega] at this
          omega⟩⟩)
        clear N
        by_cases he : pa L 0 = -1
        · have E := hide (T.out.trans (decide_eq_true he))
          rw [he] at y0
          clear he T
          go_wp2
          go_ret
          exact ⟨ret_bool E.out.symm, K.out⟩
        · have E := hide (T.out.trans (decide_eq_false he))
          have de2 : (pa L 0 == -1) = false := by simpa using he
          clear he T
          generalize pa L 0 = p at y0 de2
          go_wp2
          go_ret
          exact ⟨ret_bool E.out.symm, K.out⟩
/-- own usages behind k rounds -/
def ouF (L : List A5) (k : Nat) (x : Nat) : Int := (if x < k then us L x else 0) - kc L x (us L) k
theorem ou_all (L : List A5) {x : Nat} (h : x < L.length) : ouF L L.length x = own L x := by unfold ouF own; rw [if_pos h]
theorem ou_bd {L : List A5} (h8 : L.length ≤ 8) (hg : rg L) {k x : Nat} (hk : k ≤ L.length) (hx : x < L.length) : -8388608 ≤ ouF L k x ∧ ouF L k x ≤ 1048576 := by
  have b := kc_bd (L := L) (x := (x : Int)) (f := us L) k (by omega) (fun i hi => (hg i (by omega)).1.1)
  have u := (hg x hx).1.1
  unfold inr at u
  unfold ouF
  split <;> omega
def ouM (L : List A5) (k : Nat) (x : Nat) : Int := if x = k then ouF L k k + us L k else ouF L k x
theorem ou_md {L : List A5} (h8 : L.length ≤ 8) (hg : rg L) {k x : Nat} (hk : k < L.length) (hx : x < L.length) : -8388608 ≤ ouM L k x ∧ ouM L k x ≤ 4194304 := by
  have b1 := ou_bd h8 hg (k := k) (x := k) (by omega) hk
  have b2 := ou_bd h8 hg (k := k) (x := x) (by omega) hx
  have u := (hg k hk).1.1
  unfold inr at u
  unfold ouM
  split <;> omega
theorem ou_0 (L : List A5) (x : Nat) : ouF L 1 x = ouM L 0 x := by
  unfold ouM ouF
  rw [kc_1]
  have e : kc L x (us L) 0 = 0 := rfl
  have e2 : kc L (0 : Nat) (us L) 0 = 0 := rfl
  rw [e, e2]
  by_cases h : x = 0
  · rw [if_pos h, if_pos (by omega), if_neg (by omega), h]; omega
  · rw [if_neg h, if_neg (by omega), if_neg (by omega)]
theorem ou_k {L : List A5} {k p : Nat} (h0 : 0 < k) (hp : pa L k = p) (hpk : p < k) (x : Nat) : ouF L (k + 1) x = if x = p then ouM L k p - us L k else ouM L k x := by
  have e : kc L x (us L) (k + 1) = kc L x (us L) k + if p = x then us L k else 0 := by
    show kc L x (us L) k + _ = _
    rw [hp]
    congr 1
    by_cases h : p = x
    · rw [if_pos h, if_pos ⟨h0, by rw [h]⟩]
    · rw [if_neg h, if_neg (fun g => h (by omega))]
  unfold ouM ouF
  rw [e]
  by_cases h1 : x = p
  · subst h1
    rw [if_pos (show x < k + 1 by omega), if_pos rfl, if_pos rfl, if_neg (show ¬ x = k by omega), if_pos hpk]; omega
  · rw [if_neg (show ¬ p = x from fun h => h1 h.symm), if_neg h1]
    by_cases h2 : x = k
    · subst h2
      rw [if_pos (show x < x + 1 by omega), if_pos rfl, if_neg (Nat.lt_irrefl x)]; omega
    · rw [if_neg h2]
      by_cases h3 : x < k
      · rw [if_pos h3, if_pos (show x < k + 1 by omega)]; omega
      · rw [if_neg h3, if_neg (show ¬ x < k + 1 by omega)]; omega
/-- a row is answered -/
def RIR (n : Nat) (c : Nat → Int) (w : World) (e : Ending) (w' : World) : Prop := ∃ g, e = .returned (.slice (some ⟨g, 0, none⟩) n n) ∧ RI w' g n c ∧ w.heap.size ≤ g ∧ Below w.heap.size w w'
set_option maxRecDepth 100000 in
set_option maxHeartbeats 8000000 in
theorem own_any (A : Option Addr) (cp : Nat) (L : List A5) (w : World) (hr : As w A L) (h1 : 1 ≤ L.length) (h8 : L.length ≤ 8) (ht : tr L) (hg : rg L) :
    Calls Try.prog 53 #[.slice A L.length cp] w (RIR L.length (own L) w) := by
  unfold RIR
  have HR := hide hr
  have HT := hide ht
  have HG := hide hg
  have K0 := hide (brefl w)
  clear hr ht hg
  go_enter Try.func53, Try.ntmps53
  obtain ⟨n, hn⟩ : ∃ n, n = L.length := ⟨_, rfl⟩
  rw [← hn] at h1 h8 ⊢
  have HN := hide hn
  clear hn
  obtain ⟨zz, hzz⟩ : ∃ zz : Array Value, zz = madeCells #[.int .i64 0] n := ⟨_, rfl⟩
  have hmk : ∀ w, (Instr.makeSlice 56 (.int .i64 (n : Int)) (.int .i64 (n : Int))).run Try.prog w = .ok (.slice (some ⟨w.heap.size, 0, none⟩) n n) (w.alloc (.cells zz 3)) := fun w => by rw [hzz]; exact makeN w n (by omega)
  have S := hide (show RI (w.alloc (.cells zz 3)) w.heap.size n (ouF L 0) by rw [hzz]; exact RI.made w n _ (fun x _ => by unfold ouF; rw [if_neg (by omega)]; rfl))
  have M := bal (brefl w) (.cells zz 3)
  replace K0 := hide (btrans K0.out M)
  clear M hzz
  go_upto_region 2 with fail
  obtain ⟨g, hg⟩ : ∃ g, g = w.heap.size := ⟨_, rfl⟩
  have HGG := hide hg
  rw [← hg] at S ⊢
  generalize w.alloc (.cells zz 3) = W1 at *
  clear hmk hg
  go_wp2
  go_loopw [4, 5, 11] (fun _ _ c wr => ∃ k : Nat, k ≤ n ∧ c = .int .i64 k ∧ Hid (RI wr g n (ouF L k)) ∧ Hid (Below w.heap.size w wr)) (fun _ _ c _ => n - (intOf c).toNat)
  case atStart => exact ⟨0, Nat.zero_le _, rfl, S, K0⟩
  case round =>
    clear S K0
    obtain ⟨k, hk, rfl, S, K⟩ := hrel
    by_cases hlt : k < n
    · have hl2 : (k : Int) < (n : Int) := by omega
      have hk0 : (0 : Int) ≤ (k : Int) := by omega
      obtain ⟨b, off, rfl, hbl, y0, y1, y2, y3, y4⟩ := HR.out.cells K.out (show k < L.length by rw [← HN.out]; exact hlt)
      have bd := ou_bd (L := L) (by rw [← HN.out]; exact h8) HG.out (k := k) (x := k) (by rw [← HN.out]; omega) (by rw [← HN.out]; omega)
      have ub := (HG.out k (by rw [← HN.out]; omega)).1.1
      unfold inr at ub
      have BM := hide (fun (p : Nat) (hp : p < n) => ou_md (L := L) (by rw [← HN.out]; exact h8) HG.out (k := k) (x := p) (by rw [← HN.out]; exact hlt) (by rw [← HN.out]; exact hp))
      have PW := hide (HT.out.2 k (by rw [← HN.out]; exact hlt))
      have M := bal (brefl wr) (.cells #[.int .i64 (pa L k), .int .i64 (us L k), .int .i64 (mn L k), .int .i64 (lo L k), .int .i64 (mx L k)] 58)
      have X := hide (Box.new wr 58 #[.int .i64 (pa L k), .int .i64 (us L k), .int .i64 (mn L k), .int .i64 (lo L k), .int .i64 (mx L k)])
      have hwg := S.out.lt
      replace S := hide (S.out.below M)
      replace K := hide (btrans K.out M)
      clear M
      go_upto_region 5 with fail
      obtain ⟨q, hq⟩ : ∃ q, q = wr.heap.size := ⟨_, rfl⟩
      rw [← hq] at X hwg ⊢
      generalize wr.alloc (.cells #[.int .i64 (pa L k), .int .i64 (us L k), .int .i64 (mn L k), .int .i64 (lo L k), .int .i64 (mx L k)] 58) = wx at *
      clear hq y0 y1 y2 y3 y4
      have OU0 := hide (fun (h : k = 0) x => (by subst h; exact ou_0 L x : ouF L (k + 1) x = ouM L k x))
      have OUK := hide (fun (p : Nat) (h : 0 < k) (hp : pa L k = p) (h2 : p < k) x => ou_k h hp h2 x)
      have hgq : g ≠ q := by omega
      have x0 := X.out.cell 0
      have x1 := X.out.cell 1
      simp at x0 x1
      have c0 : wx.cell? ⟨g, k, none⟩ = some (.int .i64 (ouF L k k)) := S.out.cell hlt
      have f0 := S.out.frozen k
      have S1 := hide (S.out.put k (ouF L k k + us L k) (c' := ouM L k) (fun x _ => by unfold ouM; by_cases e : x = k <;> simp [e]))
      have X1 := hide (X.out.far (fun e => hgq e.symm) (b := g) (i := k) (.int .i64 (ouF L k k + us L k)))
      have hgw : w.heap.size ≤ g := by rw [← HGG.out]; omega
      have K1 := hide (K.out.setCell (p := ⟨g, k, none⟩) hgw (.int .i64 (ouF L k k + us L k)))
      generalize pa L k = pp at *
      generalize us L k = u at *
      generalize mn L k = m' at *
      generalize lo L k = l' at *
      generalize mx L k = x' at *
      generalize hz : ouF L k k = z at *
      go_region
      have S2 := hide (show RI (wx.setCell ⟨g, k, none⟩ (.int .i64 (z + u))).drew g n (ouM L k) from S1.out)
      have X2 := hide (show Box (wx.setCell ⟨g, k, none⟩ (.int .i64 (z + u))).drew q 58 #[.int .i64 pp, .int .i64 u, .int .i64 m', .int .i64 l', .int .i64 x'] from X1.out)
      have K2 := hide (show Below w.heap.size w (wx.setCell ⟨g, k, none⟩ (.int .i64 (z + u))).drew from below_drewN K1.out 1)
      clear S1 X1 K1 c0 f0 x0 x1 S X K
      generalize (wx.setCell ⟨g, k, none⟩ (.int .i64 (z + u))).drew = w1 at *
      have x0 := X2.out.cell 0
      have x1 := X2.out.cell 1
      simp at x0 x1
      by_cases h0 : k = 0
      · have hkz : ¬ 0 < k := by omega
        have hkz' : ¬ (0 : Int) < (k : Int) := by omega
        have S3 := hide (S2.out.congr fun x _ => (OU0.out h0 x).symm)
        clear h0 OU0 OUK PW
        go_wp2
        go_roundw
        case rel => exact ⟨k + 1, by omega, by go_num, S3, K2⟩
        case measure => simp [intOf]; omega
      · have hkz : 0 < k := by omega
        have hkz' : (0 : Int) < (k : Int) := by omega
        have pw := PW.out hkz
        obtain ⟨p, hp⟩ : ∃ p : Nat, pp = (p : Int) := ⟨pp.toNat, by omega⟩
        have hpk : p < k := by omega
        have hpn : p < n := by omega
        have hpn' : (p : Int) < (n : Int) := by omega
        have hp0 : (0 : Int) ≤ (p : Int) := by omega
        have E := hide (OUK.out p hkz hp hpk)
        have c1 : w1.cell? ⟨g, p, none⟩ = some (.int .i64 (ouM L k p)) := S2.out.cell hpn
        have f1 := S2.out.frozen p
        have bd2 := BM.out p hpn
        have S3 := hide (S2.out.put p (ouM L k p - u) (c' := ouF L (k + 1)) (fun x _ => E.out x))
        have K3 := hide (K2.out.setCell (p := ⟨g, p, none⟩) hgw (.int .i64 (ouM L k p - u)))
        rw [hp] at x0
        clear h0 OU0 OUK PW pw E hp BM
        generalize ouM L k p = y at *
        go_upto_region 7 with fail
        go_region
        have S4 := hide (show RI (w1.setCell ⟨g, p, none⟩ (.int .i64 (y - u))).drew g n (ouF L (k + 1)) from S3.out)
        have K4 := hide (show Below w.heap.size w (w1.setCell ⟨g, p, none⟩ (.int .i64 (y - u))).drew from below_drewN K3.out 1)
        clear S3 K3 S2 X2 K2 c1 f1 x0 x1
        generalize (w1.setCell ⟨g, p, none⟩ (.int .i64 (y - u))).drew = w2 at *
        go_wp2
        go_roundw
        case rel => exact ⟨k + 1, by omega, by go_num, S4, K4⟩
        case measure => simp [intOf]; omega
    · obtain rfl : k = n := by omega
      have S2 := hide (S.out.congr (c' := own L) fun x hx => by rw [HN.out]; exact ou_all L (by rw [← HN.out]; exact hx))
      go_wp2
      go_ret
      exact ⟨g, rfl, S2.out, by rw [HGG.out]; exact Nat.le_refl _, K.out⟩
end Go.Proofs.Ytcndbehgklkiiaa.Ac
