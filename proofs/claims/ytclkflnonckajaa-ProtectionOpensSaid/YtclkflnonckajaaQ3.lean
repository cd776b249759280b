import Derived.Test.YtclkflnonckajaaQ2
namespace Go.Proofs.Ytclkflnonckajaa.Ac
open Go Go.RowKit
set_option linter.unusedVariables false
set_option linter.unusedSimpArgs false
/-- the guarantees when the children of the accounts below x have theirs -/
def esF (L : List A5) (x : Nat) (c : Nat) : Int := if pa L c < x then ef L c else 0
/-- and those of x, below c0 -/
def etF (L : List A5) (x c0 : Nat) (c : Nat) : Int := if pa L c < x ∨ (pa L c = x ∧ c < c0) then ef L c else 0
theorem et_0 {L : List A5} (V : Vd L) {x : Nat} (c : Nat) (hc : c < L.length) : etF L x (x + 1) c = esF L x c := by
  unfold etF esF
  by_cases h : pa L c < x
  · rw [if_pos (.inl h), if_pos h]
  · have hp := tr_pa V.tr hc
    rw [if_neg (fun g => g.elim h (fun g => by omega)), if_neg h]
theorem et_all {L : List A5} {x : Nat} (c : Nat) (hc : c < L.length) : etF L x L.length c = esF L (x + 1) c := by
  unfold etF esF
  by_cases h : pa L c < (x + 1 : Nat)
  · rw [if_pos h, if_pos (by by_cases g : pa L c < x; exact .inl g; exact .inr ⟨by omega, hc⟩)]
  · rw [if_neg h, if_neg (fun g => g.elim (fun g => h (by omega)) (fun g => h (by omega)))]
theorem et_no {L : List A5} {x k : Nat} (h : pa L k ≠ x) (c : Nat) : etF L x (k + 1) c = etF L x k c := by
  unfold etF
  by_cases g : pa L c < x ∨ (pa L c = x ∧ c < k)
  · rw [if_pos g, if_pos (g.imp_right fun g => ⟨g.1, by omega⟩)]
  · rw [if_neg g, if_neg (fun f => f.elim (fun f => g (.inl f)) (fun f => by
      by_cases e : c = k
      · subst e; exact h f.1
      · exact g (.inr ⟨f.1, by omega⟩)))]
theorem et_yes {L : List A5} {x k : Nat} (h : pa L k = x) (c : Nat) : etF L x (k + 1) c = if c = k then ef L k else etF L x k c := by
  by_cases e : c = k
  · subst e; unfold etF; rw [if_pos rfl, if_pos (.inr ⟨h, by omega⟩)]
  · rw [if_neg e]
    unfold etF
    by_cases g : pa L c < x ∨ (pa L c = x ∧ c < k)
    · rw [if_pos g, if_pos (g.imp_right fun g => ⟨g.1, by omega⟩)]
    · rw [if_neg g, if_neg (fun f => f.elim (fun f => g (.inl f)) (fun f => g (.inr ⟨f.1, by omega⟩)))]
theorem et_x {L : List A5} (V : Vd L) {x k : Nat} (hx : x < L.length) : etF L x k x = ef L x := by
  have := tr_pa V.tr hx
  unfold etF; rw [if_pos (.inl this.2)]
theorem es_end {L : List A5} (V : Vd L) (c : Nat) (hc : c < L.length) : esF L L.length c = ef L c := by
  have := tr_pa V.tr hc
  unfold esF; rw [if_pos (by omega)]
set_option maxRecDepth 100000 in
set_option maxHeartbeats 16000000 in
theorem reff_any (A : Option Addr) (cp : Nat) (L : List A5) (w : World) (hr : As w A L) (hn : L.length ≤ 9223372036854775807) :
    Calls Try.prog 40 #[.slice A L.length cp] w (EfR (eR L) (chE L) w) := by
  unfold EfR
  have CH := hide (rcheck_any A cp L w hr hn)
  by_cases h : chE L = 0
  · have V := hide (vd_of h)
    have HR := hide hr
    have HE := hide h
    rw [h] at CH
    have hl1 := V.out.len.1
    have hl8 := V.out.len.2
    obtain ⟨b0, off0, hA, hbl0, z0, z1, z2, z3, z4⟩ := hr.cells (brefl w) (show 0 < L.length from V.out.len.1)
    rw [Nat.zero_mul, Nat.add_zero] at z1
    have Z1 := hide (show ∀ w', Below w.heap.size w w' → w'.cell? ⟨b0, off0 + 1, none⟩ = some (.int .i64 (us L 0)) from fun w' h => (h.cell (p := ⟨b0, off0 + 1, none⟩) hbl0).trans z1)
    subst hA
    rw [eR_ok h]
    clear hr h z0 z1 z2 z3 z4 hn
    have h0L : 0 < L.length := by omega
    have h0L2 : (0 : Int) < (L.length : Int) := by omega
    go_enter Try.func40, Try.ntmps40
    obtain ⟨n, hnn⟩ : ∃ n, n = L.length := ⟨_, rfl⟩
    rw [← hnn] at h0L h0L2 hl1 hl8 CH ⊢
    have HN := hide hnn
    clear hnn
    go_wp2_with fail
    refine CH.out.mono ?_
    rintro e w0 ⟨rfl, hb⟩
    have K0 := hide hb
    have HW0 := hide hb.size
    clear hb CH
    obtain ⟨zz, hzz⟩ : ∃ zz : Array Value, zz = madeCells #[.int .i64 0] n := ⟨_, rfl⟩
    have hmk : ∀ w, (Instr.makeSlice 26 (.int .i64 (n : Int)) (.int .i64 (n : Int))).run Try.prog w = .ok (.slice (some ⟨w.heap.size, 0, none⟩) n n) (w.alloc (.cells zz 3)) := fun w => by rw [hzz]; exact makeN w n (by omega)
    have S := hide (show RI (w0.alloc (.cells zz 3)) w0.heap.size n (fun _ => 0) by rw [hzz]; exact RI.made w0 n _ (fun x _ => rfl))
    have M := bal (brefl w0) (.cells zz 3)
    replace K0 := hide (btrans K0.out M)
    clear M hzz
    go_upto_region 5 with fail
    obtain ⟨g, hg⟩ : ∃ g, g = w0.heap.size := ⟨_, rfl⟩
    have hgw : w.heap.size ≤ g := by rw [hg]; exact HW0.out
    rw [← hg] at S ⊢
    generalize w0.alloc (.cells zz 3) = W1 at *
    clear hmk hg
    have z1 := Z1.out _ K0.out
    have f0 := S.out.frozen 0
    have c0 : W1.cell? ⟨g, 0, none⟩ = some (.int .i64 0) := S.out.cell h0L
    have S1 := hide (S.out.put 0 (us L 0) (c' := esF L 0) (fun x hx => by
      unfold esF
      by_cases e : x = 0
      · subst e; rw [V.out.tr.1, if_pos rfl, if_pos (by omega), ef_0]
      · have := V.out.tr.2 x (by rw [← HN.out]; exact hx) (by omega)
        rw [if_neg e, if_neg (by omega)]))
    have K1 := hide (K0.out.setCell (p := ⟨g, 0, none⟩) hgw (.int .i64 (us L 0)))
    go_upto_region 6 with fail
    generalize hws : W1.setCell ⟨g, 0, none⟩ (.int .i64 (us L 0)) = W2 at *
    clear hws z1 f0 c0 S K0 Z1
    go_wp2
    go_loopw [6] (fun c wr => ∃ x : Nat, x ≤ n ∧ c = .int .i64 x ∧ Hid (RI wr g n (esF L x)) ∧ Hid (Below w.heap.size w wr)) (fun c _ => n - (intOf c).toNat)
    case atStart => exact ⟨0, Nat.zero_le _, rfl, S1, K1⟩
    case round =>
      clear S1 K1
      obtain ⟨x, hx, rfl, S, K⟩ := hrel
      by_cases hxl : x < n
      · have hxl2 : (x : Int) < (n : Int) := by omega
        have hx0 : (0 : Int) ≤ (x : Int) := by omega
        have hx9 : x < 9 := by omega
        have hxL : x < L.length := by rw [← HN.out]; exact hxl
        have KL := hide (kc_low V.out.tr (x := x) (f := cl L) (x + 1) (Nat.le_refl _) (by omega))
        have BK := hide (fun (k : Nat) (hk : k ≤ n) => kc_bd (L := L) (x := (x : Int)) (f := cl L) k (by omega) (fun i hi => ⟨(cl_in V.out (by rw [← HN.out]; omega)).1, (cl_in V.out (by rw [← HN.out]; omega)).2.2.2⟩))
        have SX := hide S.out
        have KX := hide K.out
        clear S K
        go_wp2
        go_loopw [7, 8] (fun s c wr => ∃ k : Nat, x + 1 ≤ k ∧ k ≤ n ∧ c = .int .i64 k ∧ s = .int .i64 (kc L (x : Int) (cl L) k) ∧ Hid (RI wr g n (esF L x)) ∧ Hid (Below w.heap.size w wr)) (fun _ c _ => n - (intOf c).toNat)
        case atStart => exact ⟨x + 1, Nat.le_refl _, by omega, by go_num, by rw [KL.out], SX, KX⟩
        case round =>
          clear SX KX
          obtain ⟨k, hk1, hk, rfl, rfl, S, K⟩ := hrel
          by_cases hlt : k < n
          · have hl2 : (k : Int) < (n : Int) := by omega
            have hk0 : (0 : Int) ≤ (k : Int) := by omega
            have hkL : k < L.length := by rw [← HN.out]; exact hlt
            obtain ⟨b, off, eA, hbl, y0, y1, y2, y3, y4⟩ := HR.out.cells K.out hkL
            injection eA with eA
            injection eA with e1 e2
            subst e1 e2
            have bk := BK.out k (by omega)
            have kr := V.out.rg k hkL
            unfold inr at kr
            clear y3 y4
            by_cases he : pa L k = x
            · have E := hide (kc_yes (f := cl L) (by omega) he)
              have ECL := hide (show cl L k = min (mn L k) (us L k) from rfl)
              rw [he] at y0
              clear he
              obtain ⟨⟨⟨u1, u2⟩, m1, m2⟩, _⟩ := kr
              generalize us L k = u at *
              generalize mn L k = m at *
              generalize hs : kc L (x : Int) (cl L) k = s at *
              obtain ⟨bk1, bk2⟩ := bk
              clear hs
              by_cases hmu : u < m
              · have E2 := hide (show s + u = kc L (x : Int) (cl L) (k + 1) by rw [E.out, ECL.out]; omega)
                have ew : IntKind.i64.wrap (s + u) = s + u := IntWalk.i64_in _ (by omega)
                clear E ECL
                go_wp2
                go_quiet (fail)
                generalize hwy : World.drewN wr _ = wy
                have hbq : Below wr.heap.size wr wy := by rw [← hwy]; exact below_drewN (brefl _) _
                replace K := hide (btrans K.out hbq)
                replace S := hide (S.out.below hbq)
                clear hwy hbq y1 y2
                go_wp2
                go_roundw
                case rel => exact ⟨k + 1, by omega, by omega, by go_num, by rw [E2.out], S, K⟩
                case measure => simp [intOf]; omega
              · have E2 := hide (show s + m = kc L (x : Int) (cl L) (k + 1) by rw [E.out, ECL.out]; omega)
                have ew : IntKind.i64.wrap (s + m) = s + m := IntWalk.i64_in _ (by omega)
                have hmu2 : m ≤ u := by omega
                clear E ECL
                go_wp2
                go_quiet (fail)
                generalize hwy : World.drewN wr _ = wy
                have hbq : Below wr.heap.size wr wy := by rw [← hwy]; exact below_drewN (brefl _) _
                replace K := hide (btrans K.out hbq)
                replace S := hide (S.out.below hbq)
                clear hwy hbq y1 y2
                go_wp2
                go_roundw
                case rel => exact ⟨k + 1, by omega, by omega, by go_num, by rw [E2.out], S, K⟩
                case measure => simp [intOf]; omega
            · have E := hide (kc_no (f := cl L) he)
              have de : (pa L k == (x : Int)) = false := by simpa using he
              clear he kr
              generalize pa L k = p at *
              generalize kc L (x : Int) (cl L) k = s at *
              go_wp2
              go_roundw
              case rel => exact ⟨k + 1, by omega, by omega, by go_num, by rw [E.out], S, K⟩
              case measure => simp [intOf]; omega
          · obtain rfl : n = k := by omega
            have TC := hide (show kc L (x : Int) (cl L) n = cs L (x : Int) by unfold cs; rw [← HN.out])
            have SX := hide (S.out.congr (c' := etF L x (x + 1)) fun c hc => (et_0 V.out c (by rw [← HN.out]; exact hc)).symm)
            have KX := hide K.out
            have sb := cs_in V.out (x : Int)
            have eb := ef_in V.out L.length (Nat.le_refl _) x hxL
            have ub := (V.out.rg x hxL).1.1
            unfold inr at ub
            have eb1 : 0 ≤ ef L x := eb.1
            have eb2 : ef L x ≤ 1048576 := by omega
            obtain ⟨s, hs⟩ : ∃ s, s = cs L (x : Int) := ⟨_, rfl⟩
            rw [TC.out, ← hs]
            rw [← hs] at sb
            have HS := hide hs
            clear S K BK KL TC eb ub hk1 hk hlt hs
            obtain ⟨sb1, sb2⟩ := sb
            go_wp2
            go_loopw [9] (fun c wr => ∃ k : Nat, x + 1 ≤ k ∧ k ≤ n ∧ c = .int .i64 k ∧ Hid (RI wr g n (etF L x k)) ∧ Hid (Below w.heap.size w wr)) (fun c _ => n - (intOf c).toNat)
            case atStart => exact ⟨x + 1, Nat.le_refl _, by omega, by go_num, SX, KX⟩
            case round =>
              clear SX KX
              obtain ⟨k, hk1, hk, rfl, S, K⟩ := hrel
              by_cases hlt : k < n
              · have hl2 : (k : Int) < (n : Int) := by omega
                have hk0 : (0 : Int) ≤ (k : Int) := by omega
                have hkL : k < L.length := by rw [← HN.out]; exact hlt
                obtain ⟨b, off, eA, hbl, y0, y1, y2, y3, y4⟩ := HR.out.cells K.out hkL
                injection eA with eA
                injection eA with e1 e2
                subst e1 e2
                clear y3 y4
                by_cases he : pa L k = x
                · have FE := hide (ef_k V.out.tr V.out.len.2 hkL (by omega))
                  rw [he, Int.toNat_natCast, ← HS.out] at FE
                  have EY := hide (fun c => et_yes he c)
                  have ex := hide (et_x (L := L) V.out (x := x) (k := k) hxL)
                  have cb := cl_in V.out hkL
                  have ECL := hide (show cl L k = min (mn L k) (us L k) from rfl)
                  have kr := V.out.rg k hkL
                  unfold inr at kr
                  obtain ⟨⟨⟨u1, u2⟩, m1, m2⟩, _⟩ := kr
                  rw [he] at y0
                  clear he
                  have hkx : x ≠ k := by omega
                  have ck : wr.cell? ⟨g, k, none⟩ = some (.int .i64 (etF L x k k)) := S.out.cell hlt
                  have fk := S.out.frozen k
                  have S2 := hide (S.out.put k (cl L k) (c' := fun c => if c = k then cl L k else etF L x k c) (fun c _ => rfl))
                  have K2 := hide (K.out.setCell (p := ⟨g, k, none⟩) hgw (.int .i64 (cl L k)))
                  obtain ⟨cb1, _, _, cb2⟩ := cb
                  generalize us L k = u at *
                  generalize mn L k = m at *
                  generalize cl L k = c at *
                  generalize etF L x k k = z at *
                  have GO : ∀ w2, Hid (RI w2 g n (fun j => if j = k then c else etF L x k j)) → Hid (Below w.heap.size w w2) → True := fun _ _ _ => trivial
                  clear GO S K
                  by_cases hmu : u < m
                  · obtain rfl : c = u := by have := ECL.out; omega
                    go_wp2
                    go_region
                    have S3 := hide (show RI (wr.setCell ⟨g, k, none⟩ (.int .i64 c)).drew g n (fun j => if j = k then c else etF L x k j) from S2.out)
                    have K3 := hide (show Below w.heap.size w (wr.setCell ⟨g, k, none⟩ (.int .i64 c)).drew from below_drewN K2.out 1)
                    clear S2 K2 ck fk y0 y1 y2
                    generalize (wr.setCell ⟨g, k, none⟩ (.int .i64 c)).drew = w2 at *
                    have cx : w2.cell? ⟨g, x, none⟩ = some (.int .i64 (ef L x)) := by
                      have := S3.out.cell hxl
                      rw [this]
                      simp only
                      rw [if_neg hkx, ex.out]
                    have ck : w2.cell? ⟨g, k, none⟩ = some (.int .i64 c) := by
                      have := S3.out.cell hlt
                      rw [this]
                      simp
                    have fk := S3.out.frozen k
                    by_cases hc : ef L x < s
                    · have FE2 := hide (FE.out.trans (if_pos hc))
                      have pm1 : 0 ≤ c * ef L x := Int.mul_nonneg cb1 eb1
                      have pm2 : c * ef L x ≤ 1099511627776 := by
                        have h1 : c * ef L x ≤ c * 1048576 := Int.mul_le_mul_of_nonneg_left eb2 cb1
                        omega
                      have sp : 0 < s := by omega
                      have S4 := hide (S3.out.put k (c * ef L x / s) (c' := etF L x (k + 1)) (fun j _ => by
                        rw [EY.out j, FE2.out]
                        by_cases e : j = k
                        · rw [if_pos e, if_pos e]
                        · rw [if_neg e, if_neg e, if_neg e]))
                      have K4 := hide (K3.out.setCell (p := ⟨g, k, none⟩) hgw (.int .i64 (c * ef L x / s)))
                      have ew : IntKind.i64.wrap (c * ef L x) = c * ef L x := IntWalk.i64_in _ (by omega)
                      clear FE FE2 EY ex S3 K3
                      generalize ef L x = gx at *
                      go_wp2
                      go_region
                      have S5 := hide (show RI (w2.setCell ⟨g, k, none⟩ (.int .i64 (c * gx / s))).drew g n (etF L x (k + 1)) from S4.out)
                      have K5 := hide (show Below w.heap.size w (w2.setCell ⟨g, k, none⟩ (.int .i64 (c * gx / s))).drew from below_drewN K4.out 1)
                      clear S4 K4 ck fk cx
                      generalize (w2.setCell ⟨g, k, none⟩ (.int .i64 (c * gx / s))).drew = w5 at *
                      go_wp2
                      go_roundw
                      case rel => exact ⟨k + 1, by omega, by omega, by go_num, S5, K5⟩
                      case measure => simp [intOf]; omega
                    · have FE2 := hide (FE.out.trans (if_neg hc))
                      have S4 := hide (S3.out.congr (c' := etF L x (k + 1)) fun j _ => by
                        rw [EY.out j, FE2.out])
                      clear FE FE2 EY ex S3
                      generalize ef L x = gx at *
                      go_wp2
                      go_roundw
                      case rel => first | exact ⟨k + 1, by omega, by omega, by go_num, S4, K3⟩ | ((repeat apply Exists.intro); exact ⟨⟨k + 1, by omega, by omega, by go_num, S4, K3⟩, rfl⟩) | exact ⟨⟨k + 1, by omega, by omega, by go_num, S4⟩, K3⟩ | (refine ⟨?_, K3⟩; exact ⟨k + 1, by omega, by omega, by omega, S4⟩)
                      case measure => simp [intOf]; omega
                  · obtain rfl : c = m := by have := ECL.out; omega
                    have hmu2 : c ≤ u := by omega
                    go_wp2
                    go_region
                    have S3 := hide (show RI (wr.setCell ⟨g, k, none⟩ (.int .i64 c)).drew g n (fun j => if j = k then c else etF L x k j) from S2.out)
                    have K3 := hide (show Below w.heap.size w (wr.setCell ⟨g, k, none⟩ (.int .i64 c)).drew from below_drewN K2.out 1)
                    clear S2 K2 ck fk y0 y1 y2
                    generalize (wr.setCell ⟨g, k, none⟩ (.int .i64 c)).drew = w2 at *
                    have cx : w2.cell? ⟨g, x, none⟩ = some (.int .i64 (ef L x)) := by
                      have := S3.out.cell hxl
                      rw [this]
                      simp only
                      rw [if_neg hkx, ex.out]
                    have ck : w2.cell? ⟨g, k, none⟩ = some (.int .i64 c) := by
                      have := S3.out.cell hlt
                      rw [this]
                      simp
                    have fk := S3.out.frozen k
                    by_cases hc : ef L x < s
                    · have FE2 := hide (FE.out.trans (if_pos hc))
                      have pm1 : 0 ≤ c * ef L x := Int.mul_nonneg cb1 eb1
                      have pm2 : c * ef L x ≤ 1099511627776 := by
                        have h1 : c * ef L x ≤ c * 1048576 := Int.mul_le_mul_of_nonneg_left eb2 cb1
                        omega
                      have sp : 0 < s := by omega
                      have S4 := hide (S3.out.put k (c * ef L x / s) (c' := etF L x (k + 1)) (fun j _ => by
                        rw [EY.out j, FE2.out]
                        by_cases e : j = k
                        · rw [if_pos e, if_pos e]
                        · rw [if_neg e, if_neg e, if_neg e]))
                      have K4 := hide (K3.out.setCell (p := ⟨g, k, none⟩) hgw (.int .i64 (c * ef L x / s)))
                      have ew : IntKind.i64.wrap (c * ef L x) = c * ef L x := IntWalk.i64_in _ (by omega)
                      clear FE FE2 EY ex S3 K3
                      generalize ef L x = gx at *
                      go_wp2
                      go_region
                      have S5 := hide (show RI (w2.setCell ⟨g, k, none⟩ (.int .i64 (c * gx / s))).drew g n (etF L x (k + 1)) from S4.out)
                      have K5 := hide (show Below w.heap.size w (w2.setCell ⟨g, k, none⟩ (.int .i64 (c * gx / s))).drew from below_drewN K4.out 1)
                      clear S4 K4 ck fk cx
                      generalize (w2.setCell ⟨g, k, none⟩ (.int .i64 (c * gx / s))).drew = w5 at *
                      go_wp2
                      go_roundw
                      case rel => exact ⟨k + 1, by omega, by omega, by go_num, S5, K5⟩
                      case measure => simp [intOf]; omega
                    · have FE2 := hide (FE.out.trans (if_neg hc))
                      have S4 := hide (S3.out.congr (c' := etF L x (k + 1)) fun j _ => by
                        rw [EY.out j, FE2.out])
                      clear FE FE2 EY ex S3
                      generalize ef L x = gx at *
                      go_wp2
                      go_roundw
                      case rel => first | exact ⟨k + 1, by omega, by omega, by go_num, S4, K3⟩ | ((repeat apply Exists.intro); exact ⟨⟨k + 1, by omega, by omega, by go_num, S4, K3⟩, rfl⟩) | exact ⟨⟨k + 1, by omega, by omega, by go_num, S4⟩, K3⟩ | (refine ⟨?_, K3⟩; exact ⟨k + 1, by omega, by omega, by omega, S4⟩)
                      case measure => simp [intOf]; omega
                · have E := hide (S.out.congr (c' := etF L x (k + 1)) fun c _ => (et_no he c).symm)
                  have de : (pa L k == (x : Int)) = false := by simpa using he
                  clear he S
                  generalize pa L k = p at *
                  go_wp2
                  go_roundw
                  case rel => exact ⟨k + 1, by omega, by omega, by go_num, E, K⟩
                  case measure => simp [intOf]; omega
              · obtain rfl : n = k := by omega
                have S2 := hide (S.out.congr (c' := esF L (x + 1)) fun c hc => by have := et_all (L := L) (x := x) c (by rw [← HN.out]; exact hc); rwa [← HN.out] at this)
                go_wp2
                go_roundw
                case rel => exact ⟨x + 1, by omega, by go_num, S2, K⟩
                case measure => simp [intOf]; omega
      · obtain rfl : x = n := by omega
        have E := hide (show rl x (ef L) = rl x (esF L x) by
          unfold rl
          refine List.map_congr_left fun c hc => ?_
          have hc2 := List.mem_range.1 hc
          have := es_end V.out c (by rw [← HN.out]; exact hc2)
          rw [← HN.out] at this
          exact this.symm)
        go_wp2
        go_ret2
        exact ⟨_, _, ret_si (by rw [E.out, rl_len]) HE.out.symm, by rw [E.out]; exact S.out.bi, K.out⟩
  · have E := hide (eR_no h)
    have de : (chE L != 0) = true := by simpa using h
    clear h hr
    generalize chE L = ce at *
    go_enter Try.func40, Try.ntmps40
    go_wp2_with fail
    refine CH.out.mono ?_
    rintro e w0 ⟨rfl, hb⟩
    have K := hide hb
    clear hb CH
    go_wp2
    go_ret2
    exact ⟨none, 0, ret_si (by rw [E.out]; rfl) rfl, by rw [E.out]; exact Bi.nil _ _, K.out⟩
end Go.Proofs.Ytclkflnonckajaa.Ac
