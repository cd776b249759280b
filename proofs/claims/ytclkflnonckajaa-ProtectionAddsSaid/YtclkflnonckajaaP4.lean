import Derived.Test.YtclkflnonckajaaQ10
namespace Go.Proofs.Ytclkflnonckajaa.Ac
open Go Go.RowKit
set_option linter.unusedVariables false
set_option linter.unusedSimpArgs false
set_option maxRecDepth 100000 in
set_option maxHeartbeats 16000000 in
theorem law_adds (A : Option Addr) (cp : Nat) (L : List A5) (W : World) (h : AIn W A L cp) : Calls Try.prog 14 #[.slice A L.length cp] W fun e w' => e = .returned (.bool true) ∧ Below W.heap.size W w' := by
  have HR := hide (fun w' (hb : Below W.heap.size W w') => h.rd.below hb)
  have HCP := hide h.cap
  have HN := hide h.len
  have AWK := hide (fun w => awakep_any w)
  have K := hide (brefl W)
  by_cases hc : chE L = 0
  · have HC := hide hc
    have V := hide (vd_of hc)
    have hl1 := V.out.len.1
    have hl8 := V.out.len.2
    obtain ⟨b, off, hA, hbl, _⟩ := h.rd (by intro e; rw [e] at hl1; simp at hl1)
    have RY := hide (show ∀ k, k < L.length → ∀ w', Below W.heap.size W w' → w'.cell? ⟨b, off + k * 5, none⟩ = some (.int .i64 (pa L k)) ∧ w'.cell? ⟨b, off + k * 5 + 1, none⟩ = some (.int .i64 (us L k)) ∧ w'.cell? ⟨b, off + k * 5 + 2, none⟩ = some (.int .i64 (mn L k)) from fun k hk w' hb => by
      obtain ⟨b', off', e, _, y0, y1, y2, _, _⟩ := h.rd.cells hb hk
      rw [hA] at e
      injection e with e
      injection e with e1 e2
      subst e1 e2
      exact ⟨y0, y1, y2⟩)
    have EA := hide (fun w' (hb : Below W.heap.size W w') => eff_any A cp L w' (HR.out _ hb) HCP.out HN.out)
    unfold EfR at EA
    rw [eR_ok hc, rl_len, hc] at EA
    have RC := hide (fun w' (hb : Below W.heap.size W w') => rcheck_any A cp L w' (HR.out _ hb) HN.out)
    rw [hc] at RC
    have EI := hide (fun k (hk : k < L.length) => ef_in V.out L.length (Nat.le_refl _) k hk)
    have CI := hide (fun k (hk : k < L.length) => cl_in V.out hk)
    have UI := hide (fun k (hk : k < L.length) => (V.out.rg k hk).1.1)
    have BD := hide (fun k (hk : k ≤ L.length) (x : Int) => kc_bd (L := L) (x := x) (f := ef L) k (by omega) (fun i hi => by
      have h1 := ef_in V.out L.length (Nat.le_refl _) i (by omega)
      have h2 := (V.out.rg i (by omega)).1.1
      unfold inr at h2 ⊢
      omega))
    have ES := hide (fun x (hx : x < L.length) => ef_sum V.out hx)
    have TP := hide (fun k (h0 : 0 < k) (hk : k < L.length) => V.out.tr.2 k hk h0)
    have E0 := hide (ef_0 (L := L))
    have GE := hide (fun w' (x : Bi w' A []) => x)
    subst hA
    obtain ⟨n, hnn⟩ : ∃ n, n = L.length := ⟨_, rfl⟩
    rw [← hnn] at hl1 hl8 EA RC RY EI CI UI BD ES TP ⊢
    clear h hc HR HCP HN V hnn GE hbl
    go_enter Try.func14, Try.ntmps14
    go_wp2_with fail
    refine (AWK.out _).mono ?_
    rintro e w1 ⟨rfl, hb⟩
    replace K := hide (btrans K.out hb)
    clear hb
    go_wp2_with fail
    refine (RC.out _ K.out).mono ?_
    rintro e w2 ⟨rfl, hb⟩
    replace K := hide (btrans K.out hb)
    clear hb
    go_wp2_with fail
    refine (EA.out _ K.out).mono ?_
    rintro e w3 ⟨A3, c3, rfl, hB, hb⟩
    replace K := hide (btrans K.out hb)
    obtain ⟨b3, off3, hA3, hb3, hc3⟩ := hB (by intro e; have := congrArg List.length e; rw [rl_len] at this; simp at this; omega)
    have GY := hide (show ∀ k, k < n → ∀ w', Below w3.heap.size w3 w' → w'.cell? ⟨b3, off3 + k, none⟩ = some (.int .i64 (ef L k)) from fun k hk w' hb => (hb.cell (p := ⟨b3, off3 + k, none⟩) hb3).trans ((hc3 k (by rw [rl_len]; exact hk)).trans (by rw [rl_at hk])))
    have K3 := hide (brefl w3)
    subst hA3
    clear hb hB hc3 hb3 EA RC
    have g0 := GY.out 0 hl1 _ K3.out
    have y0 := (RY.out 0 hl1 _ K.out).2.1
    rw [E0.out] at g0
    simp only [Nat.zero_mul, Nat.add_zero] at y0 g0
    generalize us L 0 = u0 at y0 g0
    go_upto_region 4 with fail
    go_quiet (fail)
    generalize hwy : World.drewN _ _ = w4
    have hbq : Below w3.heap.size w3 w4 := by rw [← hwy]; exact below_drewN (brefl _) _
    replace K := hide (btrans K.out hbq)
    replace K3 := hide (btrans K3.out hbq)
    clear hwy hbq y0 g0 E0
    obtain ⟨zz, hzz⟩ : ∃ zz : Array Value, zz = madeCells #[.int .i64 0] n := ⟨_, rfl⟩
    have hmk : ∀ w, (Instr.makeSlice 26 (.int .i64 (n : Int)) (.int .i64 (n : Int))).run Try.prog w = .ok (.slice (some ⟨w.heap.size, 0, none⟩) n n) (w.alloc (.cells zz 3)) := fun w => by rw [hzz]; exact makeN w n (by omega)
    have S := hide (show RI (w4.alloc (.cells zz 3)) w4.heap.size n (fun x => kc L (x : Nat) (ef L) 1) by rw [hzz]; exact RI.made w4 n _ (fun x _ => kc_1))
    have M := bal (brefl w4) (.cells zz 3)
    have hgw3 : w3.heap.size ≤ w4.heap.size := K3.out.size
    have hgw : W.heap.size ≤ w4.heap.size := K.out.size
    replace K := hide (btrans K.out M)
    replace K3 := hide (btrans K3.out M)
    clear M hzz
    go_upto_region 7 with fail
    obtain ⟨g, hg⟩ : ∃ g, g = w4.heap.size := ⟨_, rfl⟩
    rw [← hg] at S hgw hgw3 ⊢
    generalize w4.alloc (.cells zz 3) = w5 at *
    clear hmk hg
    go_wp2
    go_loopw [6] (fun c wr => ∃ k : Nat, 1 ≤ k ∧ k ≤ n ∧ c = .int .i64 k ∧ Hid (RI wr g n (fun x => kc L (x : Nat) (ef L) k)) ∧ Hid (Below W.heap.size W wr) ∧ Hid (Below w3.heap.size w3 wr)) (fun c _ => n - (intOf c).toNat)
    case atStart => exact ⟨1, by omega, by omega, rfl, S, K, K3⟩
    case round =>
      clear S K K3
      obtain ⟨k, hk1, hk, rfl, S, K, K3⟩ := hrel
      by_cases hlt : k < n
      · have hl2 : (k : Int) < (n : Int) := by omega
        have hk0 : (0 : Int) ≤ (k : Int) := by omega
        obtain ⟨y0, y1, y2⟩ := RY.out k hlt _ K.out
        have z0 := GY.out k hlt _ K3.out
        obtain ⟨e0, e1, e2⟩ := EI.out k hlt
        replace e2 := e2 (by omega)
        obtain ⟨c0, c1, c2, c3⟩ := CI.out k hlt
        have hpt := TP.out k (by omega) hlt
        obtain ⟨p, hp⟩ := Int.eq_ofNat_of_zero_le (show 0 ≤ pa L k by omega)
        rw [hp] at y0 hpt
        have hpn : p < n := by omega
        have hpn2 : (p : Int) < (n : Int) := by omega
        have hp0 : (0 : Int) ≤ (p : Int) := by omega
        have bd := BD.out k (by omega) (p : Int)
        have SC := hide (show ∀ x, x < n → kc L (x : Nat) (ef L) (k + 1) = if x = p then kc L (p : Nat) (ef L) k + ef L k else kc L (x : Nat) (ef L) k from fun x _ => by
          by_cases e : x = p
          · subst e; rw [if_pos rfl]; exact kc_yes (by omega) hp
          · rw [if_neg e]; show _ + (if _ then _ else _) = _; rw [if_neg (by rw [hp]; omega)]; omega)
        have RK := hide (fun w' hb => RY.out k hlt w' hb)
        rw [hp] at RK
        have GK := hide (fun w' hb => GY.out k hlt w' hb)
        clear hp
        generalize ef L k = e at *
        generalize us L k = u at *
        generalize mn L k = m at *
        generalize cl L k = cc at *
        have em : e ≤ m := by omega
        go_wp2
        go_quiet (fail)
        generalize hwy : World.drewN wr _ = wy
        have hbq : Below wr.heap.size wr wy := by rw [← hwy]; exact below_drewN (brefl _) _
        replace K := hide (btrans K.out hbq)
        replace K3 := hide (btrans K3.out hbq)
        replace S := hide (S.out.below hbq)
        clear hwy hbq y0 y1 y2 z0
        obtain ⟨y0, y1, y2⟩ := RK.out _ K.out
        have z0 := GK.out _ K3.out
        have q0 : wy.cell? ⟨g, p, none⟩ = some (.int .i64 (kc L (p : Nat) (ef L) k)) := S.out.cell hpn
        have f0 := S.out.frozen p
        have S1 := hide (S.out.put p (kc L (p : Nat) (ef L) k + e) (c' := fun x => kc L (x : Nat) (ef L) (k + 1)) (fun x hx => SC.out x hx))
        have K1 := hide (bset K.out (p := ⟨g, p, none⟩) hgw (.int .i64 (kc L (p : Nat) (ef L) k + e)))
        have K31 := hide (bset K3.out (p := ⟨g, p, none⟩) hgw3 (.int .i64 (kc L (p : Nat) (ef L) k + e)))
        have ew : IntKind.i64.wrap (kc L (p : Nat) (ef L) k + e) = kc L (p : Nat) (ef L) k + e := IntWalk.i64_in _ (by omega)
        clear SC RK GK
        generalize kc L (p : Nat) (ef L) k = z at *
        clear y1 y2
        go_upto_region 12 with fail
        go_region
        have S2 := hide (show RI (wy.setCell ⟨g, p, none⟩ (.int .i64 (z + e))).drew g n (fun x => kc L (x : Nat) (ef L) (k + 1)) from S1.out)
        have K2 := hide (show Below W.heap.size W (wy.setCell ⟨g, p, none⟩ (.int .i64 (z + e))).drew from below_drewN K1.out 1)
        have K32 := hide (show Below w3.heap.size w3 (wy.setCell ⟨g, p, none⟩ (.int .i64 (z + e))).drew from below_drewN K31.out 1)
        clear S1 K1 K31 q0 f0 y0 z0 S K K3
        generalize (wy.setCell ⟨g, p, none⟩ (.int .i64 (z + e))).drew = w6 at *
        go_wp2
        go_roundw
        case rel => exact ⟨k + 1, by omega, by omega, by go_num, S2, K2, K32⟩
        case measure => simp [intOf]; omega
      · obtain rfl : k = n := by omega
        have FF := hide (fun (x : Nat) hx => ES.out x hx)
        clear BD CI UI TP RY hk hk1
        go_wp2
        go_loopw [7, 94] (fun _ c wr => ∃ x : Nat, x ≤ k ∧ c = .int .i64 x ∧ Hid (RI wr g k (fun x => kc L (x : Nat) (ef L) k)) ∧ Hid (Below W.heap.size W wr) ∧ Hid (Below w3.heap.size w3 wr)) (fun _ c _ => k - (intOf c).toNat)
        case atStart => exact ⟨0, by omega, rfl, S, K, K3⟩
        case round =>
          clear S K K3
          obtain ⟨x, hx, rfl, S, K, K3⟩ := hrel
          by_cases hlt : x < k
          · have hl2 : (x : Int) < (k : Int) := by omega
            have hk0 : (0 : Int) ≤ (x : Int) := by omega
            have z0 := GY.out x hlt _ K3.out
            have q0 : wr.cell? ⟨g, x, none⟩ = some (.int .i64 (kc L (x : Nat) (ef L) k)) := S.out.cell hlt
            have hle := FF.out x hlt
            obtain ⟨z, hz⟩ : ∃ z, z = kc L (x : Nat) (ef L) k := ⟨_, rfl⟩
            rw [← hz] at q0 hle
            clear hz
            generalize ef L x = e at *
            go_wp2
            go_quiet (fail)
            generalize hwy : World.drewN wr _ = wy
            have hbq : Below wr.heap.size wr wy := by rw [← hwy]; exact below_drewN (brefl _) _
            replace K := hide (btrans K.out hbq)
            replace K3 := hide (btrans K3.out hbq)
            replace S := hide (S.out.below hbq)
            clear hwy hbq z0 q0
            go_wp2
            go_roundw
            case rel => exact ⟨x + 1, by omega, by go_num, S, K, K3⟩
            case measure => simp [intOf]; omega
          · obtain rfl : x = k := by omega
            go_wp2
            go_ret
            exact ⟨rfl, K.out⟩
  · have de : (chE L != 0) = true := by simpa using hc
    have de3 : (chE L == 0) = false := by simpa using hc
    have de4 : ¬ chE L = 0 := hc
    clear hc h
    go_enter Try.func14, Try.ntmps14
    go_wp2_with fail
    refine (AWK.out _).mono ?_
    rintro e w1 ⟨rfl, hb⟩
    replace K := hide (btrans K.out hb)
    clear hb
    go_wp2_with fail
    refine (rcheck_any A cp L _ (HR.out _ K.out) HN.out).mono ?_
    rintro e w2 ⟨rfl, hb⟩
    replace K := hide (btrans K.out hb)
    clear hb
    generalize chE L = ce at *
    go_wp2_with fail
    refine (AWK.out _).mono ?_
    rintro e w3 ⟨rfl, hb⟩
    replace K := hide (btrans K.out hb)
    clear hb
    go_wp2
    go_ret
    exact ⟨rfl, K.out⟩
end Go.Proofs.Ytclkflnonckajaa.Ac
