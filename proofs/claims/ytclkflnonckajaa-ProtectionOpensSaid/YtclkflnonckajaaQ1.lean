import Derived.Test.YtclkflnonckajaaAw
import Derived.Test.YtclkflnonckajaaMath2
namespace Go.Proofs.Ytclkflnonckajaa.Ac
open Go Go.RowKit
set_option linter.unusedVariables false
set_option linter.unusedSimpArgs false
set_option maxHeartbeats 2000000 in
theorem clm_any (a : A5) (w : World) : Calls Try.prog 72 #[acV a] w fun e w' => e = .returned (.int .i64 (min a.mn a.us)) ∧ Below w.heap.size w w' := by
  obtain ⟨pa, us, mn, lo, mx⟩ := a
  unfold acV
  simp only
  have K := hide (bal (brefl w) (.cells #[.int .i64 pa, .int .i64 us, .int .i64 mn, .int .i64 lo, .int .i64 mx] 42))
  go_enter Try.func72, Try.ntmps72
  go_wp2
  all_goals
    go_ret
    exact ⟨ret_int (by omega), K.out⟩
set_option maxHeartbeats 2000000 in
theorem mnf_any (a : A5) (w : World) : Calls Try.prog 81 #[acV a] w fun e w' => e = .returned (.int .i64 a.mn) ∧ Below w.heap.size w w' := by
  obtain ⟨pa, us, mn, lo, mx⟩ := a
  unfold acV
  simp only
  have K := hide (bal (brefl w) (.cells #[.int .i64 pa, .int .i64 us, .int .i64 mn, .int .i64 lo, .int .i64 mx] 42))
  go_enter Try.func81, Try.ntmps81
  go_wp2
  go_ret
  exact ⟨rfl, K.out⟩
/-- sums over children, behind k rounds over the accounts from 1 on -/
def csF (L : List A5) (f : Nat → Int) (k : Nat) (x : Nat) : Int := kc L (x : Int) f (k + 1)
theorem cs_0 (L : List A5) (f : Nat → Int) (x : Nat) : csF L f 0 x = 0 := kc_1
theorem cs_k {L : List A5} {f : Nat → Int} {k p : Nat} (hp : pa L (k + 1) = p) (x : Nat) : csF L f (k + 1) x = if x = p then csF L f k p + f (k + 1) else csF L f k x := by
  show kc L x f (k + 1) + (if 0 < k + 1 ∧ pa L (k + 1) = x then f (k + 1) else 0) = _
  rw [hp]
  by_cases h : x = p
  · rw [if_pos h, if_pos ⟨by omega, by rw [h]⟩, h]; rfl
  · rw [if_neg h, if_neg (fun g => h (by omega)), Int.add_zero]; rfl
set_option maxRecDepth 100000 in
set_option maxHeartbeats 8000000 in
theorem csclm_any (A : Option Addr) (cp : Nat) (L : List A5) (w : World) (hr : As w A L) (V : Vd L) (hcp : L.length ≤ cp) :
    Calls Try.prog 73 #[.slice A L.length cp, .func (.func 72) #[] #[]] w (RIR L.length (fun x => kc L (x : Nat) (cl L) L.length) w) := by
  unfold RIR
  have HR := hide hr
  have HT := hide V.tr
  have K0 := hide (brefl w)
  have BF := hide (show ∀ i, i < L.length → inr (cl L i) from fun i hi => ⟨(cl_in V hi).1, (cl_in V hi).2.2.2⟩)
  have h1 := V.len.1
  have h8 := V.len.2
  obtain ⟨b0, off0, hA, hbl0, _⟩ := hr.cells (brefl w) (show 0 < L.length by omega)
  subst hA
  have eg : ∀ args w, (callFunc 72 args).run Try.prog w = .ok (.enter 72 args) w := Go.Proofs.enters_of Try.func72 (by kernel_rfl) rfl
  obtain ⟨n, hn⟩ : ∃ n, L.length = n + 1 := ⟨L.length - 1, by omega⟩
  rw [hn] at hcp h8 ⊢
  have HN := hide hn
  clear hn hr V h1
  obtain ⟨zz, hzz⟩ : ∃ zz : Array Value, zz = madeCells #[.int .i64 0] (n + 1) := ⟨_, rfl⟩
  have hmk : ∀ w, (Instr.makeSlice 26 (.int .i64 ((n : Int) + 1)) (.int .i64 ((n : Int) + 1))).run Try.prog w = .ok (.slice (some ⟨w.heap.size, 0, none⟩) (n + 1) (n + 1)) (w.alloc (.cells zz 3)) := fun w => by rw [hzz]; exact makeN w (n + 1) (by omega)
  have S := hide (show RI (w.alloc (.cells zz 3)) w.heap.size (n + 1) (csF L (cl L) 0) by rw [hzz]; exact RI.made w (n + 1) _ (fun x _ => cs_0 L _ x))
  have M := bal (brefl w) (.cells zz 3)
  replace K0 := hide (btrans K0.out M)
  clear M hzz
  have key : ∀ c, n + 1 ≤ c → Calls Try.prog 73 #[.slice (some ⟨b0, off0, none⟩) (n + 1) c, .func (.func 72) #[] #[]] w fun e w' => ∃ g, e = .returned (.slice (some ⟨g, 0, none⟩) (n + 1) (n + 1)) ∧ RI w' g (n + 1) (fun x => kc L (x : Nat) (cl L) (n + 1)) ∧ w.heap.size ≤ g ∧ Below w.heap.size w w' := by
    intro c hc
    by_cases hc1 : c = 1
    · subst hc1
      obtain rfl : n = 0 := by omega
      have hmk1 : ∀ w, (Instr.makeSlice 26 (.int .i64 1) (.int .i64 1)).run Try.prog w = .ok (.slice (some ⟨w.heap.size, 0, none⟩) 1 1) (w.alloc (.cells zz 3)) := fun w => by have := hmk w; simpa using this
      clear hmk
      go_enter Try.func73, Try.ntmps73
      go_upto_region 2 with fail
      obtain ⟨g, hg⟩ : ∃ g, g = w.heap.size := ⟨_, rfl⟩
      have HGG := hide hg
      rw [← hg] at S ⊢
      generalize w.alloc (.cells zz 3) = W1 at *
      clear hmk1 hg
      go_wp2
      refine wp_loop_rounds 1 ?_
      rw [rounds_succ]
      go_wp2
      go_ret
      exact ⟨g, rfl, S.out, by rw [HGG.out]; exact Nat.le_refl _, K0.out⟩
    · obtain ⟨d, rfl⟩ : ∃ d, c = d + 2 := ⟨c - 2, by omega⟩
      go_enter Try.func73, Try.ntmps73
      go_upto_region 2 with fail
      obtain ⟨g, hg⟩ : ∃ g, g = w.heap.size := ⟨_, rfl⟩
      have HGG := hide hg
      rw [← hg] at S ⊢
      generalize w.alloc (.cells zz 3) = W1 at *
      clear hmk hg
      go_wp2
      go_loopw [14] (fun c wr => ∃ k : Nat, k ≤ n ∧ c = .int .i64 k ∧ Hid (RI wr g (n + 1) (csF L (cl L) k)) ∧ Hid (Below w.heap.size w wr)) (fun c _ => n - (intOf c).toNat)
      case atStart => exact ⟨0, Nat.zero_le _, rfl, S, K0⟩
      case round =>
        clear S K0
        obtain ⟨k, hk, rfl, S, K⟩ := hrel
        by_cases hlt : k < n
        · have hl2 : (k : Int) < (n : Int) := by omega
          have hk0 : (0 : Int) ≤ (k : Int) := by omega
          have hkn : k + 1 < L.length := by rw [HN.out]; omega
          obtain ⟨b, off, eA, hbl, y0, y1, y2, y3, y4⟩ := HR.out.cells K.out hkn
          injection eA with eA
          injection eA with e1 e2
          subst e1 e2
          have ea : off0 + (k + 1) * 5 = off0 + 5 + k * 5 := by omega
          rw [ea] at y0 y1 y2 y3 y4
          clear ea
          have hp0 := HT.out.2 (k + 1) hkn (by omega)
          obtain ⟨p, hp⟩ : ∃ p : Nat, pa L (k + 1) = (p : Int) := ⟨(pa L (k + 1)).toNat, by omega⟩
          have hpn : p < n + 1 := by omega
          have hpn2 : (p : Int) < (n : Int) + 1 := by omega
          have hp00 : (0 : Int) ≤ (p : Int) := by omega
          have ST := hide (fun x => cs_k (f := cl L) hp x)
          have bd := kc_bd (L := L) (x := (p : Int)) (f := cl L) (k + 1) (by omega) (fun i hi => BF.out i (by omega))
          have fb := BF.out (k + 1) hkn
          unfold inr at fb
          have CL := hide (fun w => clm_any (aAt L (k + 1)) w)
          have EF := hide (show cl L (k + 1) = min (aAt L (k + 1)).mn (aAt L (k + 1)).us from rfl)
          rw [← EF.out] at CL
          rw [hp] at y0
          clear hp0
          unfold acV at CL
          have ep : (aAt L (k + 1)).pa = (p : Int) := hp
          rw [ep] at CL
          unfold us at y1; unfold mn at y2; unfold lo at y3; unfold mx at y4
          generalize (aAt L (k + 1)).us = u at *
          generalize (aAt L (k + 1)).mn = m' at *
          generalize (aAt L (k + 1)).lo = l' at *
          generalize (aAt L (k + 1)).mx = x' at *
          clear hp ep EF
          have SI := hide (show csF L (cl L) k p = kc L (p : Int) (cl L) (k + 1) from rfl)
          rw [← SI.out] at bd
          generalize hfe : cl L (k + 1) = fe at *
          clear hfe
          have M := bal (brefl wr) (.cells #[.int .i64 (p : Int), .int .i64 u, .int .i64 m', .int .i64 l', .int .i64 x'] 42)
          have X := hide (Box.new wr 42 #[.int .i64 (p : Int), .int .i64 u, .int .i64 m', .int .i64 l', .int .i64 x'])
          have hwg := S.out.lt
          replace S := hide (S.out.below M)
          replace K := hide (btrans K.out M)
          clear M
          go_upto_region 5 with fail
          obtain ⟨q, hq⟩ : ∃ q, q = wr.heap.size := ⟨_, rfl⟩
          rw [← hq] at X hwg ⊢
          generalize wr.alloc (.cells #[.int .i64 (p : Int), .int .i64 u, .int .i64 m', .int .i64 l', .int .i64 x'] 42) = wx at *
          clear hq y0 y1 y2 y3 y4
          have hgq : q ≠ g := by omega
          have hgw : w.heap.size ≤ g := by rw [HGG.out]; exact Nat.le_refl _
          obtain ⟨bd1, bd2⟩ := bd
          obtain ⟨fb1, fb2⟩ := fb
          have ew : IntKind.i64.wrap (csF L (cl L) k p + fe) = csF L (cl L) k p + fe := IntWalk.i64_in _ (by omega)
          have SS := hide (fun w' (h : Below wx.heap.size wx w') => (⟨(X.out.below h).cell 0, (X.out.below h).cell 1, (X.out.below h).cell 2, (X.out.below h).cell 3, (X.out.below h).cell 4⟩ : (fun W' => W'.cell? ⟨q, 0, none⟩ = some (.int .i64 (p : Int)) ∧ W'.cell? ⟨q, 1, none⟩ = some (.int .i64 u) ∧ W'.cell? ⟨q, 2, none⟩ = some (.int .i64 m') ∧ W'.cell? ⟨q, 3, none⟩ = some (.int .i64 l') ∧ W'.cell? ⟨q, 4, none⟩ = some (.int .i64 x')) w'))
          have SR := hide (fun w' (h : Below wx.heap.size wx w') => (show w'.cell? ⟨g, p, none⟩ = some (.int .i64 (csF L (cl L) k p)) from (S.out.below h).cell hpn))
          have SF := hide (fun w' (h : Below wx.heap.size wx w') => (show w'.frozen? ⟨g, p, none⟩ = false from (S.out.below h).frozen p))
          have SW := hide (fun (w' : World) (v : Value) (h : (fun W' => W'.cell? ⟨q, 0, none⟩ = some (.int .i64 (p : Int)) ∧ W'.cell? ⟨q, 1, none⟩ = some (.int .i64 u) ∧ W'.cell? ⟨q, 2, none⟩ = some (.int .i64 m') ∧ W'.cell? ⟨q, 3, none⟩ = some (.int .i64 l') ∧ W'.cell? ⟨q, 4, none⟩ = some (.int .i64 x')) w') => (⟨(cell_far hgq).trans h.1, (cell_far hgq).trans h.2.1, (cell_far hgq).trans h.2.2.1, (cell_far hgq).trans h.2.2.2.1, (cell_far hgq).trans h.2.2.2.2⟩ : (fun W' => W'.cell? ⟨q, 0, none⟩ = some (.int .i64 (p : Int)) ∧ W'.cell? ⟨q, 1, none⟩ = some (.int .i64 u) ∧ W'.cell? ⟨q, 2, none⟩ = some (.int .i64 m') ∧ W'.cell? ⟨q, 3, none⟩ = some (.int .i64 l') ∧ W'.cell? ⟨q, 4, none⟩ = some (.int .i64 x')) (w'.setCell ⟨g, p, none⟩ v)))
          have SFIN := hide (fun w' (h : Below wx.heap.size wx w') => (S.out.below h).put p (csF L (cl L) k p + fe) (c' := csF L (cl L) (k + 1)) (fun x _ => ST.out x))
          have KFIN := hide (fun w' (h : Below wx.heap.size wx w') => (btrans K.out h).setCell (p := ⟨g, p, none⟩) hgw (.int .i64 (csF L (cl L) k p + fe)))
          clear S K X ST
          generalize csF L (cl L) k p = z at *
          have KZ := hide (show Below wx.heap.size wx wx.drew from below_drewN (brefl wx) 1)
          refine wp_region_noPanic ?_
          refine wp_region_held_drew (S := (fun W' => W'.cell? ⟨q, 0, none⟩ = some (.int .i64 (p : Int)) ∧ W'.cell? ⟨q, 1, none⟩ = some (.int .i64 u) ∧ W'.cell? ⟨q, 2, none⟩ = some (.int .i64 m') ∧ W'.cell? ⟨q, 3, none⟩ = some (.int .i64 l') ∧ W'.cell? ⟨q, 4, none⟩ = some (.int .i64 x'))) (by kernel_rfl) ?_ (fun hHeld => ?_)
          · exact SS.out _ KZ.out
          generalize wx.drew = wd at *
          refine wpAnyH_take (i := 0) (oi := ⟨some 18, _, _, _, _, _⟩) (v := ?_) rfl (by kernel_rfl) (by kernel_rfl) (by kernel_rfl) (fun _ _ _ h => h) (Or.inl ⟨by kernel_rfl, ?_⟩) (by assumption) ?_
          rotate_left 1
          · (intro w hSw; (try dsimp only at hSw); go_simp) <;> (with_reducible rfl)
          (try simp only [Act.put, List.setIfInBounds_toArray, List.set_cons_succ, List.set_cons_zero])
          refine wpAnyH_take (i := 1) (oi := ⟨some 19, _, _, _, _, _⟩) (v := ?_) rfl (by kernel_rfl) (by kernel_rfl) (by kernel_rfl) (fun _ _ _ h => h) (Or.inl ⟨by kernel_rfl, ?_⟩) (by assumption) ?_
          rotate_left 1
          · (intro w hSw; (try dsimp only at hSw); go_simp) <;> (with_reducible rfl)
          (try simp only [Act.put, List.setIfInBounds_toArray, List.set_cons_succ, List.set_cons_zero])
          refine wpAnyH_take (i := 2) (oi := ⟨some 20, _, _, _, _, _⟩) (v := ?_) rfl (by kernel_rfl) (by kernel_rfl) (by kernel_rfl) (fun _ _ _ h => h) (Or.inl ⟨by kernel_rfl, ?_⟩) (by assumption) ?_
          rotate_left 1
          · (intro w hSw; (try dsimp only at hSw); go_simp) <;> (with_reducible rfl)
          (try simp only [Act.put, List.setIfInBounds_toArray, List.set_cons_succ, List.set_cons_zero])
          refine wpAnyH_take (i := 3) (oi := ⟨some 21, _, _, _, _, _⟩) (v := ?_) rfl (by kernel_rfl) (by kernel_rfl) (by kernel_rfl) (fun _ _ _ h => h) (Or.inl ⟨by kernel_rfl, ?_⟩) (by assumption) ?_
          rotate_left 1
          · (intro w hSw; (try dsimp only at hSw); go_simp) <;> (with_reducible rfl)
          (try simp only [Act.put, List.setIfInBounds_toArray, List.set_cons_succ, List.set_cons_zero])
          refine wpAnyH_take (i := 5) (oi := ⟨some 23, _, _, _, _, _⟩) (v := ?_) rfl (by kernel_rfl) (by kernel_rfl) (by kernel_rfl) (fun _ _ _ h => h) (Or.inl ⟨by kernel_rfl, ?_⟩) (by assumption) ?_
          rotate_left 1
          · (intro w hSw; (try dsimp only at hSw); go_simp) <;> (with_reducible rfl)
          (try simp only [Act.put, List.setIfInBounds_toArray, List.set_cons_succ, List.set_cons_zero])
          refine wpAnyH_take (i := 6) (oi := ⟨some 24, _, _, _, _, _⟩) (v := ?_) rfl (by kernel_rfl) (by kernel_rfl) (by kernel_rfl) (fun _ _ _ h => h) (Or.inl ⟨by kernel_rfl, ?_⟩) (by assumption) ?_
          rotate_left 1
          · (intro w hSw; (try dsimp only at hSw); go_simp) <;> (with_reducible rfl)
          (try simp only [Act.put, List.setIfInBounds_toArray, List.set_cons_succ, List.set_cons_zero])
          refine wpAnyH_ready (rs := [4, 7]) (by kernel_rfl) (by simp) ?_
          refine AllReadyH.cons (o := ⟨some 22, _, _, _, _, _⟩) rfl (fun K' hK => ?_) ?_
          · have c0 := SR.out _ KZ.out
            go_simp
            clear c0
            refine hK.out _ _ ?_ (fun hHeld => ?_)
            · exact SS.out _ KZ.out
            clear hK K'
            (try simp only [Act.put, List.setIfInBounds_toArray, List.set_cons_succ, List.set_cons_zero])
            refine wpAnyH_ready (rs := [7]) (by kernel_rfl) (by simp) ?_
            refine AllReadyH.cons (o := ⟨some 25, _, _, _, _, _⟩) rfl (fun K' hK => ?_) AllReadyH.nil
            go_simp
            refine (CL.out _).mono ?_
            rintro e wc ⟨rfl, hb⟩
            replace KZ := hide (btrans KZ.out hb)
            clear hb
            refine hK.out _ _ ?_ (fun hHeld => ?_)
            · exact SS.out _ KZ.out
            clear hK K'
            (try simp only [Act.put, List.setIfInBounds_toArray, List.set_cons_succ, List.set_cons_zero])
            refine wpAnyH_take (i := 8) (oi := ⟨some 26, _, _, _, _, _⟩) (v := ?_) rfl (by kernel_rfl) (by kernel_rfl) (by kernel_rfl) (fun _ _ _ h => h) (Or.inl ⟨by kernel_rfl, ?_⟩) (by assumption) ?_
            rotate_left 1
            · (intro w hSw; (try dsimp only at hSw); go_simp) <;> (with_reducible rfl)
            (try simp only [Act.put, List.setIfInBounds_toArray, List.set_cons_succ, List.set_cons_zero])
            refine wpAnyH_take (i := 9) (oi := ⟨some 27, _, _, _, _, _⟩) (v := ?_) rfl (by kernel_rfl) (by kernel_rfl) (by kernel_rfl) (fun _ _ _ h => h) (Or.inl ⟨by kernel_rfl, ?_⟩) (by assumption) ?_
            rotate_left 1
            · (intro w hSw; (try dsimp only at hSw); go_simp) <;> (with_reducible rfl)
            (try simp only [Act.put, List.setIfInBounds_toArray, List.set_cons_succ, List.set_cons_zero])
            refine wpAnyH_ready (rs := [10]) (by kernel_rfl) (by simp) ?_
            refine AllReadyH.cons (o := ⟨none, _, _, _, _, _⟩) rfl (fun K' hK => ?_) AllReadyH.nil
            have c0 := SR.out _ KZ.out
            have f0 := SF.out _ KZ.out
            go_simp
            clear c0 f0
            refine hK.out _ _ ?_ (fun hHeld => ?_)
            · exact SW.out _ _ (SS.out _ KZ.out)
            clear hK K'
            (try simp only [Act.put, List.setIfInBounds_toArray, List.set_cons_succ, List.set_cons_zero])
            refine wpAnyH_done (by kernel_rfl) ?_ _
            refine NoPanic.normal ?_
            have S4 := hide (SFIN.out _ KZ.out)
            have K4 := hide (KFIN.out _ KZ.out)
            clear SFIN KFIN SS SR SF SW SI KZ
            generalize hws : World.setCell _ _ _ = w5 at *
            clear hws
            go_wp2
            go_roundw
            case rel => exact ⟨k + 1, by omega, by go_num, S4, K4⟩
            case measure => simp [intOf]; omega
          refine AllReadyH.cons (o := ⟨some 25, _, _, _, _, _⟩) rfl (fun K' hK => ?_) AllReadyH.nil
          go_simp
          refine (CL.out _).mono ?_
          rintro e wc ⟨rfl, hb⟩
          replace KZ := hide (btrans KZ.out hb)
          clear hb
          refine hK.out _ _ ?_ (fun hHeld => ?_)
          · exact SS.out _ KZ.out
          clear hK K'
          (try simp only [Act.put, List.setIfInBounds_toArray, List.set_cons_succ, List.set_cons_zero])
          refine wpAnyH_ready (rs := [4]) (by kernel_rfl) (by simp) ?_
          refine AllReadyH.cons (o := ⟨some 22, _, _, _, _, _⟩) rfl (fun K' hK => ?_) AllReadyH.nil
          have c0 := SR.out _ KZ.out
          go_simp
          clear c0
          refine hK.out _ _ ?_ (fun hHeld => ?_)
          · exact SS.out _ KZ.out
          clear hK K'
          (try simp only [Act.put, List.setIfInBounds_toArray, List.set_cons_succ, List.set_cons_zero])
          refine wpAnyH_take (i := 8) (oi := ⟨some 26, _, _, _, _, _⟩) (v := ?_) rfl (by kernel_rfl) (by kernel_rfl) (by kernel_rfl) (fun _ _ _ h => h) (Or.inl ⟨by kernel_rfl, ?_⟩) (by assumption) ?_
          rotate_left 1
          · (intro w hSw; (try dsimp only at hSw); go_simp) <;> (with_reducible rfl)
          (try simp only [Act.put, List.setIfInBounds_toArray, List.set_cons_succ, List.set_cons_zero])
          refine wpAnyH_take (i := 9) (oi := ⟨some 27, _, _, _, _, _⟩) (v := ?_) rfl (by kernel_rfl) (by kernel_rfl) (by kernel_rfl) (fun _ _ _ h => h) (Or.inl ⟨by kernel_rfl, ?_⟩) (by assumption) ?_
          rotate_left 1
          · (intro w hSw; (try dsimp only at hSw); go_simp) <;> (with_reducible rfl)
          (try simp only [Act.put, List.setIfInBounds_toArray, List.set_cons_succ, List.set_cons_zero])
          refine wpAnyH_ready (rs := [10]) (by kernel_rfl) (by simp) ?_
          refine AllReadyH.cons (o := ⟨none, _, _, _, _, _⟩) rfl (fun K' hK => ?_) AllReadyH.nil
          have c0 := SR.out _ KZ.out
          have f0 := SF.out _ KZ.out
          go_simp
          clear c0 f0
          refine hK.out _ _ ?_ (fun hHeld => ?_)
          · exact SW.out _ _ (SS.out _ KZ.out)
          clear hK K'
          (try simp only [Act.put, List.setIfInBounds_toArray, List.set_cons_succ, List.set_cons_zero])
          refine wpAnyH_done (by kernel_rfl) ?_ _
          refine NoPanic.normal ?_
          have S4 := hide (SFIN.out _ KZ.out)
          have K4 := hide (KFIN.out _ KZ.out)
          clear SFIN KFIN SS SR SF SW SI KZ
          generalize hws : World.setCell _ _ _ = w5 at *
          clear hws
          go_wp2
          go_roundw
          case rel => exact ⟨k + 1, by omega, by go_num, S4, K4⟩
          case measure => simp [intOf]; omega
        · obtain rfl : k = n := by omega
          go_wp2
          go_ret
          exact ⟨g, rfl, S.out, by rw [HGG.out]; exact Nat.le_refl _, K.out⟩
  exact key cp hcp
set_option maxRecDepth 100000 in
set_option maxHeartbeats 8000000 in
theorem csmnf_any (A : Option Addr) (cp : Nat) (L : List A5) (w : World) (hr : As w A L) (V : Vd L) (hcp : L.length ≤ cp) :
    Calls Try.prog 73 #[.slice A L.length cp, .func (.func 81) #[] #[]] w (RIR L.length (fun x => kc L (x : Nat) (mn L) L.length) w) := by
  unfold RIR
  have HR := hide hr
  have HT := hide V.tr
  have K0 := hide (brefl w)
  have BF := hide (show ∀ i, i < L.length → inr (mn L i) from fun i hi => (V.rg i hi).1.2)
  have h1 := V.len.1
  have h8 := V.len.2
  obtain ⟨b0, off0, hA, hbl0, _⟩ := hr.cells (brefl w) (show 0 < L.length by omega)
  subst hA
  have eg : ∀ args w, (callFunc 81 args).run Try.prog w = .ok (.enter 81 args) w := Go.Proofs.enters_of Try.func81 (by kernel_rfl) rfl
  obtain ⟨n, hn⟩ : ∃ n, L.length = n + 1 := ⟨L.length - 1, by omega⟩
  rw [hn] at hcp h8 ⊢
  have HN := hide hn
  clear hn hr V h1
  obtain ⟨zz, hzz⟩ : ∃ zz : Array Value, zz = madeCells #[.int .i64 0] (n + 1) := ⟨_, rfl⟩
  have hmk : ∀ w, (Instr.makeSlice 26 (.int .i64 ((n : Int) + 1)) (.int .i64 ((n : Int) + 1))).run Try.prog w = .ok (.slice (some ⟨w.heap.size, 0, none⟩) (n + 1) (n + 1)) (w.alloc (.cells zz 3)) := fun w => by rw [hzz]; exact makeN w (n + 1) (by omega)
  have S := hide (show RI (w.alloc (.cells zz 3)) w.heap.size (n + 1) (csF L (mn L) 0) by rw [hzz]; exact RI.made w (n + 1) _ (fun x _ => cs_0 L _ x))
  have M := bal (brefl w) (.cells zz 3)
  replace K0 := hide (btrans K0.out M)
  clear M hzz
  have key : ∀ c, n + 1 ≤ c → Calls Try.prog 73 #[.slice (some ⟨b0, off0, none⟩) (n + 1) c, .func (.func 81) #[] #[]] w fun e w' => ∃ g, e = .returned (.slice (some ⟨g, 0, none⟩) (n + 1) (n + 1)) ∧ RI w' g (n + 1) (fun x => kc L (x : Nat) (mn L) (n + 1)) ∧ w.heap.size ≤ g ∧ Below w.heap.size w w' := by
    intro c hc
    by_cases hc1 : c = 1
    · subst hc1
      obtain rfl : n = 0 := by omega
      have hmk1 : ∀ w, (Instr.makeSlice 26 (.int .i64 1) (.int .i64 1)).run Try.prog w = .ok (.slice (some ⟨w.heap.size, 0, none⟩) 1 1) (w.alloc (.cells zz 3)) := fun w => by have := hmk w; simpa using this
      clear hmk
      go_enter Try.func73, Try.ntmps73
      go_upto_region 2 with fail
      obtain ⟨g, hg⟩ : ∃ g, g = w.heap.size := ⟨_, rfl⟩
      have HGG := hide hg
      rw [← hg] at S ⊢
      generalize w.alloc (.cells zz 3) = W1 at *
      clear hmk1 hg
      go_wp2
      refine wp_loop_rounds 1 ?_
      rw [rounds_succ]
      go_wp2
      go_ret
      exact ⟨g, rfl, S.out, by rw [HGG.out]; exact Nat.le_refl _, K0.out⟩
    · obtain ⟨d, rfl⟩ : ∃ d, c = d + 2 := ⟨c - 2, by omega⟩
      go_enter Try.func73, Try.ntmps73
      go_upto_region 2 with fail
      obtain ⟨g, hg⟩ : ∃ g, g = w.heap.size := ⟨_, rfl⟩
      have HGG := hide hg
      rw [← hg] at S ⊢
      generalize w.alloc (.cells zz 3) = W1 at *
      clear hmk hg
      go_wp2
      go_loopw [14] (fun c wr => ∃ k : Nat, k ≤ n ∧ c = .int .i64 k ∧ Hid (RI wr g (n + 1) (csF L (mn L) k)) ∧ Hid (Below w.heap.size w wr)) (fun c _ => n - (intOf c).toNat)
      case atStart => exact ⟨0, Nat.zero_le _, rfl, S, K0⟩
      case round =>
        clear S K0
        obtain ⟨k, hk, rfl, S, K⟩ := hrel
        by_cases hlt : k < n
        · have hl2 : (k : Int) < (n : Int) := by omega
          have hk0 : (0 : Int) ≤ (k : Int) := by omega
          have hkn : k + 1 < L.length := by rw [HN.out]; omega
          obtain ⟨b, off, eA, hbl, y0, y1, y2, y3, y4⟩ := HR.out.cells K.out hkn
          injection eA with eA
          injection eA with e1 e2
          subst e1 e2
          have ea : off0 + (k + 1) * 5 = off0 + 5 + k * 5 := by omega
          rw [ea] at y0 y1 y2 y3 y4
          clear ea
          have hp0 := HT.out.2 (k + 1) hkn (by omega)
          obtain ⟨p, hp⟩ : ∃ p : Nat, pa L (k + 1) = (p : Int) := ⟨(pa L (k + 1)).toNat, by omega⟩
          have hpn : p < n + 1 := by omega
          have hpn2 : (p : Int) < (n : Int) + 1 := by omega
          have hp00 : (0 : Int) ≤ (p : Int) := by omega
          have ST := hide (fun x => cs_k (f := mn L) hp x)
          have bd := kc_bd (L := L) (x := (p : Int)) (f := mn L) (k + 1) (by omega) (fun i hi => BF.out i (by omega))
          have fb := BF.out (k + 1) hkn
          unfold inr at fb
          have CL := hide (fun w => mnf_any (aAt L (k + 1)) w)
          have EF := hide (show mn L (k + 1) = (aAt L (k + 1)).mn from rfl)
          rw [← EF.out] at CL
          rw [hp] at y0
          clear hp0
          unfold acV at CL
          have ep : (aAt L (k + 1)).pa = (p : Int) := hp
          rw [ep] at CL
          unfold us at y1; unfold mn at y2; unfold lo at y3; unfold mx at y4
          generalize (aAt L (k + 1)).us = u at *
          generalize (aAt L (k + 1)).mn = m' at *
          generalize (aAt L (k + 1)).lo = l' at *
          generalize (aAt L (k + 1)).mx = x' at *
          clear hp ep EF
          have SI := hide (show csF L (mn L) k p = kc L (p : Int) (mn L) (k + 1) from rfl)
          rw [← SI.out] at bd
          generalize hfe : mn L (k + 1) = fe at *
          clear hfe
          have M := bal (brefl wr) (.cells #[.int .i64 (p : Int), .int .i64 u, .int .i64 m', .int .i64 l', .int .i64 x'] 42)
          have X := hide (Box.new wr 42 #[.int .i64 (p : Int), .int .i64 u, .int .i64 m', .int .i64 l', .int .i64 x'])
          have hwg := S.out.lt
          replace S := hide (S.out.below M)
          replace K := hide (btrans K.out M)
          clear M
          go_upto_region 5 with fail
          obtain ⟨q, hq⟩ : ∃ q, q = wr.heap.size := ⟨_, rfl⟩
          rw [← hq] at X hwg ⊢
          generalize wr.alloc (.cells #[.int .i64 (p : Int), .int .i64 u, .int .i64 m', .int .i64 l', .int .i64 x'] 42) = wx at *
          clear hq y0 y1 y2 y3 y4
          have hgq : q ≠ g := by omega
          have hgw : w.heap.size ≤ g := by rw [HGG.out]; exact Nat.le_refl _
          obtain ⟨bd1, bd2⟩ := bd
          obtain ⟨fb1, fb2⟩ := fb
          have ew : IntKind.i64.wrap (csF L (mn L) k p + fe) = csF L (mn L) k p + fe := IntWalk.i64_in _ (by omega)
          have SS := hide (fun w' (h : Below wx.heap.size wx w') => (⟨(X.out.below h).cell 0, (X.out.below h).cell 1, (X.out.below h).cell 2, (X.out.below h).cell 3, (X.out.below h).cell 4⟩ : (fun W' => W'.cell? ⟨q, 0, none⟩ = some (.int .i64 (p : Int)) ∧ W'.cell? ⟨q, 1, none⟩ = some (.int .i64 u) ∧ W'.cell? ⟨q, 2, none⟩ = some (.int .i64 m') ∧ W'.cell? ⟨q, 3, none⟩ = some (.int .i64 l') ∧ W'.cell? ⟨q, 4, none⟩ = some (.int .i64 x')) w'))
          have SR := hide (fun w' (h : Below wx.heap.size wx w') => (show w'.cell? ⟨g, p, none⟩ = some (.int .i64 (csF L (mn L) k p)) from (S.out.below h).cell hpn))
          have SF := hide (fun w' (h : Below wx.heap.size wx w') => (show w'.frozen? ⟨g, p, none⟩ = false from (S.out.below h).frozen p))
          have SW := hide (fun (w' : World) (v : Value) (h : (fun W' => W'.cell? ⟨q, 0, none⟩ = some (.int .i64 (p : Int)) ∧ W'.cell? ⟨q, 1, none⟩ = some (.int .i64 u) ∧ W'.cell? ⟨q, 2, none⟩ = some (.int .i64 m') ∧ W'.cell? ⟨q, 3, none⟩ = some (.int .i64 l') ∧ W'.cell? ⟨q, 4, none⟩ = some (.int .i64 x')) w') => (⟨(cell_far hgq).trans h.1, (cell_far hgq).trans h.2.1, (cell_far hgq).trans h.2.2.1, (cell_far hgq).trans h.2.2.2.1, (cell_far hgq).trans h.2.2.2.2⟩ : (fun W' => W'.cell? ⟨q, 0, none⟩ = some (.int .i64 (p : Int)) ∧ W'.cell? ⟨q, 1, none⟩ = some (.int .i64 u) ∧ W'.cell? ⟨q, 2, none⟩ = some (.int .i64 m') ∧ W'.cell? ⟨q, 3, none⟩ = some (.int .i64 l') ∧ W'.cell? ⟨q, 4, none⟩ = some (.int .i64 x')) (w'.setCell ⟨g, p, none⟩ v)))
          have SFIN := hide (fun w' (h : Below wx.heap.size wx w') => (S.out.below h).put p (csF L (mn L) k p + fe) (c' := csF L (mn L) (k + 1)) (fun x _ => ST.out x))
          have KFIN := hide (fun w' (h : Below wx.heap.size wx w') => (btrans K.out h).setCell (p := ⟨g, p, none⟩) hgw (.int .i64 (csF L (mn L) k p + fe)))
          clear S K X ST
          generalize csF L (mn L) k p = z at *
          have KZ := hide (show Below wx.heap.size wx wx.drew from below_drewN (brefl wx) 1)
          refine wp_region_noPanic ?_
          refine wp_region_held_drew (S := (fun W' => W'.cell? ⟨q, 0, none⟩ = some (.int .i64 (p : Int)) ∧ W'.cell? ⟨q, 1, none⟩ = some (.int .i64 u) ∧ W'.cell? ⟨q, 2, none⟩ = some (.int .i64 m') ∧ W'.cell? ⟨q, 3, none⟩ = some (.int .i64 l') ∧ W'.cell? ⟨q, 4, none⟩ = some (.int .i64 x'))) (by kernel_rfl) ?_ (fun hHeld => ?_)
          · exact SS.out _ KZ.out
          generalize wx.drew = wd at *
          refine wpAnyH_take (i := 0) (oi := ⟨some 18, _, _, _, _, _⟩) (v := ?_) rfl (by kernel_rfl) (by kernel_rfl) (by kernel_rfl) (fun _ _ _ h => h) (Or.inl ⟨by kernel_rfl, ?_⟩) (by assumption) ?_
          rotate_left 1
          · (intro w hSw; (try dsimp only at hSw); go_simp) <;> (with_reducible rfl)
          (try simp only [Act.put, List.setIfInBounds_toArray, List.set_cons_succ, List.set_cons_zero])
          refine wpAnyH_take (i := 1) (oi := ⟨some 19, _, _, _, _, _⟩) (v := ?_) rfl (by kernel_rfl) (by kernel_rfl) (by kernel_rfl) (fun _ _ _ h => h) (Or.inl ⟨by kernel_rfl, ?_⟩) (by assumption) ?_
          rotate_left 1
          · (intro w hSw; (try dsimp only at hSw); go_simp) <;> (with_reducible rfl)
          (try simp only [Act.put, List.setIfInBounds_toArray, List.set_cons_succ, List.set_cons_zero])
          refine wpAnyH_take (i := 2) (oi := ⟨some 20, _, _, _, _, _⟩) (v := ?_) rfl (by kernel_rfl) (by kernel_rfl) (by kernel_rfl) (fun _ _ _ h => h) (Or.inl ⟨by kernel_rfl, ?_⟩) (by assumption) ?_
          rotate_left 1
          · (intro w hSw; (try dsimp only at hSw); go_simp) <;> (with_reducible rfl)
          (try simp only [Act.put, List.setIfInBounds_toArray, List.set_cons_succ, List.set_cons_zero])
          refine wpAnyH_take (i := 3) (oi := ⟨some 21, _, _, _, _, _⟩) (v := ?_) rfl (by kernel_rfl) (by kernel_rfl) (by kernel_rfl) (fun _ _ _ h => h) (Or.inl ⟨by kernel_rfl, ?_⟩) (by assumption) ?_
          rotate_left 1
          · (intro w hSw; (try dsimp only at hSw); go_simp) <;> (with_reducible rfl)
          (try simp only [Act.put, List.setIfInBounds_toArray, List.set_cons_succ, List.set_cons_zero])
          refine wpAnyH_take (i := 5) (oi := ⟨some 23, _, _, _, _, _⟩) (v := ?_) rfl (by kernel_rfl) (by kernel_rfl) (by kernel_rfl) (fun _ _ _ h => h) (Or.inl ⟨by kernel_rfl, ?_⟩) (by assumption) ?_
          rotate_left 1
          · (intro w hSw; (try dsimp only at hSw); go_simp) <;> (with_reducible rfl)
          (try simp only [Act.put, List.setIfInBounds_toArray, List.set_cons_succ, List.set_cons_zero])
          refine wpAnyH_take (i := 6) (oi := ⟨some 24, _, _, _, _, _⟩) (v := ?_) rfl (by kernel_rfl) (by kernel_rfl) (by kernel_rfl) (fun _ _ _ h => h) (Or.inl ⟨by kernel_rfl, ?_⟩) (by assumption) ?_
          rotate_left 1
          · (intro w hSw; (try dsimp only at hSw); go_simp) <;> (with_reducible rfl)
          (try simp only [Act.put, List.setIfInBounds_toArray, List.set_cons_succ, List.set_cons_zero])
          refine wpAnyH_ready (rs := [4, 7]) (by kernel_rfl) (by simp) ?_
          refine AllReadyH.cons (o := ⟨some 22, _, _, _, _, _⟩) rfl (fun K' hK => ?_) ?_
          · have c0 := SR.out _ KZ.out
            go_simp
            clear c0
            refine hK.out _ _ ?_ (fun hHeld => ?_)
            · exact SS.out _ KZ.out
            clear hK K'
            (try simp only [Act.put, List.setIfInBounds_toArray, List.set_cons_succ, List.set_cons_zero])
            refine wpAnyH_ready (rs := [7]) (by kernel_rfl) (by simp) ?_
            refine AllReadyH.cons (o := ⟨some 25, _, _, _, _, _⟩) rfl (fun K' hK => ?_) AllReadyH.nil
            go_simp
            refine (CL.out _).mono ?_
            rintro e wc ⟨rfl, hb⟩
            replace KZ := hide (btrans KZ.out hb)
            clear hb
            refine hK.out _ _ ?_ (fun hHeld => ?_)
            · exact SS.out _ KZ.out
            clear hK K'
            (try simp only [Act.put, List.setIfInBounds_toArray, List.set_cons_succ, List.set_cons_zero])
            refine wpAnyH_take (i := 8) (oi := ⟨some 26, _, _, _, _, _⟩) (v := ?_) rfl (by kernel_rfl) (by kernel_rfl) (by kernel_rfl) (fun _ _ _ h => h) (Or.inl ⟨by kernel_rfl, ?_⟩) (by assumption) ?_
            rotate_left 1
            · (intro w hSw; (try dsimp only at hSw); go_simp) <;> (with_reducible rfl)
            (try simp only [Act.put, List.setIfInBounds_toArray, List.set_cons_succ, List.set_cons_zero])
            refine wpAnyH_take (i := 9) (oi := ⟨some 27, _, _, _, _, _⟩) (v := ?_) rfl (by kernel_rfl) (by kernel_rfl) (by kernel_rfl) (fun _ _ _ h => h) (Or.inl ⟨by kernel_rfl, ?_⟩) (by assumption) ?_
            rotate_left 1
            · (intro w hSw; (try dsimp only at hSw); go_simp) <;> (with_reducible rfl)
            (try simp only [Act.put, List.setIfInBounds_toArray, List.set_cons_succ, List.set_cons_zero])
            refine wpAnyH_ready (rs := [10]) (by kernel_rfl) (by simp) ?_
            refine AllReadyH.cons (o := ⟨none, _, _, _, _, _⟩) rfl (fun K' hK => ?_) AllReadyH.nil
            have c0 := SR.out _ KZ.out
            have f0 := SF.out _ KZ.out
            go_simp
            clear c0 f0
            refine hK.out _ _ ?_ (fun hHeld => ?_)
            · exact SW.out _ _ (SS.out _ KZ.out)
            clear hK K'
            (try simp only [Act.put, List.setIfInBounds_toArray, List.set_cons_succ, List.set_cons_zero])
            refine wpAnyH_done (by kernel_rfl) ?_ _
            refine NoPanic.normal ?_
            have S4 := hide (SFIN.out _ KZ.out)
            have K4 := hide (KFIN.out _ KZ.out)
            clear SFIN KFIN SS SR SF SW SI KZ
            generalize hws : World.setCell _ _ _ = w5 at *
            clear hws
            go_wp2
            go_roundw
            case rel => exact ⟨k + 1, by omega, by go_num, S4, K4⟩
            case measure => simp [intOf]; omega
          refine AllReadyH.cons (o := ⟨some 25, _, _, _, _, _⟩) rfl (fun K' hK => ?_) AllReadyH.nil
          go_simp
          refine (CL.out _).mono ?_
          rintro e wc ⟨rfl, hb⟩
          replace KZ := hide (btrans KZ.out hb)
          clear hb
          refine hK.out _ _ ?_ (fun hHeld => ?_)
          · exact SS.out _ KZ.out
          clear hK K'
          (try simp only [Act.put, List.setIfInBounds_toArray, List.set_cons_succ, List.set_cons_zero])
          refine wpAnyH_ready (rs := [4]) (by kernel_rfl) (by simp) ?_
          refine AllReadyH.cons (o := ⟨some 22, _, _, _, _, _⟩) rfl (fun K' hK => ?_) AllReadyH.nil
          have c0 := SR.out _ KZ.out
          go_simp
          clear c0
          refine hK.out _ _ ?_ (fun hHeld => ?_)
          · exact SS.out _ KZ.out
          clear hK K'
          (try simp only [Act.put, List.setIfInBounds_toArray, List.set_cons_succ, List.set_cons_zero])
          refine wpAnyH_take (i := 8) (oi := ⟨some 26, _, _, _, _, _⟩) (v := ?_) rfl (by kernel_rfl) (by kernel_rfl) (by kernel_rfl) (fun _ _ _ h => h) (Or.inl ⟨by kernel_rfl, ?_⟩) (by assumption) ?_
          rotate_left 1
          · (intro w hSw; (try dsimp only at hSw); go_simp) <;> (with_reducible rfl)
          (try simp only [Act.put, List.setIfInBounds_toArray, List.set_cons_succ, List.set_cons_zero])
          refine wpAnyH_take (i := 9) (oi := ⟨some 27, _, _, _, _, _⟩) (v := ?_) rfl (by kernel_rfl) (by kernel_rfl) (by kernel_rfl) (fun _ _ _ h => h) (Or.inl ⟨by kernel_rfl, ?_⟩) (by assumption) ?_
          rotate_left 1
          · (intro w hSw; (try dsimp only at hSw); go_simp) <;> (with_reducible rfl)
          (try simp only [Act.put, List.setIfInBounds_toArray, List.set_cons_succ, List.set_cons_zero])
          refine wpAnyH_ready (rs := [10]) (by kernel_rfl) (by simp) ?_
          refine AllReadyH.cons (o := ⟨none, _, _, _, _, _⟩) rfl (fun K' hK => ?_) AllReadyH.nil
          have c0 := SR.out _ KZ.out
          have f0 := SF.out _ KZ.out
          go_simp
          clear c0 f0
          refine hK.out _ _ ?_ (fun hHeld => ?_)
          · exact SW.out _ _ (SS.out _ KZ.out)
          clear hK K'
          (try simp only [Act.put, List.setIfInBounds_toArray, List.set_cons_succ, List.set_cons_zero])
          refine wpAnyH_done (by kernel_rfl) ?_ _
          refine NoPanic.normal ?_
          have S4 := hide (SFIN.out _ KZ.out)
          have K4 := hide (KFIN.out _ KZ.out)
          clear SFIN KFIN SS SR SF SW SI KZ
          generalize hws : World.setCell _ _ _ = w5 at *
          clear hws
          go_wp2
          go_roundw
          case rel => exact ⟨k + 1, by omega, by go_num, S4, K4⟩
          case measure => simp [intOf]; omega
        · obtain rfl : k = n := by omega
          go_wp2
          go_ret
          exact ⟨g, rfl, S.out, by rw [HGG.out]; exact Nat.le_refl _, K.out⟩
  exact key cp hcp
end Go.Proofs.Ytclkflnonckajaa.Ac
