import Derived.Test.YtioffnpnoohbiaaF9
namespace Go.Proofs.Ytioffnpnoohbiaa.Rm
open Go Go.RowKit
set_option linter.unusedVariables false
set_option linter.unusedSimpArgs false
theorem push_next {B : Nat} {wa w1 : World} {A : Option Addr} {c : Nat} {R : List Mp} {s p : Int} {v : Value} (hB : B ≤ wa.heap.size) (OQ : OwM B wa (.slice A R.length c) R) (hown : w1.ownsRow B 26 2 v (R.length + 1) (mcs R ++ [.int .i64 s, .int .i64 p])) (hg : wa.grownBy w1 (Value.slice A R.length c).ownBlock) : ∃ A' c', v = .slice A' (R.length + 1) c' ∧ OwM B w1 (.slice A' (R ++ [(⟨s, p⟩ : Mp)]).length c') (R ++ [(⟨s, p⟩ : Mp)]) ∧ Below B wa w1 := by
  obtain ⟨A', c', rfl, _⟩ := row_form hown
  refine ⟨A', c', rfl, ?_, below_grown (B := 0) OQ hg hB⟩
  unfold OwM
  rw [List.length_append, mcs_append]
  exact hown
/-- the specification's insertion, in any list -/
def rin : List Mp → Mp → List Mp
  | [], m => [m]
  | a :: l, m => if ltM m a then m :: a :: l else a :: rin l m
theorem rin_length : ∀ (L : List Mp) (m : Mp), (rin L m).length = L.length + 1
  | [], _ => rfl
  | a :: l, m => by
    unfold rin
    split
    · rfl
    · simp only [List.length_cons, rin_length l m]
theorem rin_ins : ∀ {L : List Mp} {m : Mp}, Srt L → m ∉ L → rin L m = ins L m
  | [], m, _, _ => rfl
  | a :: l, m, h, hm => by
    have hl := rin_ins (L := l) (m := m) (List.pairwise_cons.1 h).2 (fun g => hm (List.mem_cons_of_mem _ g))
    unfold rin
    by_cases c : ltM a m
    · rw [if_neg (ltM_as c), hl]
      unfold ins
      have e : ix (a :: l) m = ix l m + 1 := if_pos c
      rw [e]; rfl
    · have c2 : ltM m a := by
        rcases ltM_tri m a with g | g | g
        · exact g
        · exact absurd (g ▸ List.mem_cons_self ..) hm
        · exact absurd g c
      rw [if_pos c2]
      unfold ins
      have e : ix (a :: l) m = 0 := if_neg c
      rw [e]; rfl
theorem drop_at {L : List Mp} {k : Nat} (h : k < L.length) : L.drop k = at' L k :: L.drop (k + 1) := by
  rw [List.drop_eq_getElem_cons h, ← at_get h]
set_option maxRecDepth 100000 in
set_option maxHeartbeats 8000000 in
theorem rins_any (A : Option Addr) (c : Nat) (L : List Mp) (t q : Int) (w : World) (hr : Ms w A L) (hn : L.length ≤ 1000) : Calls Try.prog 27 #[.slice A L.length c, .agg #[.int .i64 t, .int .i64 q]] w (InR w.heap.size (rin L ⟨t, q⟩) w) := by
  obtain ⟨i0, hi0, hz0, hz1, hz2⟩ := info_parts info26
  have HR := hide hr
  have K := hide (bal (brefl w) (.cells #[.int .i64 t, .int .i64 q] 26))
  have X := hide (MB.new w t q)
  obtain ⟨g3, hg3⟩ : ∃ g, g = w.heap.size := ⟨_, rfl⟩
  have HG := hide hg3
  have HLE := hide (show w.heap.size ≤ g3 + 1 by omega)
  rw [← hg3] at X
  unfold InR
  have RE := hide (rin_length L ⟨t, q⟩)
  have R0 := hide (show rin (L.drop 0) ⟨t, q⟩ = rin L ⟨t, q⟩ from rfl)
  generalize hF : rin L ⟨t, q⟩ = F at *
  clear hr hg3 hF
  go_enter Try.func27, Try.ntmps27
  go_upto_region 1 with fail
  rw [← HG.out]
  generalize w.alloc (.cells #[.int .i64 t, .int .i64 q] 26) = w1 at *
  go_wp2
  go_loopw [5, 6, 7] (fun o d i wr => ∃ k : Nat, ∃ A1 c1, ∃ R : List Mp, ∃ dn : Bool, k ≤ L.length ∧ o = .slice A1 R.length c1 ∧ d = .bool dn ∧ i = .int .i64 k ∧ Hid (OwM (g3 + 1) wr (.slice A1 R.length c1) R) ∧ Hid (Below w.heap.size w wr) ∧ Hid (MB wr g3 ⟨t, q⟩) ∧ Hid (R ++ (if dn then L.drop k else rin (L.drop k) ⟨t, q⟩) = F)) (fun _ _ i _ => L.length - (intOf i).toNat)
  case atStart => exact ⟨0, none, 0, [], false, Nat.zero_le _, rfl, rfl, rfl, hide (owm_nil _ _), K, X, hide (by simpa using R0.out)⟩
  case round =>
    clear K X
    obtain ⟨k, A1, c1, R, dn, hk, rfl, rfl, rfl, OQ, K, X, N⟩ := hrel
    by_cases hlt : k < L.length
    · have hl2 : (k : Int) < (L.length : Int) := by omega
      have hk0 : (0 : Int) ≤ (k : Int) := by omega
      obtain ⟨b, off, rfl, hbl, y0, y1⟩ := HR.out.cells K.out hlt
      have FX := hide (fun w' (h : Below wr.heap.size wr w') => And.intro ((HR.out.below (btrans K.out h)).at hlt) (MB.cells (X.out.below h)))
      have FE := hide (fun w' (h : Below w.heap.size w w') => (HR.out.below h).at hlt)
      have RB := hide (show R.length ≤ 1002 from by
        have h1 := congrArg List.length N.out
        have h2 := RE.out
        rw [List.length_append] at h1
        omega)
      obtain ⟨m, hm⟩ : ∃ m : Mp, m = ⟨t, q⟩ := ⟨_, rfl⟩
      have ND := hide (show dn = true → (R ++ [at' L k]) ++ L.drop (k + 1) = F from fun h => by
        have := N.out; rw [h, if_pos rfl, drop_at hlt] at this; rw [List.append_assoc]; exact this)
      have NT := hide (show dn = false → ltM ⟨t, q⟩ (at' L k) → ((R ++ [(⟨t, q⟩ : Mp)]) ++ [at' L k]) ++ L.drop (k + 1) = F from fun h g => by
        have := N.out; rw [h, if_neg (by simp), drop_at hlt] at this; unfold rin at this; rw [if_pos g] at this; rw [List.append_assoc, List.append_assoc]; exact this)
      have NN := hide (show dn = false → ¬ ltM ⟨t, q⟩ (at' L k) → (R ++ [at' L k]) ++ rin (L.drop (k + 1)) ⟨t, q⟩ = F from fun h g => by
        have := N.out; rw [h, if_neg (by simp), drop_at hlt] at this; unfold rin at this; rw [if_neg g] at this; rw [List.append_assoc]; exact this)
      clear N hm m
      obtain ⟨a, ha⟩ : ∃ a, a = at' L k := ⟨_, rfl⟩
      rw [← ha] at y0 y1 FX FE ND NT NN
      clear ha
      obtain ⟨s, p⟩ := a
      dsimp only at y0 y1 FX FE
      clear y0 y1
      cases dn
      · by_cases hq : ltM ⟨t, q⟩ ⟨s, p⟩
        · have G := hide (NT.out rfl hq)
          have C := hide (fun w => bef_any t q s p w)
          rw [decide_eq_true hq] at C
          clear hq ND NT NN
          go_upto_region 6 with fail
          have KD : Below wr.heap.size wr wr.drew := below_drewN (brefl _) 1
          replace X := hide (X.out.below KD)
          replace OQ := hide (row_below OQ.out KD)
          replace K := hide (btrans K.out KD)
          have KR := hide KD
          clear KD
          refine wp_region_noPanic ?_
          refine wp_region_held_drew (S := (fun W => (W.cell? ⟨b, off + k * 2, none⟩ = some (.int .i64 s) ∧ W.cell? ⟨b, off + k * 2 + 1, none⟩ = some (.int .i64 p)) ∧ W.cell? ⟨g3, 0, none⟩ = some (.int .i64 t) ∧ W.cell? ⟨g3, 1, none⟩ = some (.int .i64 q))) (by kernel_rfl) ?_ (fun hHeld => ?_)
          · exact FX.out _ KR.out
          generalize wr.drew = wd at *
          refine wpAnyH_take (i := 0) (oi := ⟨some 14, _, _, _, _, _⟩) (v := ?_) rfl (by kernel_rfl) (by kernel_rfl) (by kernel_rfl) (fun _ _ _ h => h) (Or.inl ⟨by kernel_rfl, ?_⟩) (by assumption) ?_
          rotate_left 1
          · (intro w hSw; (try dsimp only at hSw); go_simp) <;> (with_reducible rfl)
          (try simp only [Act.put, List.setIfInBounds_toArray, List.set_cons_succ, List.set_cons_zero])
          refine wpAnyH_take (i := 1) (oi := ⟨some 15, _, _, _, _, _⟩) (v := ?_) rfl (by kernel_rfl) (by kernel_rfl) (by kernel_rfl) (fun _ _ _ h => h) (Or.inl ⟨by kernel_rfl, ?_⟩) (by assumption) ?_
          rotate_left 1
          · (intro w hSw; (try dsimp only at hSw); go_simp) <;> (with_reducible rfl)
          (try simp only [Act.put, List.setIfInBounds_toArray, List.set_cons_succ, List.set_cons_zero])
          refine wpAnyH_take (i := 2) (oi := ⟨some 16, _, _, _, _, _⟩) (v := ?_) rfl (by kernel_rfl) (by kernel_rfl) (by kernel_rfl) (fun _ _ _ h => h) (Or.inl ⟨by kernel_rfl, ?_⟩) (by assumption) ?_
          rotate_left 1
          · (intro w hSw; (try dsimp only at hSw); go_simp) <;> (with_reducible rfl)
          (try simp only [Act.put, List.setIfInBounds_toArray, List.set_cons_succ, List.set_cons_zero])
          refine wpAnyH_take (i := 3) (oi := ⟨some 17, _, _, _, _, _⟩) (v := ?_) rfl (by kernel_rfl) (by kernel_rfl) (by kernel_rfl) (fun _ _ _ h => h) (Or.inl ⟨by kernel_rfl, ?_⟩) (by assumption) ?_
          rotate_left 1
          · (intro w hSw; (try dsimp only at hSw); go_simp) <;> (with_reducible rfl)
          (try simp only [Act.put, List.setIfInBounds_toArray, List.set_cons_succ, List.set_cons_zero])
          refine wpAnyH_take (i := 4) (oi := ⟨some 18, _, _, _, _, _⟩) (v := ?_) rfl (by kernel_rfl) (by kernel_rfl) (by kernel_rfl) (fun _ _ _ h => h) (Or.inl ⟨by kernel_rfl, ?_⟩) (by assumption) ?_
          rotate_left 1
          · (intro w hSw; (try dsimp only at hSw); go_simp) <;> (with_reducible rfl)
          (try simp only [Act.put, List.setIfInBounds_toArray, List.set_cons_succ, List.set_cons_zero])
          refine wpAnyH_take (i := 5) (oi := ⟨some 19, _, _, _, _, _⟩) (v := ?_) rfl (by kernel_rfl) (by kernel_rfl) (by kernel_rfl) (fun _ _ _ h => h) (Or.inl ⟨by kernel_rfl, ?_⟩) (by assumption) ?_
          rotate_left 1
          · (intro w hSw; (try dsimp only at hSw); go_simp) <;> (with_reducible rfl)
          (try simp only [Act.put, List.setIfInBounds_toArray, List.set_cons_succ, List.set_cons_zero])
          refine wpAnyH_take (i := 6) (oi := ⟨some 20, _, _, _, _, _⟩) (v := ?_) rfl (by kernel_rfl) (by kernel_rfl) (by kernel_rfl) (fun _ _ _ h => h) (Or.inl ⟨by kernel_rfl, ?_⟩) (by assumption) ?_
          rotate_left 1
          · (intro w hSw; (try dsimp only at hSw); go_simp) <;> (with_reducible rfl)
          (try simp only [Act.put, List.setIfInBounds_toArray, List.set_cons_succ, List.set_cons_zero])
          refine wpAnyH_take (i := 7) (oi := ⟨some 21, _, _, _, _, _⟩) (v := ?_) rfl (by kernel_rfl) (by kernel_rfl) (by kernel_rfl) (fun _ _ _ h => h) (Or.inl ⟨by kernel_rfl, ?_⟩) (by assumption) ?_
          rotate_left 1
          · (intro w hSw; (try dsimp only at hSw); go_simp) <;> (with_reducible rfl)
          (try simp only [Act.put, List.setIfInBounds_toArray, List.set_cons_succ, List.set_cons_zero])
          refine wpAnyH_ready (rs := [8]) (by kernel_rfl) (by simp) ?_
          refine AllReadyH.cons (o := ⟨some 22, _, _, _, _, _⟩) rfl (fun K' hK => ?_) AllReadyH.nil
          go_simp
          refine (C.out _).mono ?_
          rintro e w2 ⟨rfl, hb⟩
          replace OQ := hide (row_below OQ.out hb)
          replace KR := hide (btrans KR.out hb)
          replace X := hide (X.out.below hb)
          replace K := hide (btrans K.out hb)
          clear hb
          refine hK.out _ _ ?_ (fun hHeld => ?_)
          · exact FX.out _ KR.out
          clear hK K'
          (try simp only [Act.put, List.setIfInBounds_toArray, List.set_cons_succ, List.set_cons_zero])
          refine wpAnyH_take (i := 9) (oi := ⟨some 23, _, _, _, _, _⟩) (v := ?_) rfl (by kernel_rfl) (by kernel_rfl) (by kernel_rfl) (fun _ _ _ h => h) (Or.inl ⟨by kernel_rfl, ?_⟩) (by assumption) ?_
          rotate_left 1
          · (intro w hSw; (try dsimp only at hSw); go_simp) <;> (with_reducible rfl)
          (try simp only [Act.put, List.setIfInBounds_toArray, List.set_cons_succ, List.set_cons_zero])
          refine wpAnyH_done (by kernel_rfl) ?_ _
          refine NoPanic.normal ?_
          clear FX KR
          have RB2 := RB.out
          obtain ⟨x0, x1⟩ := MB.cells X.out
          have M := bal (brefl w2) (.cells #[.int .i64 t, .int .i64 q] 26)
          have OQ2 := hide (row_below OQ.out M)
          have NB := hide (MB.news (MB.new w2 t q))
          have KM := hide (btrans K.out M)
          replace X := hide (X.out.below M)
          unfold mC at NB
          dsimp only at NB
          clear M OQ K
          have HBB := hide (show (g3 + 1) ≤ _ from X.out.lt)
          go_upto_region 9 with (at_builtin; refine wpList_append_own _ rfl (.tmp 24) (.tmp 26) 22 rfl (g3 + 1) 26 i0 _ 2 16 Try.underlying22 hi0 hz0 hz1 hz2 rfl (by omega) (.slice A1 R.length c1) R.length (mcs R) rfl OQ2.out ⟨w2.heap.size, 0, none⟩ 1 1 [.int .i64 t, .int .i64 q] rfl rfl NB.out (by intro u hu; simp only [List.mem_cons, List.not_mem_nil, or_false] at hu; rcases hu with rfl | rfl <;> rfl) (by simp only [maxLen]; omega) (by omega) HBB.out ?_; intro v1 w9 hown1 hg1 _; obtain ⟨A2, c2, rfl, OQ, BG⟩ := push_next HBB.out OQ2.out hown1 hg1; replace OQ := hide OQ; have K := hide (KM.out.trans (BG.mono HLE.out)); replace X := hide (show MB w9 g3 ⟨t, q⟩ from (BG.block g3 (Nat.lt_succ_self _)).trans X.out); clear hown1 hg1 OQ2 NB KM BG HBB)
          have RL := hide (show (R ++ [(⟨t, q⟩ : Mp)]).length = R.length + 1 by simp)
          rw [← RL.out]
          have RB3 := hide (show (R ++ [(⟨t, q⟩ : Mp)]).length ≤ 1003 by rw [RL.out]; omega)
          generalize R ++ [(⟨t, q⟩ : Mp)] = R2 at *
          clear RB2
          have RB2 := RB3.out
          clear RB3
          obtain ⟨y0, y1⟩ := FE.out _ K.out
          have M := bal (brefl w9) (.cells #[.int .i64 s, .int .i64 p] 26)
          have OQ2 := hide (row_below OQ.out M)
          have NB := hide (MB.news (MB.new w9 s p))
          have KM := hide (btrans K.out M)
          replace X := hide (X.out.below M)
          unfold mC at NB
          dsimp only at NB
          clear M OQ K
          have HBB := hide (show (g3 + 1) ≤ _ from X.out.lt)
          go_wp2_with (at_builtin; refine wpList_append_own _ rfl (.tmp 28) (.tmp 33) 22 rfl (g3 + 1) 26 i0 _ 2 16 Try.underlying22 hi0 hz0 hz1 hz2 rfl (by omega) (.slice A2 R2.length c2) R2.length (mcs R2) rfl OQ2.out ⟨w9.heap.size, 0, none⟩ 1 1 [.int .i64 s, .int .i64 p] rfl rfl NB.out (by intro u hu; simp only [List.mem_cons, List.not_mem_nil, or_false] at hu; rcases hu with rfl | rfl <;> rfl) (by simp only [maxLen]; omega) (by omega) HBB.out ?_; intro v1 w8 hown1 hg1 _; obtain ⟨A3, c3, rfl, OQ, BG⟩ := push_next HBB.out OQ2.out hown1 hg1; replace OQ := hide OQ; have K := hide (KM.out.trans (BG.mono HLE.out)); replace X := hide (show MB w8 g3 ⟨t, q⟩ from (BG.block g3 (Nat.lt_succ_self _)).trans X.out); clear hown1 hg1 OQ2 NB KM BG HBB)
          have RL := hide (show (R2 ++ [(⟨s, p⟩ : Mp)]).length = R2.length + 1 by simp)
          rw [← RL.out]
          generalize R2 ++ [(⟨s, p⟩ : Mp)] = R3 at *
          go_wp2
          go_roundw
          case rel => exact ⟨k + 1, A3, c3, R3, true, by omega, rfl, rfl, by go_num, OQ, K, X, hide (by rw [if_pos rfl]; exact G.out)⟩
          case measure => simp [intOf]; omega
        · have G := hide (NN.out rfl hq)
          have C := hide (fun w => bef_any t q s p w)
          rw [decide_eq_false hq] at C
          clear hq ND NT NN
          go_upto_region 6 with fail
          have KD : Below wr.heap.size wr wr.drew := below_drewN (brefl _) 1
          replace X := hide (X.out.below KD)
          replace OQ := hide (row_below OQ.out KD)
          replace K := hide (btrans K.out KD)
          have KR := hide KD
          clear KD
          refine wp_region_noPanic ?_
          refine wp_region_held_drew (S := (fun W => (W.cell? ⟨b, off + k * 2, none⟩ = some (.int .i64 s) ∧ W.cell? ⟨b, off + k * 2 + 1, none⟩ = some (.int .i64 p)) ∧ W.cell? ⟨g3, 0, none⟩ = some (.int .i64 t) ∧ W.cell? ⟨g3, 1, none⟩ = some (.int .i64 q))) (by kernel_rfl) ?_ (fun hHeld => ?_)
          · exact FX.out _ KR.out
          generalize wr.drew = wd at *
          refine wpAnyH_take (i := 0) (oi := ⟨some 14, _, _, _, _, _⟩) (v := ?_) rfl (by kernel_rfl) (by kernel_rfl) (by kernel_rfl) (fun _ _ _ h => h) (Or.inl ⟨by kernel_rfl, ?_⟩) (by assumption) ?_
          rotate_left 1
          · (intro w hSw; (try dsimp only at hSw); go_simp) <;> (with_reducible rfl)
          (try simp only [Act.put, List.setIfInBounds_toArray, List.set_cons_succ, List.set_cons_zero])
          refine wpAnyH_take (i := 1) (oi := ⟨some 15, _, _, _, _, _⟩) (v := ?_) rfl (by kernel_rfl) (by kernel_rfl) (by kernel_rfl) (fun _ _ _ h => h) (Or.inl ⟨by kernel_rfl, ?_⟩) (by assumption) ?_
          rotate_left 1
          · (intro w hSw; (try dsimp only at hSw); go_simp) <;> (with_reducible rfl)
          (try simp only [Act.put, List.setIfInBounds_toArray, List.set_cons_succ, List.set_cons_zero])
          refine wpAnyH_take (i := 2) (oi := ⟨some 16, _, _, _, _, _⟩) (v := ?_) rfl (by kernel_rfl) (by kernel_rfl) (by kernel_rfl) (fun _ _ _ h => h) (Or.inl ⟨by kernel_rfl, ?_⟩) (by assumption) ?_
          rotate_left 1
          · (intro w hSw; (try dsimp only at hSw); go_simp) <;> (with_reducible rfl)
          (try simp only [Act.put, List.setIfInBounds_toArray, List.set_cons_succ, List.set_cons_zero])
          refine wpAnyH_take (i := 3) (oi := ⟨some 17, _, _, _, _, _⟩) (v := ?_) rfl (by kernel_rfl) (by kernel_rfl) (by kernel_rfl) (fun _ _ _ h => h) (Or.inl ⟨by kernel_rfl, ?_⟩) (by assumption) ?_
          rotate_left 1
          · (intro w hSw; (try dsimp only at hSw); go_simp) <;> (with_reducible rfl)
          (try simp only [Act.put, List.setIfInBounds_toArray, List.set_cons_succ, List.set_cons_zero])
          refine wpAnyH_take (i := 4) (oi := ⟨some 18, _, _, _, _, _⟩) (v := ?_) rfl (by kernel_rfl) (by kernel_rfl) (by kernel_rfl) (fun _ _ _ h => h) (Or.inl ⟨by kernel_rfl, ?_⟩) (by assumption) ?_
          rotate_left 1
          · (intro w hSw; (try dsimp only at hSw); go_simp) <;> (with_reducible rfl)
          (try simp only [Act.put, List.setIfInBounds_toArray, List.set_cons_succ, List.set_cons_zero])
          refine wpAnyH_take (i := 5) (oi := ⟨some 19, _, _, _, _, _⟩) (v := ?_) rfl (by kernel_rfl) (by kernel_rfl) (by kernel_rfl) (fun _ _ _ h => h) (Or.inl ⟨by kernel_rfl, ?_⟩) (by assumption) ?_
          rotate_left 1
          · (intro w hSw; (try dsimp only at hSw); go_simp) <;> (with_reducible rfl)
          (try simp only [Act.put, List.setIfInBounds_toArray, List.set_cons_succ, List.set_cons_zero])
          refine wpAnyH_take (i := 6) (oi := ⟨some 20, _, _, _, _, _⟩) (v := ?_) rfl (by kernel_rfl) (by kernel_rfl) (by kernel_rfl) (fun _ _ _ h => h) (Or.inl ⟨by kernel_rfl, ?_⟩) (by assumption) ?_
          rotate_left 1
          · (intro w hSw; (try dsimp only at hSw); go_simp) <;> (with_reducible rfl)
          (try simp only [Act.put, List.setIfInBounds_toArray, List.set_cons_succ, List.set_cons_zero])
          refine wpAnyH_take (i := 7) (oi := ⟨some 21, _, _, _, _, _⟩) (v := ?_) rfl (by kernel_rfl) (by kernel_rfl) (by kernel_rfl) (fun _ _ _ h => h) (Or.inl ⟨by kernel_rfl, ?_⟩) (by assumption) ?_
          rotate_left 1
          · (intro w hSw; (try dsimp only at hSw); go_simp) <;> (with_reducible rfl)
          (try simp only [Act.put, List.setIfInBounds_toArray, List.set_cons_succ, List.set_cons_zero])
          refine wpAnyH_ready (rs := [8]) (by kernel_rfl) (by simp) ?_
          refine AllReadyH.cons (o := ⟨some 22, _, _, _, _, _⟩) rfl (fun K' hK => ?_) AllReadyH.nil
          go_simp
          refine (C.out _).mono ?_
          rintro e w2 ⟨rfl, hb⟩
          replace OQ := hide (row_below OQ.out hb)
          replace KR := hide (btrans KR.out hb)
          replace X := hide (X.out.below hb)
          replace K := hide (btrans K.out hb)
          clear hb
          refine hK.out _ _ ?_ (fun hHeld => ?_)
          · exact FX.out _ KR.out
          clear hK K'
          (try simp only [Act.put, List.setIfInBounds_toArray, List.set_cons_succ, List.set_cons_zero])
          refine wpAnyH_take (i := 9) (oi := ⟨some 23, _, _, _, _, _⟩) (v := ?_) rfl (by kernel_rfl) (by kernel_rfl) (by kernel_rfl) (fun _ _ _ h => h) (Or.inl ⟨by kernel_rfl, ?_⟩) (by assumption) ?_
          rotate_left 1
          · (intro w hSw; (try dsimp only at hSw); go_simp) <;> (with_reducible rfl)
          (try simp only [Act.put, List.setIfInBounds_toArray, List.set_cons_succ, List.set_cons_zero])
          refine wpAnyH_done (by kernel_rfl) ?_ _
          refine NoPanic.normal ?_
          clear FX KR
          have RB2 := RB.out
          obtain ⟨y0, y1⟩ := FE.out _ K.out
          have M := bal (brefl w2) (.cells #[.int .i64 s, .int .i64 p] 26)
          have OQ2 := hide (row_below OQ.out M)
          have NB := hide (MB.news (MB.new w2 s p))
          have KM := hide (btrans K.out M)
          replace X := hide (X.out.below M)
          unfold mC at NB
          dsimp only at NB
          clear M OQ K
          have HBB := hide (show (g3 + 1) ≤ _ from X.out.lt)
          go_wp2_with (at_builtin; refine wpList_append_own _ rfl (.tmp 28) (.tmp 33) 22 rfl (g3 + 1) 26 i0 _ 2 16 Try.underlying22 hi0 hz0 hz1 hz2 rfl (by omega) (.slice A1 R.length c1) R.length (mcs R) rfl OQ2.out ⟨w2.heap.size, 0, none⟩ 1 1 [.int .i64 s, .int .i64 p] rfl rfl NB.out (by intro u hu; simp only [List.mem_cons, List.not_mem_nil, or_false] at hu; rcases hu with rfl | rfl <;> rfl) (by simp only [maxLen]; omega) (by omega) HBB.out ?_; intro v1 w9 hown1 hg1 _; obtain ⟨A2, c2, rfl, OQ, BG⟩ := push_next HBB.out OQ2.out hown1 hg1; replace OQ := hide OQ; have K := hide (KM.out.trans (BG.mono HLE.out)); replace X := hide (show MB w9 g3 ⟨t, q⟩ from (BG.block g3 (Nat.lt_succ_self _)).trans X.out); clear hown1 hg1 OQ2 NB KM BG HBB)
          have RL := hide (show (R ++ [(⟨s, p⟩ : Mp)]).length = R.length + 1 by simp)
          rw [← RL.out]
          generalize R ++ [(⟨s, p⟩ : Mp)] = R3 at *
          go_wp2
          go_roundw
          case rel => exact ⟨k + 1, A2, c2, R3, false, by omega, rfl, rfl, by go_num, OQ, K, X, hide (by rw [if_neg (by simp)]; exact G.out)⟩
          case measure => simp [intOf]; omega
      · have G := hide (ND.out rfl)
        clear ND NT NN
        go_upto_region 6 with fail
        have KD : Below wr.heap.size wr wr.drew := below_drewN (brefl _) 1
        replace X := hide (X.out.below KD)
        replace OQ := hide (row_below OQ.out KD)
        replace K := hide (btrans K.out KD)
        have KR := hide KD
        clear KD
        refine wp_region_noPanic ?_
        refine wp_region_held_drew (S := (fun _ => True)) (by kernel_rfl) ?_ (fun hHeld => ?_)
        · exact trivial
        generalize wr.drew = wd at *
        refine wpAnyH_take (i := 0) (oi := ⟨some 14, _, _, _, _, _⟩) (v := ?_) rfl (by kernel_rfl) (by kernel_rfl) (by kernel_rfl) (fun _ _ _ h => h) (Or.inl ⟨by kernel_rfl, ?_⟩) (by assumption) ?_
        rotate_left 1
        · (intro w hSw; (try dsimp only at hSw); go_simp) <;> (with_reducible rfl)
        (try simp only [Act.put, List.setIfInBounds_toArray, List.set_cons_succ, List.set_cons_zero])
        refine wpAnyH_take (i := 1) (oi := ⟨some 15, _, _, _, _, _⟩) (v := ?_) rfl (by kernel_rfl) (by kernel_rfl) (by kernel_rfl) (fun _ _ _ h => h) (Or.inl ⟨by kernel_rfl, ?_⟩) (by assumption) ?_
        rotate_left 1
        · (intro w hSw; (try dsimp only at hSw); go_simp) <;> (with_reducible rfl)
        (try simp only [Act.put, List.setIfInBounds_toArray, List.set_cons_succ, List.set_cons_zero])
        refine wpAnyH_take (i := 2) (oi := ⟨some 16, _, _, _, _, _⟩) (v := ?_) rfl (by kernel_rfl) (by kernel_rfl) (by kernel_rfl) (fun _ _ _ h => h) (Or.inl ⟨by kernel_rfl, ?_⟩) (by assumption) ?_
        rotate_left 1
        · (intro w hSw; (try dsimp only at hSw); go_simp) <;> (with_reducible rfl)
        (try simp only [Act.put, List.setIfInBounds_toArray, List.set_cons_succ, List.set_cons_zero])
        refine wpAnyH_take (i := 3) (oi := ⟨some 17, _, _, _, _, _⟩) (v := undef) rfl (by kernel_rfl) (by kernel_rfl) (by kernel_rfl) (fun _ _ _ h => h) (Or.inr ⟨by kernel_rfl, rfl⟩) (by assumption) ?_
        (try simp only [Act.put, List.setIfInBounds_toArray, List.set_cons_succ, List.set_cons_zero])
        refine wpAnyH_take (i := 4) (oi := ⟨some 18, _, _, _, _, _⟩) (v := undef) rfl (by kernel_rfl) (by kernel_rfl) (by kernel_rfl) (fun _ _ _ h => h) (Or.inr ⟨by kernel_rfl, rfl⟩) (by assumption) ?_
        (try simp only [Act.put, List.setIfInBounds_toArray, List.set_cons_succ, List.set_cons_zero])
        refine wpAnyH_take (i := 5) (oi := ⟨some 19, _, _, _, _, _⟩) (v := undef) rfl (by kernel_rfl) (by kernel_rfl) (by kernel_rfl) (fun _ _ _ h => h) (Or.inr ⟨by kernel_rfl, rfl⟩) (by assumption) ?_
        (try simp only [Act.put, List.setIfInBounds_toArray, List.set_cons_succ, List.set_cons_zero])
        refine wpAnyH_take (i := 6) (oi := ⟨some 20, _, _, _, _, _⟩) (v := undef) rfl (by kernel_rfl) (by kernel_rfl) (by kernel_rfl) (fun _ _ _ h => h) (Or.inr ⟨by kernel_rfl, rfl⟩) (by assumption) ?_
        (try simp only [Act.put, List.setIfInBounds_toArray, List.set_cons_succ, List.set_cons_zero])
        refine wpAnyH_take (i := 7) (oi := ⟨some 21, _, _, _, _, _⟩) (v := undef) rfl (by kernel_rfl) (by kernel_rfl) (by kernel_rfl) (fun _ _ _ h => h) (Or.inr ⟨by kernel_rfl, rfl⟩) (by assumption) ?_
        (try simp only [Act.put, List.setIfInBounds_toArray, List.set_cons_succ, List.set_cons_zero])
        refine wpAnyH_take (i := 8) (oi := ⟨some 22, _, _, _, _, _⟩) (v := undef) rfl (by kernel_rfl) (by kernel_rfl) (by kernel_rfl) (fun _ _ _ h => h) (Or.inr ⟨by kernel_rfl, rfl⟩) (by assumption) ?_
        (try simp only [Act.put, List.setIfInBounds_toArray, List.set_cons_succ, List.set_cons_zero])
        refine wpAnyH_take (i := 9) (oi := ⟨some 23, _, _, _, _, _⟩) (v := ?_) rfl (by kernel_rfl) (by kernel_rfl) (by kernel_rfl) (fun _ _ _ h => h) (Or.inl ⟨by kernel_rfl, ?_⟩) (by assumption) ?_
        rotate_left 1
        · (intro w hSw; (try dsimp only at hSw); go_simp) <;> (with_reducible rfl)
        (try simp only [Act.put, List.setIfInBounds_toArray, List.set_cons_succ, List.set_cons_zero])
        refine wpAnyH_done (by kernel_rfl) ?_ _
        refine NoPanic.normal ?_
        clear FX KR
        have RB2 := RB.out
        obtain ⟨y0, y1⟩ := FE.out _ K.out
        have M := bal (brefl wd) (.cells #[.int .i64 s, .int .i64 p] 26)
        have OQ2 := hide (row_below OQ.out M)
        have NB := hide (MB.news (MB.new wd s p))
        have KM := hide (btrans K.out M)
        replace X := hide (X.out.below M)
        unfold mC at NB
        dsimp only at NB
        clear M OQ K
        have HBB := hide (show (g3 + 1) ≤ _ from X.out.lt)
        go_wp2_with (at_builtin; refine wpList_append_own _ rfl (.tmp 28) (.tmp 33) 22 rfl (g3 + 1) 26 i0 _ 2 16 Try.underlying22 hi0 hz0 hz1 hz2 rfl (by omega) (.slice A1 R.length c1) R.length (mcs R) rfl OQ2.out ⟨wd.heap.size, 0, none⟩ 1 1 [.int .i64 s, .int .i64 p] rfl rfl NB.out (by intro u hu; simp only [List.mem_cons, List.not_mem_nil, or_false] at hu; rcases hu with rfl | rfl <;> rfl) (by simp only [maxLen]; omega) (by omega) HBB.out ?_; intro v1 w9 hown1 hg1 _; obtain ⟨A2, c2, rfl, OQ, BG⟩ := push_next HBB.out OQ2.out hown1 hg1; replace OQ := hide OQ; have K := hide (KM.out.trans (BG.mono HLE.out)); replace X := hide (show MB w9 g3 ⟨t, q⟩ from (BG.block g3 (Nat.lt_succ_self _)).trans X.out); clear hown1 hg1 OQ2 NB KM BG HBB)
        have RL := hide (show (R ++ [(⟨s, p⟩ : Mp)]).length = R.length + 1 by simp)
        rw [← RL.out]
        generalize R ++ [(⟨s, p⟩ : Mp)] = R3 at *
        go_wp2
        go_roundw
        case rel => exact ⟨k + 1, A2, c2, R3, true, by omega, rfl, rfl, by go_num, OQ, K, X, hide (by rw [if_pos rfl]; exact G.out)⟩
        case measure => simp [intOf]; omega
    · obtain rfl : k = L.length := by omega
      have RB := hide (show R.length ≤ 1002 from by
        have h1 := congrArg List.length N.out
        have h2 := RE.out
        rw [List.length_append] at h1
        omega)
      cases dn
      · have G := hide (show R ++ [(⟨t, q⟩ : Mp)] = F by have := N.out; rw [if_neg (by simp), List.drop_length] at this; exact this)
        have RB2 := RB.out
        obtain ⟨x0, x1⟩ := MB.cells X.out
        clear N
        have M := bal (brefl wr) (.cells #[.int .i64 t, .int .i64 q] 26)
        have OQ2 := hide (row_below OQ.out M)
        have NB := hide (MB.news (MB.new wr t q))
        have KM := hide (btrans K.out M)
        replace X := hide (X.out.below M)
        unfold mC at NB
        dsimp only at NB
        clear M OQ K
        have HBB := hide (show (g3 + 1) ≤ _ from X.out.lt)
        go_wp2_with (at_builtin; refine wpList_append_own _ rfl (.tmp 37) (.tmp 39) 22 rfl (g3 + 1) 26 i0 _ 2 16 Try.underlying22 hi0 hz0 hz1 hz2 rfl (by omega) (.slice A1 R.length c1) R.length (mcs R) rfl OQ2.out ⟨wr.heap.size, 0, none⟩ 1 1 [.int .i64 t, .int .i64 q] rfl rfl NB.out (by intro u hu; simp only [List.mem_cons, List.not_mem_nil, or_false] at hu; rcases hu with rfl | rfl <;> rfl) (by simp only [maxLen]; omega) (by omega) HBB.out ?_; intro v1 w9 hown1 hg1 _; obtain ⟨A2, c2, rfl, OQ, BG⟩ := push_next HBB.out OQ2.out hown1 hg1; replace OQ := hide OQ; have K := hide (KM.out.trans (BG.mono HLE.out)); replace X := hide (show MB w9 g3 ⟨t, q⟩ from (BG.block g3 (Nat.lt_succ_self _)).trans X.out); clear hown1 hg1 OQ2 NB KM BG HBB)
        have RL := hide (show (R ++ [(⟨t, q⟩ : Mp)]).length = R.length + 1 by simp)
        rw [← RL.out]
        rw [G.out] at OQ ⊢
        go_wp2
        go_ret
        exact ⟨A2, c2, rfl, row_mono OQ.out HLE.out, K.out⟩
      · have G := hide (show R = F by have := N.out; rw [if_pos rfl, List.drop_length, List.append_nil] at this; exact this)
        have G2 := G.out
        subst G2
        clear N
        go_wp2
        go_ret
        exact ⟨A1, c1, rfl, row_mono OQ.out HLE.out, K.out⟩
end Go.Proofs.Ytioffnpnoohbiaa.Rm
