import Derived.Test.YtimclgmajhhheaaG15
namespace Go.Proofs.Ytimclgmajhhheaa.Gr
open Go Go.RowKit Ac
set_option linter.unusedVariables false
set_option linter.unusedSimpArgs false
theorem qAt_drop (Q : List A4) (k j : Nat) : qAt (Q.drop k) j = qAt Q (k + j) := by
  unfold qAt
  rw [List.getD_eq_getElem?_getD, List.getElem?_drop, ← List.getD_eq_getElem?_getD]
theorem ck_drop {Q : List A4} (h : ckQ Q = 0) (k : Nat) : ckQ (Q.drop k) = 0 := by
  obtain ⟨a, d⟩ := ckQ_ok h
  refine ckQ_0 (fun j hj => ?_) (fun j hj i hi => ?_)
  · rw [List.length_drop] at hj
    rw [qAt_drop]; exact a _ (by omega)
  · rw [List.length_drop] at hj
    rw [qAt_drop, qAt_drop]; exact d (k + j) (by omega) (k + i) (by omega)
theorem sv_drop {Q : List A4} {L M : List A5} {k : Nat} (h : svE Q L = 0) (V : Vd M) (hl : M.length = L.length) : svE (Q.drop k) M = 0 := by
  obtain ⟨e1, e2, e3⟩ := sv_ok h
  refine sv_7 (ck_drop e1 k) (chE_0 V) (fun j hj => ?_)
  rw [List.length_drop] at hj
  rw [qAt_drop, hl]; exact e3 _ (by omega)
theorem sk_all {Q : List A4} {L : List A5} {n m : Int} (h : svE Q L = 0) : ∀ k, k ≤ Q.length → (∀ j, j < k → gr Q L n m j) → Sk Q L n m k
  | 0, _, _ => sk_0 (vd_of (sv_ok h).2.1)
  | k + 1, hk, g => sk_next (sk_all h k (by omega) (fun j hj => g j (by omega))) ((ckQ_ok (sv_ok h).1).1 k (by omega)) ((sv_ok h).2.2 k (by omega)) (g k (by omega))
theorem rest_0 (Q : List A4) (L : List A5) (n m : Int) : svK (Q.drop (svK Q L n m)) (svL Q L (svK Q L n m)) (n - sumK Q (svK Q L n m)) (m - sumT Q (svK Q L n m)) = 0 := by
  refine svK_eq (fun j h => by omega) (Nat.zero_le _) (fun h => ?_)
  rw [List.length_drop] at h
  have g := (svK_all Q L n m).2.2 (by omega)
  unfold gr svS at g ⊢
  rw [qAt_drop]
  show ¬ (shS (qAt Q (svK Q L n m)) (svL Q L (svK Q L n m)) (n - sumK Q (svK Q L n m) - 0) (m - sumT Q (svK Q L n m) - 0)).c ≤ 0
  rw [Int.sub_zero, Int.sub_zero]
  exact g
theorem Qs.drop {w : World} {b off : Nat} {Q : List A4} (h : Qs w (some ⟨b, off, none⟩) Q) (k : Nat) : Qs w (some ⟨b, off + k * 4, none⟩) (Q.drop k) := fun hne => by
  obtain ⟨b', off', e, hb, hc⟩ := h (by rintro rfl; simp at hne)
  injection e with e
  injection e with e1 e2
  subst e1 e2
  refine ⟨b, off + k * 4, rfl, hb, fun i hi j hj => ?_⟩
  rw [List.length_drop] at hi
  rw [qAt_drop, ← hc (k + i) (by omega) j hj]
  congr 2
  omega
theorem Qs.cutAt {w : World} {A : Option Addr} {Q : List A4} (h : Qs w A Q) {k cp : Nat} (hc : Q.length ≤ cp) (hk : k ≤ Q.length) : Qs w (if cp = k then A else Option.map (fun x => x.add (k * 4)) A) (Q.drop k) := fun hne => by
  have hlt : k < Q.length := by
    rcases Nat.lt_or_ge k Q.length with g | g
    · exact g
    · exact absurd (List.drop_eq_nil_of_le g) hne
  obtain ⟨b, off, e, _⟩ := h (by rintro rfl; simp at hne)
  subst e
  have ea : (if cp = k then some (⟨b, off, none⟩ : Addr) else Option.map (fun x => x.add (k * 4)) (some (⟨b, off, none⟩ : Addr))) = some ⟨b, off + k * 4, none⟩ := by
    rw [if_neg (by omega)]
    show some ((⟨b, off, none⟩ : Addr).add (k * 4)) = _
    unfold Addr.add
    by_cases g : k * 4 = 0 <;> simp [g]
  rw [ea]
  exact h.drop k hne
set_option maxRecDepth 100000 in
set_option maxHeartbeats 8000000 in
theorem law_rest (A : Option Addr) (cp : Nat) (Q : List A4) (B : Option Addr) (cq : Nat) (L : List A5) (n m : Int) (w : World) (hq : Qs w A Q) (hr : As w B L) (hQ : Q.length ≤ 9223372036854775807) (hQc : Q.length ≤ cp) (hcq : L.length ≤ cq) (hL : L.length ≤ 9223372036854775807) (hn : i64r n) (hm : i64r m) : Calls Try.prog 7 #[.slice A Q.length cp, .slice B L.length cq, .agg #[.int .i64 n, .int .i64 m]] w fun e w' => e = .returned (.bool (true)) ∧ Below w.heap.size w w' := by
  have AWK := hide (fun w => awake_any w)
  have Y := hide (Box.new w 36 #[.int .i64 n, .int .i64 m])
  have K := hide (bal (brefl w) (.cells #[.int .i64 n, .int .i64 m] 36))
  obtain ⟨W0, hW0⟩ : ∃ W0, W0 = w.alloc (.cells #[.int .i64 n, .int .i64 m] 36) := ⟨_, rfl⟩
  rw [← hW0] at Y K
  obtain ⟨g4, hg4⟩ : ∃ g4, g4 = w.heap.size := ⟨_, rfl⟩
  rw [← hg4] at Y
  have HW := hide hW0
  have HB := hide hg4
  clear hW0 hg4
  have FW := hide (fun w => few_any A B Q.length L.length cp cq w hQ hL)
  by_cases hf : (decide ((Q.length : Int) ≤ 20) && decide ((L.length : Int) ≤ 20)) = true
  rotate_left 1
  · have hf2 : (decide ((Q.length : Int) ≤ 20) && decide ((L.length : Int) ≤ 20)) = false := by simpa using hf
    rw [hf2] at FW
    clear hf hf2 hq hr Y
    go_enter Try.func7, Try.ntmps7
    go_upto_region 1 with fail
    rw [← HW.out]
    clear HW HB
    go_wp2_with fail
    refine (AWK.out _).mono ?_
    rintro e w1 ⟨rfl, hb⟩
    replace K := hide (btrans K.out hb)
    clear hb
    go_wp2_with fail
    refine (FW.out _).mono ?_
    rintro e w2 ⟨rfl, rfl⟩
    go_wp2_with fail
    refine (AWK.out _).mono ?_
    rintro e w3 ⟨rfl, hb⟩
    replace K := hide (btrans K.out hb)
    clear hb
    go_wp2
    go_ret
    exact ⟨rfl, K.out⟩
  have hq20 : Q.length ≤ 20 := by
    have := (Bool.and_eq_true _ _ ▸ hf).1
    have := of_decide_eq_true this
    omega
  rw [hf] at FW
  clear hf
  have VD := hide (fun w' (h : Below w.heap.size w w') => valid_any A cp Q B cq L w' (hq.below h) (hr.below h) (by omega) hcq hL)
  by_cases h0 : svE Q L = 0
  rotate_left 1
  · rw [decide_eq_false h0] at VD
    clear h0 hq hr Y
    go_enter Try.func7, Try.ntmps7
    go_upto_region 1 with fail
    rw [← HW.out]
    clear HW HB
    go_wp2_with fail
    refine (AWK.out _).mono ?_
    rintro e w1 ⟨rfl, hb⟩
    replace K := hide (btrans K.out hb)
    clear hb
    go_wp2_with fail
    refine (FW.out _).mono ?_
    rintro e w2 ⟨rfl, rfl⟩
    go_wp2_with fail
    refine (VD.out _ K.out).mono ?_
    rintro e w3 ⟨rfl, hb⟩
    replace K := hide (btrans K.out hb)
    clear hb
    go_wp2_with fail
    refine (AWK.out _).mono ?_
    rintro e w4 ⟨rfl, hb⟩
    replace K := hide (btrans K.out hb)
    clear hb
    go_wp2
    go_ret
    exact ⟨rfl, K.out⟩
  rw [decide_eq_true h0] at VD
  by_cases hn0 : n < 0
  · clear h0 hq hr
    go_enter Try.func7, Try.ntmps7
    go_upto_region 1 with fail
    rw [← HW.out, ← HB.out]
    clear HW HB
    go_wp2_with fail
    refine (AWK.out _).mono ?_
    rintro e w1 ⟨rfl, hb⟩
    replace K := hide (btrans K.out hb)
    replace Y := hide (Y.out.below hb)
    clear hb
    try clear y0 y1
    have y0 := Box.cell Y.out 0
    have y1 := Box.cell Y.out 1
    go_wp2_with fail
    refine (FW.out _).mono ?_
    rintro e w2 ⟨rfl, rfl⟩
    go_wp2_with fail
    refine (VD.out _ K.out).mono ?_
    rintro e w3 ⟨rfl, hb⟩
    replace K := hide (btrans K.out hb)
    replace Y := hide (Y.out.below hb)
    clear hb
    try clear y0 y1
    have y0 := Box.cell Y.out 0
    have y1 := Box.cell Y.out 1
    go_wp2_with fail
    refine (AWK.out _).mono ?_
    rintro e w4 ⟨rfl, hb⟩
    replace K := hide (btrans K.out hb)
    replace Y := hide (Y.out.below hb)
    clear hb
    go_wp2
    go_ret
    exact ⟨rfl, K.out⟩
  by_cases hm0 : m < 0
  · clear h0 hq hr
    go_enter Try.func7, Try.ntmps7
    go_upto_region 1 with fail
    rw [← HW.out, ← HB.out]
    clear HW HB
    go_wp2_with fail
    refine (AWK.out _).mono ?_
    rintro e w1 ⟨rfl, hb⟩
    replace K := hide (btrans K.out hb)
    replace Y := hide (Y.out.below hb)
    clear hb
    try clear y0 y1
    have y0 := Box.cell Y.out 0
    have y1 := Box.cell Y.out 1
    go_wp2_with fail
    refine (FW.out _).mono ?_
    rintro e w2 ⟨rfl, rfl⟩
    go_wp2_with fail
    refine (VD.out _ K.out).mono ?_
    rintro e w3 ⟨rfl, hb⟩
    replace K := hide (btrans K.out hb)
    replace Y := hide (Y.out.below hb)
    clear hb
    try clear y0 y1
    have y0 := Box.cell Y.out 0
    have y1 := Box.cell Y.out 1
    go_wp2_with fail
    refine (AWK.out _).mono ?_
    rintro e w4 ⟨rfl, hb⟩
    replace K := hide (btrans K.out hb)
    replace Y := hide (Y.out.below hb)
    clear hb
    go_wp2
    go_ret
    exact ⟨rfl, K.out⟩
  have SA := svK_all Q L n m
  have SKK := sk_all h0 _ SA.2.1 SA.1
  have SD := fun w' (h : Below w.heap.size w w') => served_any A cp Q B cq L n m w' (hq.below h) (hr.below h) (by omega) hcq hL hn hm hQc h0
  have R0 := rest_0 Q L n m
  have E0 := sv_drop (k := svK Q L n m) h0 SKK.vd SKK.len
  have bn := SKK.n0
  have bm := SKK.m0
  have bn1 := SKK.n1
  have bm1 := SKK.m1
  have hlM := SKK.len
  have hle := SA.2.1
  have HQ := hide (fun w' (h : Below w.heap.size w w') => hq.below h)
  clear SKK SA hq hr h0
  obtain ⟨k, hk⟩ : ∃ x, x = svK Q L n m := ⟨_, rfl⟩
  rw [← hk] at SD R0 E0 bn bm bn1 bm1 hlM hle
  obtain ⟨M, hM⟩ : ∃ x, x = svL Q L k := ⟨_, rfl⟩
  rw [← hM] at SD R0 E0 hlM
  obtain ⟨sk, hsk⟩ : ∃ x, x = sumK Q k := ⟨_, rfl⟩
  obtain ⟨st, hst⟩ : ∃ x, x = sumT Q k := ⟨_, rfl⟩
  rw [← hsk, ← hst] at SD R0
  rw [← hsk] at bn bn1
  rw [← hst] at bm bm1
  clear hk hM hsk hst
  unfold SdR at SD
  have SV := fun A c B c2 w' (h1 : Qs w' A (Q.drop k)) (h2 : As w' B M) (h3 : M.length ≤ c2) => serve_any A c (Q.drop k) B c2 M (n - sk) (m - st) w' h1 h2 (by rw [List.length_drop]; omega) h3 (by omega) (by unfold i64r at *; omega) (by unfold i64r at *; omega)
  unfold SvR at SV
  rw [E0, (sv_good E0).1, (sv_good E0).2, R0] at SV
  have e0 : svL (Q.drop k) M 0 = M := rfl
  rw [e0, hlM, List.length_drop, show ((0 : Nat) : Int) = 0 from rfl] at SV
  have hlM' := hide hlM
  replace SV := hide SV
  replace SD := hide SD
  clear E0 R0 e0 hlM
  unfold i64r at hn hm
  have wn : IntKind.i64.wrap (n - sk) = n - sk := IntWalk.i64_in _ (by omega)
  have wm : IntKind.i64.wrap (m - st) = m - st := IntWalk.i64_in _ (by omega)
  go_enter Try.func7, Try.ntmps7
  go_upto_region 1 with fail
  rw [← HW.out, ← HB.out]
  clear HW HB
  go_wp2_with fail
  refine (AWK.out _).mono ?_
  rintro e w1 ⟨rfl, hb⟩
  replace K := hide (btrans K.out hb)
  replace Y := hide (Y.out.below hb)
  clear hb
  try clear y0 y1
  have y0 := Box.cell Y.out 0
  have y1 := Box.cell Y.out 1
  go_wp2_with fail
  refine (FW.out _).mono ?_
  rintro e w2 ⟨rfl, rfl⟩
  go_wp2_with fail
  refine (VD.out _ K.out).mono ?_
  rintro e w3 ⟨rfl, hb⟩
  replace K := hide (btrans K.out hb)
  replace Y := hide (Y.out.below hb)
  clear hb
  try clear y0 y1
  have y0 := Box.cell Y.out 0
  have y1 := Box.cell Y.out 1
  go_wp2_with fail
  refine (SD.out _ K.out).mono ?_
  rintro e w4 ⟨A1, c1, rfl, hO, hb⟩
  have hO2 := hO
  rw [← hlM'.out] at hO2
  have O1 := hide (fun w' (h : Below w4.heap.size w4 w') => (owa_as hO2).1.below h)
  have C1 := hide (owa_as hO2).2
  have K1 := hide (brefl w4)
  clear hO hO2
  replace K := hide (btrans K.out hb)
  replace Y := hide (Y.out.below hb)
  clear hb
  clear SD VD FW y0 y1
  go_upto_region 6 with fail
  have hdr : Below w4.heap.size w4 w4.drew := below_drewN (brefl _) 1
  replace K := hide (btrans K.out hdr)
  replace K1 := hide (btrans K1.out hdr)
  replace Y := hide (Y.out.below hdr)
  clear hdr
  have hle1 : (k : Int) ≤ (Q.length : Int) := by omega
  have hle3 : (Q.length : Int) ≤ (cp : Int) := by omega
  have hle4 : (k : Int) ≤ (cp : Int) := by omega
  refine wp_region_noPanic ?_
  refine wp_region_held_drew (S := (fun W => W.cell? ⟨g4, 0, none⟩ = some (.int .i64 n) ∧ W.cell? ⟨g4, 1, none⟩ = some (.int .i64 m))) (by kernel_rfl) ?_ (fun hHeld => ?_)
  · exact ⟨Box.cell Y.out 0, Box.cell Y.out 1⟩
  refine wpAnyH_take (i := 0) (oi := ⟨some 56, _, _, _, _, _⟩) (v := ?_) rfl (by kernel_rfl) (by kernel_rfl) (by kernel_rfl) (fun _ _ _ h => h) (Or.inl ⟨by kernel_rfl, ?_⟩) (by assumption) ?_
  rotate_left 1
  · (intro w hSw; (try dsimp only at hSw); go_simp) <;> (with_reducible rfl)
  (try simp only [Act.put, List.setIfInBounds_toArray, List.set_cons_succ, List.set_cons_zero])
  refine wpAnyH_take (i := 1) (oi := ⟨some 57, _, _, _, _, _⟩) (v := ?_) rfl (by kernel_rfl) (by kernel_rfl) (by kernel_rfl) (fun _ _ _ h => h) (Or.inl ⟨by kernel_rfl, ?_⟩) (by assumption) ?_
  rotate_left 1
  · (intro w hSw; (try dsimp only at hSw); go_simp) <;> (with_reducible rfl)
  (try simp only [Act.put, List.setIfInBounds_toArray, List.set_cons_succ, List.set_cons_zero])
  refine wpAnyH_take (i := 2) (oi := ⟨some 58, _, _, _, _, _⟩) (v := ?_) rfl (by kernel_rfl) (by kernel_rfl) (by kernel_rfl) (fun _ _ _ h => h) (Or.inl ⟨by kernel_rfl, ?_⟩) (by assumption) ?_
  rotate_left 1
  · (intro w hSw; (try dsimp only at hSw); go_simp) <;> (with_reducible rfl)
  (try simp only [Act.put, List.setIfInBounds_toArray, List.set_cons_succ, List.set_cons_zero])
  refine wpAnyH_take (i := 3) (oi := ⟨some 59, _, _, _, _, _⟩) (v := ?_) rfl (by kernel_rfl) (by kernel_rfl) (by kernel_rfl) (fun _ _ _ h => h) (Or.inl ⟨by kernel_rfl, ?_⟩) (by assumption) ?_
  rotate_left 1
  · (intro w hSw; (try dsimp only at hSw); go_simp) <;> (with_reducible rfl)
  (try simp only [Act.put, List.setIfInBounds_toArray, List.set_cons_succ, List.set_cons_zero])
  refine wpAnyH_take (i := 4) (oi := ⟨some 60, _, _, _, _, _⟩) (v := ?_) rfl (by kernel_rfl) (by kernel_rfl) (by kernel_rfl) (fun _ _ _ h => h) (Or.inl ⟨by kernel_rfl, ?_⟩) (by assumption) ?_
  rotate_left 1
  · (intro w hSw; (try dsimp only at hSw); go_simp) <;> (with_reducible rfl)
  (try simp only [Act.put, List.setIfInBounds_toArray, List.set_cons_succ, List.set_cons_zero])
  refine wpAnyH_take (i := 5) (oi := ⟨some 61, _, _, _, _, _⟩) (v := ?_) rfl (by kernel_rfl) (by kernel_rfl) (by kernel_rfl) (fun _ _ _ h => h) (Or.inl ⟨by kernel_rfl, ?_⟩) (by assumption) ?_
  rotate_left 1
  · (intro w hSw; (try dsimp only at hSw); go_simp) <;> (with_reducible rfl)
  (try simp only [Act.put, List.setIfInBounds_toArray, List.set_cons_succ, List.set_cons_zero])
  refine wpAnyH_take (i := 6) (oi := ⟨some 62, _, _, _, _, _⟩) (v := ?_) rfl (by kernel_rfl) (by kernel_rfl) (by kernel_rfl) (fun _ _ _ h => h) (Or.inl ⟨by kernel_rfl, ?_⟩) (by assumption) ?_
  rotate_left 1
  · (intro w hSw; (try dsimp only at hSw); go_simp) <;> (with_reducible rfl)
  (try simp only [Act.put, List.setIfInBounds_toArray, List.set_cons_succ, List.set_cons_zero])
  refine wpAnyH_take (i := 7) (oi := ⟨some 63, _, _, _, _, _⟩) (v := ?_) rfl (by kernel_rfl) (by kernel_rfl) (by kernel_rfl) (fun _ _ _ h => h) (Or.inl ⟨by kernel_rfl, ?_⟩) (by assumption) ?_
  rotate_left 1
  · (intro w hSw; (try dsimp only at hSw); go_simp) <;> (with_reducible rfl)
  (try simp only [Act.put, List.setIfInBounds_toArray, List.set_cons_succ, List.set_cons_zero])
  refine wpAnyH_take (i := 8) (oi := ⟨some 64, _, _, _, _, _⟩) (v := ?_) rfl (by kernel_rfl) (by kernel_rfl) (by kernel_rfl) (fun _ _ _ h => h) (Or.inl ⟨by kernel_rfl, ?_⟩) (by assumption) ?_
  rotate_left 1
  · (intro w hSw; (try dsimp only at hSw); go_simp) <;> (with_reducible rfl)
  (try simp only [Act.put, List.setIfInBounds_toArray, List.set_cons_succ, List.set_cons_zero])
  refine wpAnyH_take (i := 9) (oi := ⟨some 65, _, _, _, _, _⟩) (v := ?_) rfl (by kernel_rfl) (by kernel_rfl) (by kernel_rfl) (fun _ _ _ h => h) (Or.inl ⟨by kernel_rfl, ?_⟩) (by assumption) ?_
  rotate_left 1
  · (intro w hSw; (try dsimp only at hSw); go_simp) <;> (with_reducible rfl)
  (try simp only [Act.put, List.setIfInBounds_toArray, List.set_cons_succ, List.set_cons_zero])
  refine wpAnyH_take (i := 10) (oi := ⟨some 66, _, _, _, _, _⟩) (v := ?_) rfl (by kernel_rfl) (by kernel_rfl) (by kernel_rfl) (fun _ _ _ h => h) (Or.inl ⟨by kernel_rfl, ?_⟩) (by assumption) ?_
  rotate_left 1
  · (intro w hSw; (try dsimp only at hSw); go_simp) <;> (with_reducible rfl)
  (try simp only [Act.put, List.setIfInBounds_toArray, List.set_cons_succ, List.set_cons_zero])
  refine wpAnyH_take (i := 11) (oi := ⟨some 67, _, _, _, _, _⟩) (v := ?_) rfl (by kernel_rfl) (by kernel_rfl) (by kernel_rfl) (fun _ _ _ h => h) (Or.inl ⟨by kernel_rfl, ?_⟩) (by assumption) ?_
  rotate_left 1
  · (intro w hSw; (try dsimp only at hSw); go_simp) <;> (with_reducible rfl)
  (try simp only [Act.put, List.setIfInBounds_toArray, List.set_cons_succ, List.set_cons_zero])
  refine wpAnyH_ready (rs := [12]) (by kernel_rfl) (by simp) ?_
  refine AllReadyH.cons (o := ⟨some 68, _, _, _, _, _⟩) rfl (fun K' hK => ?_) AllReadyH.nil
  go_simp
  refine (SV.out _ _ _ _ _ ((HQ.out _ K.out).cutAt hQc hle) (O1.out _ K1.out) (by have := C1.out; rw [hlM'.out] at this; exact this)).mono ?_
  rintro e w5 ⟨A2, c2, rfl, hO, hb⟩
  replace K := hide (btrans K.out hb)
  replace K1 := hide (btrans K1.out hb)
  replace Y := hide (Y.out.below hb)
  rw [← hlM'.out] at hO
  have HM := hide (owa_max hO)
  have R2 := hide (owa_as hO).1
  clear hb hO
  refine hK.out _ _ ?_ (fun hHeld => ?_)
  · exact ⟨Box.cell Y.out 0, Box.cell Y.out 1⟩
  clear hK K'
  (try simp only [Act.put, List.setIfInBounds_toArray, List.set_cons_succ, List.set_cons_zero])
  refine wpAnyH_take (i := 13) (oi := ⟨some 55, _, _, _, _, _⟩) (v := ?_) rfl (by kernel_rfl) (by kernel_rfl) (by kernel_rfl) (fun _ _ _ h => h) (Or.inl ⟨by kernel_rfl, ?_⟩) (by assumption) ?_
  rotate_left 1
  · (intro w hSw; (try dsimp only at hSw); go_simp) <;> (with_reducible rfl)
  (try simp only [Act.put, List.setIfInBounds_toArray, List.set_cons_succ, List.set_cons_zero])
  refine wpAnyH_take (i := 14) (oi := ⟨some 69, _, _, _, _, _⟩) (v := ?_) rfl (by kernel_rfl) (by kernel_rfl) (by kernel_rfl) (fun _ _ _ h => h) (Or.inl ⟨by kernel_rfl, ?_⟩) (by assumption) ?_
  rotate_left 1
  · (intro w hSw; (try dsimp only at hSw); go_simp) <;> (with_reducible rfl)
  (try simp only [Act.put, List.setIfInBounds_toArray, List.set_cons_succ, List.set_cons_zero])
  refine wpAnyH_take (i := 15) (oi := ⟨some 70, _, _, _, _, _⟩) (v := ?_) rfl (by kernel_rfl) (by kernel_rfl) (by kernel_rfl) (fun _ _ _ h => h) (Or.inl ⟨by kernel_rfl, ?_⟩) (by assumption) ?_
  rotate_left 1
  · (intro w hSw; (try dsimp only at hSw); go_simp) <;> (with_reducible rfl)
  (try simp only [Act.put, List.setIfInBounds_toArray, List.set_cons_succ, List.set_cons_zero])
  refine wpAnyH_take (i := 16) (oi := ⟨some 71, _, _, _, _, _⟩) (v := ?_) rfl (by kernel_rfl) (by kernel_rfl) (by kernel_rfl) (fun _ _ _ h => h) (Or.inl ⟨by kernel_rfl, ?_⟩) (by assumption) ?_
  rotate_left 1
  · (intro w hSw; (try dsimp only at hSw); go_simp) <;> (with_reducible rfl)
  (try simp only [Act.put, List.setIfInBounds_toArray, List.set_cons_succ, List.set_cons_zero])
  refine wpAnyH_take (i := 17) (oi := ⟨some 12, _, _, _, _, _⟩) (v := ?_) rfl (by kernel_rfl) (by kernel_rfl) (by kernel_rfl) (fun _ _ _ h => h) (Or.inl ⟨by kernel_rfl, ?_⟩) (by assumption) ?_
  rotate_left 1
  · (intro w hSw; (try dsimp only at hSw); go_simp) <;> (with_reducible rfl)
  (try simp only [Act.put, List.setIfInBounds_toArray, List.set_cons_succ, List.set_cons_zero])
  refine wpAnyH_take (i := 18) (oi := ⟨some 13, _, _, _, _, _⟩) (v := ?_) rfl (by kernel_rfl) (by kernel_rfl) (by kernel_rfl) (fun _ _ _ h => h) (Or.inl ⟨by kernel_rfl, ?_⟩) (by assumption) ?_
  rotate_left 1
  · (intro w hSw; (try dsimp only at hSw); go_simp) <;> (with_reducible rfl)
  (try simp only [Act.put, List.setIfInBounds_toArray, List.set_cons_succ, List.set_cons_zero])
  refine wpAnyH_take (i := 19) (oi := ⟨some 14, _, _, _, _, _⟩) (v := ?_) rfl (by kernel_rfl) (by kernel_rfl) (by kernel_rfl) (fun _ _ _ h => h) (Or.inl ⟨by kernel_rfl, ?_⟩) (by assumption) ?_
  rotate_left 1
  · (intro w hSw; (try dsimp only at hSw); go_simp) <;> (with_reducible rfl)
  (try simp only [Act.put, List.setIfInBounds_toArray, List.set_cons_succ, List.set_cons_zero])
  refine wpAnyH_done (by kernel_rfl) ?_ _
  refine NoPanic.normal ?_
  rw [← hlM'.out]
  go_wp2_with fail
  all_goals
    refine (same_refl A1 A2 c1 c2 M _ (O1.out _ K1.out) R2.out HM.out).mono ?_
    rintro e w6 ⟨rfl, hb⟩
    replace K := hide (btrans K.out hb)
    clear hb
    go_wp2
    go_ret
    exact ⟨rfl, K.out⟩
end Go.Proofs.Ytimclgmajhhheaa.Gr
