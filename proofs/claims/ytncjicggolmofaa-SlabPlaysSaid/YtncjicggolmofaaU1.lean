import Derived.Test.YtncjicggolmofaaS3
import Derived.Test.YtncjicggolmofaaVt
namespace Go.Proofs.Ytncjicggolmofaa.Sb
open Go Go.RowKit
set_option linter.unusedVariables false
set_option linter.unusedSimpArgs false
/-- the free objects of a slab, at most n of them -/
def uO (f : Int) (l : By) (n : Nat) : Is := (nb f l.length l false l.length).take n
/-- the flags behind the use of these objects -/
def uS (m : Int) (l : By) (os : Is) : By := os.foldl (fun l x => l.set (x % m).toNat true) l
def uF (f : Int) (l : By) (n : Nat) : By := uS l.length l (uO f l n)
theorem uS_len (m : Int) : ∀ (os : Is) (l : By), (uS m l os).length = l.length
  | [], _ => rfl
  | x :: os, l => by
    show (uS m (l.set _ true) os).length = _
    rw [uS_len m os, List.length_set]
theorem uS_snoc (m : Int) (l : By) (os : Is) (x : Int) : uS m l (os ++ [x]) = (uS m l os).set (x % m).toNat true := by
  unfold uS; rw [List.foldl_append]; rfl
theorem uF_len (f : Int) (l : By) (n : Nat) : (uF f l n).length = l.length := uS_len _ _ _
theorem row_take {w : World} {base n c q : Nat} {t : TypeId} {A : Option Addr} {xs : List Value} (h : w.ownsRow base t 1 (.slice A n c) n xs) (hq : q ≤ n) : w.ownsRow base t 1 (.slice A q c) q (xs.take q) := by
  obtain ⟨hl, ⟨e, h0⟩ | ⟨g, cap, cur, e, hg, hh, h1, h2, h3, h4⟩⟩ := h
  · obtain rfl : q = 0 := by omega
    subst h0
    injection e with e1 _ e2
    subst e1 e2
    exact ⟨by simp, .inl ⟨rfl, rfl⟩⟩
  · injection e with e1 _ e2
    subst e1 e2
    refine ⟨by rw [List.length_take]; omega, .inr ⟨g, _, cur, rfl, hg, hh, by omega, h2, h3, ?_⟩⟩
    rw [Nat.mul_one, ← h4, List.take_take, Nat.mul_one, Nat.min_eq_left hq]
theorem nb_mem {f : Int} {l : By} (b : Bool) : ∀ k x, x ∈ nb f l.length l b k → ∃ j : Nat, j < k ∧ x = f * l.length + j
  | 0, x, h => by cases h
  | k + 1, x, h => by
    by_cases e : l.getD k false = b
    · rw [nb_1 e, List.mem_append] at h
      rcases h with h | h
      · obtain ⟨j, hj, r⟩ := nb_mem b k x h; exact ⟨j, by omega, r⟩
      · exact ⟨k, by omega, List.mem_singleton.1 h⟩
    · rw [nb_0 e] at h
      obtain ⟨j, hj, r⟩ := nb_mem b k x h; exact ⟨j, by omega, r⟩
theorem grown_set {w w' : World} {g a : Nat} {v : Value} (h : w.grownBy w' (some g)) : w.grownBy (w'.setCell ⟨g, a, none⟩ v) (some g) :=
  ⟨h.os, h.tape, h.output, by simpa using h.size, fun k hk hne => (heap_setCell_other w' ⟨g, a, none⟩ k v (fun e => hne (by subst e; rfl))).trans (h.block k hk hne)⟩
set_option maxRecDepth 100000 in
set_option maxHeartbeats 8000000 in
theorem use_any (B0 : Nat) (f : Int) (u : Value) (l : By) (n : Int) (w : World) (hu : w.ownsRow B0 4 1 u l.length (l.map bc)) (hf : 0 ≤ f ∧ f < 256) (hl0 : 1 ≤ l.length) (hl : l.length ≤ 32) (hn : 0 ≤ n) (hn2 : n ≤ 9223372036854775807) :
    Calls Try.prog 41 #[.agg #[.int .i64 f, u], .int .i64 n] w fun e w' => ∃ A2 c2, e = .returned (.slice A2 (uO f l n.toNat).length c2) ∧ OwI w.heap.size w' (.slice A2 (uO f l n.toNat).length c2) (uO f l n.toNat) ∧ w'.ownsRow B0 4 1 u l.length ((uF f l n.toNat).map bc) ∧ w.grownBy w' u.ownBlock := by
  obtain ⟨A0, c, eu, hcl⟩ := row_form hu
  subst eu
  obtain ⟨g, eA, hgl, hBg, _, _⟩ := row_cell hu (by omega)
  subst eA
  have hbs : Bs w (some ⟨g, 0, none⟩) l := by
    obtain ⟨A, c', e, _, h⟩ := (OwnBy.of_row hu).is
    injection e with e _ _
    subst e
    exact h
  have NM := hide (fun w' (h : Below w.heap.size w w') => nums_any f (some ⟨g, 0, none⟩) c l false w' (hbs.below h) hf hl)
  have HU := hide (fun w' (h : Below w.heap.size w w') => row_below hu h)
  have K := hide (bal (brefl w) (.cells #[.int .i64 f, .slice (some ⟨g, 0, none⟩) l.length c] 52))
  have X := hide (Box.new w 52 #[.int .i64 f, .slice (some ⟨g, 0, none⟩) l.length c])
  obtain ⟨g2, hg2⟩ : ∃ g, g = w.heap.size := ⟨_, rfl⟩
  have HG2 := hide hg2
  rw [← hg2] at X
  have hob : (Value.slice (some ⟨g, 0, none⟩) l.length c).ownBlock = some g := rfl
  rw [hob]
  clear hg2 hbs hu hob
  go_enter Try.func41, Try.ntmps41
  go_upto_region 1 with fail
  rw [← HG2.out]
  generalize (w.alloc (.cells #[.int .i64 f, .slice (some ⟨g, 0, none⟩) l.length c] 52)) = w1 at *
  obtain ⟨x0, x1⟩ : w1.cell? ⟨g2, 0, none⟩ = some (.int .i64 f) ∧ w1.cell? ⟨g2, 1, none⟩ = some (.slice (some ⟨g, 0, none⟩) l.length c) := ⟨X.out.cell 0, X.out.cell 1⟩
  go_wp2_with fail
  refine (NM.out _ K.out).mono ?_
  rintro e w2 ⟨⟨A2, c2, rfl, ho⟩, hb⟩
  obtain ⟨q, hq⟩ : ∃ q, q = (nb f l.length l false l.length).length := ⟨_, rfl⟩
  have hql : q ≤ 32 := by have := nb_len f l.length l false l.length; omega
  have HO := hide ho
  have HQ := hide hq
  rw [← hq] at HO ⊢
  obtain ⟨A3, c3, e2, hc2⟩ := row_form HO.out
  injection e2 with e3 e4 e2
  subst e3 e2
  clear e4
  replace X := hide (X.out.below hb)
  have HB := hide hb
  clear hb x0 x1 ho hq
  obtain ⟨n2, hn2e⟩ : ∃ n2 : Nat, n2 = min n.toNat q := ⟨_, rfl⟩
  have HN2 := hide hn2e
  have hc2q : (q : Int) ≤ c2 := by have := HQ.out; omega
  go_upto_region 3 with fail
  have hm : min n (q : Int) = (n2 : Int) := by
    rw [HN2.out]; omega
  rw [hm, Int.toNat_natCast]
  obtain ⟨L, hL⟩ : ∃ L, L = nb f l.length l false l.length := ⟨_, rfl⟩
  rw [← hL] at HQ HO
  have HLL := hide hL
  have hU : uO f l n.toNat = L.take n2 := by
    unfold uO
    rw [← hL, HN2.out]
    by_cases h : n.toNat ≤ q
    · rw [Nat.min_eq_left h]
    · rw [Nat.min_eq_right (by omega), List.take_of_length_le (by have := HQ.out; omega), List.take_of_length_le (by have := HQ.out; omega)]
  have hUl : (uO f l n.toNat).length = n2 := by rw [hU, List.length_take, ← HQ.out, HN2.out]; omega
  have HUL := hide hUl
  have HUU := hide hU
  have hq2 : n2 ≤ q := by rw [HN2.out]; omega
  have hmm : (IntKind.i64.wrap ((l.length : Nat) : Int)) = (l.length : Int) := by rw [IntKind.wrap_i64]; omega
  have GR := hide (show w.grownBy w2 (some g) from ⟨(btrans K.out HB.out).os, (btrans K.out HB.out).tape, (btrans K.out HB.out).output, (btrans K.out HB.out).size, fun k hk _ => (btrans K.out HB.out).block k hk⟩)
  have FR := hide (HU.out _ (btrans K.out HB.out))
  have HB1 := hide (show w.heap.size ≤ w1.heap.size from K.out.size)
  clear hm hL hU hUl HU HB NM hn2e
  go_wp2
  go_loopw [19] (fun i wr => ∃ j : Nat, j ≤ n2 ∧ i = .int .i64 j ∧ Hid (Box wr g2 52 #[.int .i64 f, .slice (some ⟨g, 0, none⟩) l.length c]) ∧ Hid (wr.ownsRow B0 4 1 (.slice (some ⟨g, 0, none⟩) l.length c) l.length ((uS l.length l (L.take j)).map bc)) ∧ Hid (OwI w1.heap.size wr (.slice A2 q c2) L) ∧ Hid (w.grownBy wr (some g))) (fun i _ => n2 - (intOf i).toNat)
  case atStart => exact ⟨0, Nat.zero_le _, rfl, X, FR, HO, GR⟩
  case round =>
    clear X FR HO GR
    obtain ⟨j, hj, rfl, X, FR, OO, GR⟩ := hrel
    by_cases hlt : j < n2
    · have hlt2 : (j : Int) < n2 := by omega
      have hjL : j < L.length := by have := HQ.out; omega
      obtain ⟨b2, o2, eA2, hl2, x2⟩ := (OO.out.bi).cells (brefl wr) hjL
      subst eA2
      obtain ⟨a, ha, hx⟩ := nb_mem (f := f) (l := l) false l.length (L.getD j 0) (by rw [← HLL.out, List.getD_eq_getElem?_getD, List.getElem?_eq_getElem hjL]; exact List.getElem_mem hjL)
      obtain ⟨x, hxe⟩ : ∃ x, x = L.getD j 0 := ⟨_, rfl⟩
      rw [← hxe] at x2 hx
      have TS := hide (show L.take (j + 1) = L.take j ++ [x] by rw [List.take_succ_eq_append_getElem hjL, hxe, List.getD_eq_getElem?_getD, List.getElem?_eq_getElem hjL]; rfl)
      have hfm : 0 ≤ f * (l.length : Int) := Int.mul_nonneg hf.1 (by omega)
      have hx0 : 0 ≤ x := by omega
      have hxm : x % (l.length : Int) = (a : Int) := by rw [hx, Int.add_comm, Int.add_mul_emod_self_right]; exact Int.emod_eq_of_lt (by omega) (by omega)
      have hxt : x.tmod (l.length : Int) = (a : Int) := by rw [Int.tmod_eq_emod_of_nonneg hx0, hxm]
      have HS := hide (show uS l.length l (L.take (j + 1)) = (uS l.length l (L.take j)).set a true by rw [TS.out, uS_snoc, hxm]; rfl)
      have hal : (a : Int) < (l.length : Int) := by omega
      have ha0 : (0 : Int) ≤ (a : Int) := by omega
      have hm0 : ¬ l = [] := by rintro rfl; exact absurd hl0 (by simp)
      have HXA := hide hx
      clear hxe hx hfm hxm TS
      go_upto_region 6 with fail
      have KD : Below wr.heap.size wr wr.drew := below_drewN (brefl _) 1
      replace X := hide (X.out.below KD)
      replace FR := hide (row_below FR.out KD)
      replace OO := hide (row_below OO.out KD)
      replace GR := hide (show w.grownBy wr.drew (some g) from ⟨(GR.out).os, (GR.out).tape, (GR.out).output, (GR.out).size, (GR.out).block⟩)
      clear KD x2
      refine wp_region_noPanic ?_
      refine wp_region_held_drew (S := (fun W => W.cell? ⟨g2, 1, none⟩ = some (.slice (some ⟨g, 0, none⟩) l.length c))) (by kernel_rfl) ?_ (fun hHeld => ?_)
      · exact X.out.cell 1
      generalize wr.drew = wd at *
      have x1 : wd.cell? ⟨g2, 1, none⟩ = some (.slice (some ⟨g, 0, none⟩) l.length c) := X.out.cell 1
      obtain ⟨cur, hxf, _⟩ := row_box FR.out
      have yf := hxf.frozen a
      obtain ⟨_, e3, _, _, hcf, _⟩ := row_cell FR.out (by omega)
      have ya := hcf a (.bool ((uS l.length l (L.take j)).getD a false)) (by rw [List.getElem?_map, List.getElem?_eq_getElem (by rw [uS_len]; omega), List.getD_eq_getElem?_getD, List.getElem?_eq_getElem (by rw [uS_len]; omega)]; rfl)
      injection e3 with e3; injection e3 with e3
      subst e3
      have X6 := hide (X.out.far (b := g) (i := a) (Box.ne X.out hxf (by decide)) (.bool true))
      refine wpAnyH_take (i := 0) (oi := ⟨some 23, _, _, _, _, _⟩) (v := ?_) rfl (by kernel_rfl) (by kernel_rfl) (by kernel_rfl) (fun _ _ _ h => h) (Or.inl ⟨by kernel_rfl, ?_⟩) (by assumption) ?_
      rotate_left 1
      · (intro w hSw; (try dsimp only at hSw); go_simp) <;> (with_reducible rfl)
      (try simp only [Act.put, List.setIfInBounds_toArray, List.set_cons_succ, List.set_cons_zero])
      refine wpAnyH_take (i := 1) (oi := ⟨some 24, _, _, _, _, _⟩) (v := ?_) rfl (by kernel_rfl) (by kernel_rfl) (by kernel_rfl) (fun _ _ _ h => h) (Or.inl ⟨by kernel_rfl, ?_⟩) (by assumption) ?_
      rotate_left 1
      · (intro w hSw; (try dsimp only at hSw); go_simp) <;> (with_reducible rfl)
      (try simp only [Act.put, List.setIfInBounds_toArray, List.set_cons_succ, List.set_cons_zero])
      refine wpAnyH_take (i := 2) (oi := ⟨some 25, _, _, _, _, _⟩) (v := ?_) rfl (by kernel_rfl) (by kernel_rfl) (by kernel_rfl) (fun _ _ _ h => h) (Or.inl ⟨by kernel_rfl, ?_⟩) (by assumption) ?_
      rotate_left 1
      · (intro w hSw; (try dsimp only at hSw); go_simp) <;> (with_reducible rfl)
      (try simp only [Act.put, List.setIfInBounds_toArray, List.set_cons_succ, List.set_cons_zero])
      refine wpAnyH_take (i := 3) (oi := ⟨some 26, _, _, _, _, _⟩) (v := ?_) rfl (by kernel_rfl) (by kernel_rfl) (by kernel_rfl) (fun _ _ _ h => h) (Or.inl ⟨by kernel_rfl, ?_⟩) (by assumption) ?_
      rotate_left 1
      · (intro w hSw; (try dsimp only at hSw); go_simp) <;> (with_reducible rfl)
      (try simp only [Act.put, List.setIfInBounds_toArray, List.set_cons_succ, List.set_cons_zero])
      refine wpAnyH_take (i := 4) (oi := ⟨some 27, _, _, _, _, _⟩) (v := ?_) rfl (by kernel_rfl) (by kernel_rfl) (by kernel_rfl) (fun _ _ _ h => h) (Or.inl ⟨by kernel_rfl, ?_⟩) (by assumption) ?_
      rotate_left 1
      · (intro w hSw; (try dsimp only at hSw); go_simp) <;> (with_reducible rfl)
      (try simp only [Act.put, List.setIfInBounds_toArray, List.set_cons_succ, List.set_cons_zero])
      refine wpAnyH_take (i := 5) (oi := ⟨some 28, _, _, _, _, _⟩) (v := ?_) rfl (by kernel_rfl) (by kernel_rfl) (by kernel_rfl) (fun _ _ _ h => h) (Or.inl ⟨by kernel_rfl, ?_⟩) (by assumption) ?_
      rotate_left 1
      · (intro w hSw; (try dsimp only at hSw); go_simp) <;> (with_reducible rfl)
      (try simp only [Act.put, List.setIfInBounds_toArray, List.set_cons_succ, List.set_cons_zero])
      refine wpAnyH_take (i := 6) (oi := ⟨some 29, _, _, _, _, _⟩) (v := ?_) rfl (by kernel_rfl) (by kernel_rfl) (by kernel_rfl) (fun _ _ _ h => h) (Or.inl ⟨by kernel_rfl, ?_⟩) (by assumption) ?_
      rotate_left 1
      · (intro w hSw; (try dsimp only at hSw); go_simp) <;> (with_reducible rfl)
      (try simp only [Act.put, List.setIfInBounds_toArray, List.set_cons_succ, List.set_cons_zero])
      refine wpAnyH_take (i := 7) (oi := ⟨some 30, _, _, _, _, _⟩) (v := ?_) rfl (by kernel_rfl) (by kernel_rfl) (by kernel_rfl) (fun _ _ _ h => h) (Or.inl ⟨by kernel_rfl, ?_⟩) (by assumption) ?_
      rotate_left 1
      · (intro w hSw; (try dsimp only at hSw); go_simp) <;> (with_reducible rfl)
      (try simp only [Act.put, List.setIfInBounds_toArray, List.set_cons_succ, List.set_cons_zero])
      refine wpAnyH_ready (rs := [8]) (by kernel_rfl) (by simp) ?_
      refine AllReadyH.cons (o := ⟨none, _, _, _, _, _⟩) rfl (fun K' hK => ?_) AllReadyH.nil
      go_simp
      refine hK.out _ _ ?_ (fun hHeld => ?_)
      · exact X6.out.cell 1
      clear hK K'
      (try simp only [Act.put, List.setIfInBounds_toArray, List.set_cons_succ, List.set_cons_zero])
      refine wpAnyH_done (by kernel_rfl) ?_ _
      refine NoPanic.normal ?_
      have FR6 := hide (show (wd.setCell ⟨g, a, none⟩ (.bool true)).ownsRow B0 4 1 (.slice (some ⟨g, 0, none⟩) l.length c) l.length ((uS l.length l (L.take (j + 1))).map bc) by
        rw [HS.out, bc_set]; exact row_set2 FR.out a (.bool true))
      have OO6 := hide (row_far (o := a) OO.out (own_ne_box OO.out hxf (by decide)) (.bool true))
      have GR6 := hide (grown_set (a := a) (v := .bool true) GR.out)
      clear FR OO GR X x1 yf ya hxf hcf HS hx0 hxt hal ha0 hm0 HXA
      go_wp2
      go_roundw
      case rel => first | exact ⟨j + 1, by omega, by omega, FR6, OO6⟩ | exact ⟨j + 1, by omega, by go_num, X6, FR6, OO6, GR6⟩ | ((repeat apply Exists.intro); exact ⟨⟨j + 1, by omega, by go_num, X6, FR6, OO6, GR6⟩, rfl⟩)
      case measure => simp [intOf]; omega
    · obtain rfl : j = n2 := by omega
      have h0 : wr.ownsRow w1.heap.size 3 1 (.slice A2 q c2) q (L.map ic) := by
        have h := OO.out
        unfold OwI at h
        rw [← HQ.out] at h
        exact h
      have OT := hide (row_mono (row_take h0 hq2) HB1.out)
      clear h0
      go_wp2
      go_ret
      rw [HUL.out]
      refine ⟨A2, c2, rfl, ?_, ?_, GR.out⟩
      · have h := OT.out
        rw [← List.map_take, ← HUU.out] at h
        unfold OwI
        rw [HUL.out]
        exact h
      · unfold uF
        rw [HUU.out]; exact FR.out
end Go.Proofs.Ytncjicggolmofaa.Sb
