import Derived.Test.YtinoddpdfknkbabBw
import Derived.Test.YtinoddpdfknkbabRr
namespace Go.Proofs.Ytinoddpdfknkbab.Pc
open Go Go.RowKit Go.Shelf
set_option linter.unusedVariables false
set_option maxHeartbeats 8000000 in
set_option maxRecDepth 100000 in
theorem refill_no (v : Value) (C : Ls) (z : Int) (Af : Option Addr) (cf : Nat) (fs : Is) (w : World) (h : CaIn w v C) (hS : Sz 1000 1000 C) (hq : Bi w Af fs) (hcf : fs.length ≤ cf) (hn : fs.length ≤ 1000) (hne : rfE C z fs ≠ 0) : Calls Try.prog 25 #[v, .int .i64 z, .slice Af fs.length cf] w (R2 (rfC C z fs) (rfE C z fs) w) := by
  have hI := h
  obtain ⟨A, c, rfl, hc, r⟩ := h
  obtain ⟨W0, hW0⟩ : ∃ W0, W0 = (((w.alloc (.cells #[.slice A C.length c] 24)).alloc (.cells #[.int .i64 z] 3)).alloc (.cells #[.slice none 0 0] 24)) := ⟨_, rfl⟩
  have K0 := hide (show Below w.heap.size w W0 by rw [hW0]; exact bal (bal (bal (brefl w) _) _) _)
  have X1 := hide (show Box W0 w.heap.size 24 #[.slice A C.length c] by rw [hW0]; exact ((Box.new w 24 _).more _).more _)
  have X3 := hide (show Box W0 (w.heap.size + 1) 3 #[.int .i64 z] by rw [hW0]; exact (Box.new2 w _ 3 _).more _)
  have X2 := hide (show Box W0 (w.heap.size + 1 + 1) 24 #[.slice none 0 0] by rw [hW0]; exact Box.new3 w _ _ 24 _)
  have CZ := hide (cz_any _ C z W0 (hI.below K0.out) hS)
  have HI := hide hI
  have HS := hide hS
  have Q := hide hq
  have ln := hS.1
  have HW := hide hW0
  have e2 : rfC C z fs = [] := by unfold rfC; rw [if_neg hne]
  rw [e2]
  clear r hI hS hW0 hq e2
  by_cases h0 : czE C z = 0
  · obtain ⟨_, hfv, hz0, hz1⟩ := czE_zero.1 h0
    have HA := hide (show ∀ k, k < C.length → ∀ f ∈ lAt C k, fr f = true from fun k hk f hf => by
      have := (frE_zero.1 hfv).1 f (flat_mem hk hf)
      simpa [fr] using this)
    rw [h0] at CZ
    have e1 := rfE_zero (fs := fs) h0
    rw [e1] at hne ⊢
    have CN := hide (fun W (hb : Below w.heap.size w W) => cn_any _ C Af cf fs W (HI.out.below hb) HS.out HA.out (Q.out.below hb) hn)
    have hd : (nwE C.flatten fs != 0) = true := by simpa using hne
    clear e1 h0 hfv hz0 hz1 hne
    generalize nwE C.flatten fs = er at *
    go_enter Try.func25, Try.ntmps25
    go_upto_region 1 with fail
    obtain rfl := HW.out
    clear HW
    have s1 := cell_box1 X1.out
    have s3 := cell_box1 X3.out
    go_wp2_with fail
    refine CZ.out.mono ?_
    rintro e w1 ⟨rfl, hb⟩
    replace K0 := hide (btrans K0.out hb)
    replace X1 := hide (X1.out.below hb)
    replace X2 := hide (X2.out.below hb)
    replace X3 := hide (X3.out.below hb)
    clear hb s1 s3 CZ
    have s1 := cell_box1 X1.out
    have s2 := cell_box1 X2.out
    have f2 := X2.out.frozen 0
    have s3 := cell_box1 X3.out
    go_wp2_with fail
    refine (CN.out _ K0.out).mono ?_
    rintro e w2 ⟨rfl, hb⟩
    replace K0 := hide (btrans K0.out hb)
    replace X2 := hide (X2.out.below hb)
    clear hb s1 s2 s3 f2
    have s2 := cell_box1 X2.out
    have f2 := X2.out.frozen 0
    go_wp2
    exact ret_c2 Try.results25 rfl rfl rfl (X2.out.put 0 _) ⟨none, 0, rfl, Nat.le_refl _, RdO.nil _, bset K0.out (p := ⟨w.heap.size + 1 + 1, 0, none⟩) (by show w.heap.size ≤ w.heap.size + 1 + 1; omega) _⟩
  · have hd : (czE C z != 0) = true := by simpa using h0
    have e1 : rfE C z fs = czE C z := by unfold rfE; rw [if_pos h0]
    rw [e1]
    clear e1 h0 hne
    generalize czE C z = er at *
    go_enter Try.func25, Try.ntmps25
    go_upto_region 1 with fail
    obtain rfl := HW.out
    clear HW
    have s1 := cell_box1 X1.out
    have s3 := cell_box1 X3.out
    go_wp2_with fail
    refine CZ.out.mono ?_
    rintro e w1 ⟨rfl, hb⟩
    replace K0 := hide (btrans K0.out hb)
    replace X1 := hide (X1.out.below hb)
    replace X2 := hide (X2.out.below hb)
    replace X3 := hide (X3.out.below hb)
    clear hb s1 s3 CZ
    have s1 := cell_box1 X1.out
    have s2 := cell_box1 X2.out
    have f2 := X2.out.frozen 0
    have s3 := cell_box1 X3.out
    go_wp2
    exact ret_c2 Try.results25 rfl rfl rfl (X2.out.put 0 _) ⟨none, 0, rfl, Nat.le_refl _, RdO.nil _, bset K0.out (p := ⟨w.heap.size + 1 + 1, 0, none⟩) (by show w.heap.size ≤ w.heap.size + 1 + 1; omega) _⟩
attribute [local go_sem] Oper.semAt_some
theorem row_own_ge {base n size : Nat} {t : TypeId} {v : Value} {xs : List Value} {w : World} (h : w.ownsRow base t size v n xs) {k : Nat} (hk : k < base) : some k ≠ v.ownBlock := by
  obtain ⟨_, ⟨rfl, rfl⟩ | ⟨g, cap, cur, rfl, hgb, hh, _⟩⟩ := h
  · exact Option.some_ne_none _
  · intro e
    have : k = g := by simpa [Value.ownBlock] using e
    omega
/-- all cells lie as they lay -/
def Nc (W W' : World) : Prop := ∀ (k : Nat) (cs : Array Value) (t : TypeId), W.heap[k]? = some (.cells cs t (0, 0)) → W'.heap[k]? = some (.cells cs t (0, 0))
theorem nc_of_grown {W W' : World} {row : Option Nat} (hg : W.grownBy W' row) (hr : ∀ r, row = some r → ∃ o : Obj, W.heap[r]? = some o ∧ o.isCells = false) : Nc W W' := fun k cs t h =>
  (hg.block k (blk_lt h) (fun e => by
    obtain ⟨o, ho, hc⟩ := hr k e.symm
    rw [h] at ho; injection ho with ho; subst ho; cases hc)).trans h
theorem Box.nc {W W' : World} {g : Nat} {t : TypeId} {cs : Array Value} (h : Box W g t cs) (hn : Nc W W') : Box W' g t cs := hn g cs t h
theorem row_nc {W W' : World} {base n size : Nat} {t : TypeId} {v : Value} {xs : List Value} (h : W.ownsRow base t size v n xs) (hn : Nc W W') : W'.ownsRow base t size v n xs := by
  obtain ⟨hl, h | ⟨g, cap, cur, e, hg, hh, r⟩⟩ := h
  · exact ⟨hl, .inl h⟩
  · exact ⟨hl, .inr ⟨g, cap, cur, e, hg, hn _ _ _ hh, r⟩⟩
theorem OwnV.nc {W W' : World} {B : Nat} {v : Value} {C : Ls} {vs : List Value} (h : OwnV B W v C vs) (hn : Nc W W') : OwnV B W' v C vs := ⟨h.len, row_nc h.row hn, fun k u hu => row_nc (h.inn k u hu) hn, h.dis⟩
theorem OwnI.nc {W W' : World} {v : Value} {l : Is} (h : OwnI W v l) (hn : Nc W W') : OwnI W' v l := by
  obtain ⟨A, c, e, hc, h⟩ := h
  refine ⟨A, c, e, hc, fun hne => ?_⟩
  obtain ⟨b, off, cur, e, hh, ht⟩ := h hne
  exact ⟨b, off, cur, e, hn _ _ _ hh, ht⟩
theorem OwnR.nc {W W' : World} {B : Nat} {v : Value} {C : Ls} {vs : List Value} (h : OwnR B W v C vs) (hn : Nc W W') : OwnR B W' v C vs := ⟨h.len, row_nc h.row hn, fun k u hu => (h.inn k u hu).nc hn⟩
set_option maxHeartbeats 8000000 in
set_option maxRecDepth 100000 in
theorem refill_ok (v : Value) (C : Ls) (z : Int) (Af : Option Addr) (cf : Nat) (fs : Is) (w : World) (h : CaIn w v C) (hS : Sz 1000 1000 C) (hq : Bi w Af fs) (hcf : fs.length ≤ cf) (hn : fs.length ≤ 1000) (hne : rfE C z fs = 0) : CallsIn Fence.wide 9 Try.prog 25 #[v, .int .i64 z, .slice Af fs.length cf] w (R2 (rfC C z fs) (rfE C z fs) w) := by
  have hI := h
  obtain ⟨A, c, rfl, hc, r⟩ := h
  obtain ⟨W0, hW0⟩ : ∃ W0, W0 = (((w.alloc (.cells #[.slice A C.length c] 24)).alloc (.cells #[.int .i64 z] 3)).alloc (.cells #[.slice none 0 0] 24)) := ⟨_, rfl⟩
  have K0 := hide (show Below w.heap.size w W0 by rw [hW0]; exact bal (bal (bal (brefl w) _) _) _)
  have X1 := hide (show Box W0 w.heap.size 24 #[.slice A C.length c] by rw [hW0]; exact ((Box.new w 24 _).more _).more _)
  have X3 := hide (show Box W0 (w.heap.size + 1) 3 #[.int .i64 z] by rw [hW0]; exact (Box.new2 w _ 3 _).more _)
  have X2 := hide (show Box W0 (w.heap.size + 1 + 1) 24 #[.slice none 0 0] by rw [hW0]; exact Box.new3 w _ _ 24 _)
  have CZ := hide (cz_any _ C z W0 (hI.below K0.out) hS)
  have HI := hide hI
  have HS := hide hS
  have Q := hide hq
  have ln := hS.1
  have HW := hide hW0
  have h0 : czE C z = 0 := by
    rcases Classical.em (czE C z = 0) with h | h
    · exact h
    · unfold rfE at hne; rw [if_pos h] at hne; exact hne
  obtain ⟨_, hfv, hz0, hz1⟩ := czE_zero.1 h0
  have HA := hide (show ∀ k, k < C.length → ∀ f ∈ lAt C k, fr f = true from fun k hk f hf => by
    have := (frE_zero.1 hfv).1 f (flat_mem hk hf)
    simpa [fr] using this)
  rw [h0] at CZ
  obtain ⟨k, rfl⟩ : ∃ k : Nat, z = k := ⟨z.toNat, by omega⟩
  have hk : k < C.length := by omega
  have e2 : rfC C k fs = C.set k (lAt C k ++ fs.reverse) := by unfold rfC; rw [if_pos hne, Int.toNat_natCast]
  have CN := hide (fun W (hb : Below w.heap.size w W) => cn_any _ C Af cf fs W (HI.out.below hb) HS.out HA.out (Q.out.below hb) hn)
  have e1 := rfE_zero (fs := fs) h0
  rw [e1] at hne
  rw [hne] at CN
  rw [e1, hne, e2]
  clear r hI hS hq e1 e2 h0 hfv hz0 hz1 hne
  obtain rfl := hW0
  clear HW
  refine callsIn_of_wp_marks Try.func25 rfl trivial ?_ rfl
  simp only [Try.ntmps25, List.size_toArray, List.length_cons, List.length_nil, Nat.reduceAdd, Nat.reduceSub, Array.replicate_succ, Array.replicate_zero, List.push_toArray, List.append_toArray, List.nil_append, List.cons_append]
  have s1 := cell_box1 X1.out
  have s3 := cell_box1 X3.out
  gi_wp2_with fail
  refine ⟨trivial, (callsIn_wide.2 CZ.out).mono ?_⟩
  rintro e w1 ⟨rfl, hb⟩
  replace K0 := hide (btrans K0.out hb)
  replace X1 := hide (X1.out.below hb)
  replace X2 := hide (X2.out.below hb)
  replace X3 := hide (X3.out.below hb)
  clear hb s1 s3 CZ
  have s1 := cell_box1 X1.out
  gi_wp2_with fail
  refine ⟨trivial, (callsIn_wide.2 (CN.out _ K0.out)).mono ?_⟩
  rintro e w2 ⟨rfl, hb⟩
  replace K0 := hide (btrans K0.out hb)
  replace X1 := hide (X1.out.below hb)
  replace X2 := hide (X2.out.below hb)
  replace X3 := hide (X3.out.below hb)
  have CL := hide (clone_any _ C w2 (HI.out.below K0.out) HS.out)
  unfold CaR at CL
  clear hb s1 CN
  have s1 := cell_box1 X1.out
  gi_wp2_with fail
  refine ⟨trivial, (callsIn_wide.2 CL.out).mono ?_⟩
  rintro e w3 ⟨A2, c2, vs, rfl, hc2, hov2, hb⟩
  have HB2 := hide X3.out.lt
  have HB3 := hide K0.out.size
  have hge2 : w.heap.size ≤ w.heap.size + 1 + 1 := by omega
  obtain ⟨G, rfl, hGw⟩ := (show ∃ G, A2 = some ⟨G, 0, none⟩ ∧ w2.heap.size ≤ G by
    obtain ⟨g, e, h1, h2, _⟩ := row_cell hov2.row (show C.length ≠ 0 by omega)
    exact ⟨g, e, h2⟩)
  have K := hide (bal (bal (btrans K0.out hb) (.cells #[(.slice (some ⟨G, 0, none⟩) C.length c2)] 24)) (.cells #[.slice Af fs.length cf] 34))
  have KB := bal (bal hb (.cells #[(.slice (some ⟨G, 0, none⟩) C.length c2)] 24)) (.cells #[.slice Af fs.length cf] 34)
  replace X2 := hide (X2.out.below KB)
  replace X3 := hide (X3.out.below KB)
  have X9 := hide ((Box.new w3 24 #[(.slice (some ⟨G, 0, none⟩) C.length c2)]).more (.cells #[.slice Af fs.length cf] 34))
  have XB := hide (Box.new (w3.alloc (.cells #[(.slice (some ⟨G, 0, none⟩) C.length c2)] 24)) 34 #[.slice Af fs.length cf])
  have HBq := hide KB.size
  have OV := hide (hov2.below (bal (bal (brefl w3) (.cells #[(.slice (some ⟨G, 0, none⟩) C.length c2)] 24)) (.cells #[.slice Af fs.length cf] 34)))
  have HGw := hide (Nat.le_trans K0.out.size hGw)
  have hGlt : G < w3.heap.size := (row_set_box hov2.row).choose_spec.1.lt
  have BW := hide (bw_any Af fs.length cf (w3.alloc (.cells #[(.slice (some ⟨G, 0, none⟩) C.length c2)] 24)))
  clear CL hov2 hb hGw KB s1 K0 X1
  gi_wp2_with fail
  refine ⟨trivial, (callsIn_wide.2 BW.out).mono ?_⟩
  rintro e w5 ⟨rfl, hw5⟩
  rw [alloc_size'] at XB ⊢
  rw [hw5] at K X2 X3 X9 XB OV HBq
  clear hw5 BW
  gi_wp2_with fail
  refine wpIn_rangeFunc_ownG rfl (by omega) (gf := 41) (lb := #[.pointer (some ⟨w3.heap.size + 1, 0, none⟩)]) rfl trivial (enters_of Try.func41 (by kernel_rfl) rfl)
    (bw_stops _ (w3.heap.size + 1) w.heap.size cf (by omega) Af fs w w5 (by omega) Q.out rfl K.out XB.out) KpS.t (KpS.b K.out.size) (Below.refl _ _) (fun _ => rfl)
    (fun pre W => ∃ vs, OwnV w2.heap.size W (.slice (some ⟨G, 0, none⟩) C.length c2) (C.set k (lAt C k ++ pre.map Prod.snd)) vs ∧ Box W w3.heap.size 24 #[.slice (some ⟨G, 0, none⟩) C.length c2] ∧ Box W (w.heap.size + 1 + 1) 24 #[.slice none 0 0] ∧ Box W (w.heap.size + 1) 3 #[.int .i64 k] ∧ Below w.heap.size w W ∧ w2.heap.size ≤ W.heap.size)
    (fun _ _ _ => False) ?own (fun _ _ _ _ _ hs _ _ => hs) ?start (fun x => { tmps := #[Value.agg #[Value.slice A C.length c], Value.int IntKind.i64 k, Value.slice Af fs.length cf, Value.pointer (some ⟨w.heap.size, 0, none⟩), Value.pointer (some ⟨w.heap.size + 1, 0, none⟩), undef, Value.pointer (some ⟨w.heap.size + 1 + 1, 0, none⟩), Value.int IntKind.i64 0, Value.int IntKind.i64 0, Value.int IntKind.i64 0, Value.pointer (some ⟨w3.heap.size, 0, none⟩), undef, Value.int IntKind.i64 x.2, Value.agg #[Value.slice A C.length c], Value.int IntKind.i64 k, Value.int IntKind.i64 0, Value.int IntKind.i64 0, Value.bool false, undef, undef, Value.agg #[Value.slice A C.length c], Value.slice Af fs.length cf, Value.int IntKind.i64 0, Value.int IntKind.i64 0, Value.bool false, undef, undef, Value.agg #[Value.slice A C.length c], Value.agg #[Value.slice (some ⟨G, 0, none⟩) C.length c2], Value.slice Af fs.length cf, Value.func (Fn.func 41) #[] #[Value.pointer (some ⟨w3.heap.size + 1, 0, none⟩)], Value.int IntKind.i64 x.1, Value.int IntKind.i64 x.2, undef, undef, undef, undef, undef, undef, undef, undef, undef, undef, undef, undef, undef], defers := [] }) ?assign ?body ?done ?stop
  case own =>
    rintro pre W W' row ⟨vs, h1, h2, h3, h4, h5, h6⟩ hg hr
    have hn := nc_of_grown hg (fun r e => (hr r e).2)
    exact ⟨vs, h1.nc hn, h2.nc hn, h3.nc hn, h4.nc hn, h5.grown hg h5.size (fun r e => Nat.le_trans K.out.size (hr r e).1), Nat.le_trans h6 hg.size⟩
  case start => exact ⟨vs, by rw [List.map_nil, List.append_nil, rset_same hk]; exact OV.out, X9.out, X2.out, X3.out, K.out, HBq.out⟩
  case assign =>
    intro l x W K hK
    gi_wp2
    exact hK
  case body =>
    rintro l pre ⟨xi, f⟩ wr ⟨vs, h1, h2, h3, h4, h5, h6⟩ hlen
    have OV := hide h1
    have X9 := hide h2
    have X2 := hide h3
    have X3 := hide h4
    have K := hide (And.intro h5 h6)
    obtain ⟨D, hD⟩ : ∃ D, D = C.set k (lAt C k ++ pre.map Prod.snd) := ⟨_, rfl⟩
    rw [← hD] at OV
    have HDL := hide (show D.length = C.length by rw [hD, List.length_set])
    have hDk : lAt D k = lAt C k ++ pre.map Prod.snd := by rw [hD, lAt_set hk, if_pos rfl]
    have HLD := hide (show (lAt D k).length ≤ 3000 by
      rw [hDk, List.length_append, List.length_map]
      have := HS.out.2 k hk
      omega)
    have HDS := hide (show D.set k (lAt D k ++ [f]) = C.set k (lAt C k ++ (pre ++ [(xi, f)]).map Prod.snd) by rw [hDk, hD, List.set_set, List.map_append, List.append_assoc]; rfl)
    have hkD : k < D.length := by rw [HDL.out]; exact hk
    clear h1 h2 h3 h4 h5 h6 hD hDk hlen
    obtain ⟨u0, hvk⟩ : ∃ u0, vs[k]? = some u0 := ⟨_, List.getElem?_eq_getElem (show k < vs.length by rw [OV.out.len]; exact hkD)⟩
    have hu0 := OV.out.inn k u0 hvk
    obtain ⟨U, cu, e0, hcu⟩ := row_form hu0
    subst e0
    obtain ⟨m, hm⟩ : ∃ m, m = (lAt D k).length := ⟨_, rfl⟩
    have lm : m ≤ 3000 := by rw [hm]; exact HLD.out
    rw [← hm] at hvk hu0
    have HM := hide hm
    have HVK := hide hvk
    have KD := below_drew (brefl wr)
    have hB0 : w2.heap.size ≤ wr.heap.size := K.out.2
    replace OV := hide (OV.out.below KD)
    replace X9 := hide (X9.out.below KD)
    replace X2 := hide (X2.out.below KD)
    replace X3 := hide (X3.out.below KD)
    have K1 := hide (btrans K.out.1 KD)
    have hu0 := row_below hu0 KD
    clear hvk hm
    obtain ⟨wd, hwd⟩ : ∃ wd, wd = wr.drew := ⟨_, rfl⟩
    rw [← hwd] at hu0 OV X9 X2 X3 K1 KD
    have hB1 : w2.heap.size ≤ wd.heap.size := Nat.le_trans hB0 KD.size
    obtain ⟨y8, g8⟩ := (OV.out.x k).cellz HVK.out
    have hal := bal (brefl wd) (.cells #[.int .i64 f] 3)
    have y8b := ((OV.out.below hal).x k |>.cellz HVK.out).1
    obtain ⟨i0, hi0, hq0, hq1, hq2⟩ := info_parts info3
    have hrow4 := row_below hu0 hal
    obtain ⟨v5, w6, ha5, ho5, hg5, _, hat5⟩ := run_append_own_at (P := Try.prog) (wd.alloc (.cells #[.int .i64 f] 3)) w2.heap.size 34 34 3 i0 _ 1 8 Try.underlying34 hi0 hq0 hq1 hq2 rfl (by omega) (.slice U m cu) m _ hrow4 ⟨wd.heap.size, 0, none⟩ 1 1 [.int .i64 f] (by simp) (cell_one_new _ _ _) (by intro x hx; simp at hx; subst hx; rfl) (by simp only [maxLen]; omega) (by omega) (Nat.le_trans hB1 hal.size)
    obtain ⟨g5, c5, rfl⟩ := ownsRow_succ ho5
    have hk5 : Kp w2.heap.size 3 wd w6 := (Kp.of_below hal hB1).trans (kp_grown hrow4 hg5 (Nat.le_trans hB1 hal.size))
    have hlD : (lAt D k ++ [f]).length = m + 1 := by rw [List.length_append, ← HM.out]; rfl
    have hX5 := (OV.out.below hal).grown HVK.out hg5
    have hO5 : w6.ownsRow w2.heap.size 3 1 (.slice (some ⟨g5, 0, none⟩) (m + 1) c5) (lAt D k ++ [f]).length ((lAt D k ++ [f]).map ic) := by rw [hlD]; simpa [List.map_append, ic] using ho5
    have OV5 := hide (hX5.put hkD hO5 (dis_set OV.out.dis fun i u' hi hu' => by
      rcases OV.out.dis i k u' _ hi hu' HVK.out with h | h
      · exact .inl h
      · rcases hat5 with e | e
        · rw [e]; exact .inr h
        · rw [e]
          right
          intro e2
          exact row_own_lt (row_below (OV.out.inn i u' hu') hal) (Nat.le_refl _) e2.symm))
    have hrw := hX5.row
    rw [HDL.out] at hrw
    obtain ⟨cur, hXG, hBG⟩ := row_set_box hrw
    obtain ⟨yG, fG⟩ := hX5.cellz HVK.out
    have X95 := hide (X9.out.kp hk5 (by decide))
    have X25 := hide (X2.out.kp hk5 (by decide))
    have X35 := hide (show Box w6 (w.heap.size + 1) 3 #[.int .i64 k] from (hg5.block _ (X3.out.below hal).lt (row_own_ge hrow4 (show w.heap.size + 1 < w2.heap.size from HB2.out))).trans (X3.out.below hal))
    have K5 := hide (K1.out.trans (hk5.below.mono HB3.out))
    have KPG := Kp.boxset hXG hBG k (.slice (some ⟨g5, 0, none⟩) (m + 1) c5)
    have X96 := hide (X95.out.kp KPG (by decide))
    have X26 := hide (X25.out.kp KPG (by decide))
    have X36 := hide (X35.out.kp KPG (by decide))
    have K6 := hide (bset K5.out (p := ⟨G, k, none⟩) HGw.out (.slice (some ⟨g5, 0, none⟩) (m + 1) c5))
    have KB6 := hide (show KpS w.heap.size (w3.heap.size + 1) wr (w6.setCell ⟨G, k, none⟩ (.slice (some ⟨g5, 0, none⟩) (m + 1) c5)) from
      ⟨((KD.mono (Nat.le_trans HB3.out hB0)).trans (hk5.below.mono HB3.out)).setCell (p := ⟨G, k, none⟩) HGw.out _, fun cs hc => ((hc.below KD).kp hk5 (by decide)).far (show w3.heap.size + 1 ≠ G by omega) _⟩)
    have KF6 := hide (show KeepsOthers wr (w6.setCell ⟨G, k, none⟩ (.slice (some ⟨g5, 0, none⟩) (m + 1) c5)) from by
      have h1 : KeepsOthers wr wd := by rw [hwd]; exact KeepsOthers.drew _
      refine ((h1.trans (KeepsOthers.alloc _ _)).trans (KeepsOthers.of_grownBy hg5 fun j o ej hj => ?_)).trans (KeepsOthers.setCell _ _ _)
      obtain ⟨_, ⟨e1, _⟩ | ⟨g, cap, cur, e1, _, hh, _⟩⟩ := hrow4
      · rw [e1] at ej; cases ej
      · rw [e1] at ej
        have : g = j := by simpa [Value.ownBlock] using ej
        subst this
        rw [hj] at hh; injection hh with hh; subst hh; rfl)
    have s9 := cell_box1 X9.out
    have HA5 := hide ha5
    have SF := hide (show (fun W => W.cell? ⟨w3.heap.size, 0, none⟩ = some (.slice (some ⟨G, 0, none⟩) C.length c2) ∧ W.cell? ⟨w.heap.size + 1, 0, none⟩ = some (.int .i64 k)) wd from ⟨s9, cell_box1 X3.out⟩)
    have SFB := hide (show (fun W => W.cell? ⟨w3.heap.size, 0, none⟩ = some (.slice (some ⟨G, 0, none⟩) C.length c2) ∧ W.cell? ⟨w.heap.size + 1, 0, none⟩ = some (.int .i64 k)) (wd.alloc (.cells #[.int .i64 f] 3)) from ⟨cell_box1 (X9.out.below hal), cell_box1 (X3.out.below hal)⟩)
    have SF5 := hide (show (fun W => W.cell? ⟨w3.heap.size, 0, none⟩ = some (.slice (some ⟨G, 0, none⟩) C.length c2) ∧ W.cell? ⟨w.heap.size + 1, 0, none⟩ = some (.int .i64 k)) w6 from ⟨cell_box1 X95.out, cell_box1 X35.out⟩)
    have SF6 := hide (show (fun W => W.cell? ⟨w3.heap.size, 0, none⟩ = some (.slice (some ⟨G, 0, none⟩) C.length c2) ∧ W.cell? ⟨w.heap.size + 1, 0, none⟩ = some (.int .i64 k)) (w6.setCell ⟨G, k, none⟩ (.slice (some ⟨g5, 0, none⟩) (m + 1) c5)) from ⟨cell_box1 X96.out, cell_box1 X36.out⟩)
    have REL := hide (show OwnV w2.heap.size (w6.setCell ⟨G, k, none⟩ (.slice (some ⟨g5, 0, none⟩) (m + 1) c5)) (.slice (some ⟨G, 0, none⟩) C.length c2) (C.set k (lAt C k ++ (pre ++ [(xi, f)]).map Prod.snd)) (vs.set k (.slice (some ⟨g5, 0, none⟩) (m + 1) c5)) by rw [← HDS.out]; exact OV5.out)
    have hBs6 : w2.heap.size ≤ (w6.setCell ⟨G, k, none⟩ (.slice (some ⟨g5, 0, none⟩) (m + 1) c5)).heap.size := by
      have := hk5.below.size
      simp only [World.setCell, Array.size_modify]
      omega
    clear ha5 ho5 hg5 hat5 hk5 hu0 hrow4 hal hX5 hO5 hXG hBG KPG hcu hlD hrw KD
    gi_wp2
    refine wpIn_region_tame (fun W => W.cell? ⟨w3.heap.size, 0, none⟩ = some (.slice (some ⟨G, 0, none⟩) C.length c2) ∧ W.cell? ⟨w.heap.size + 1, 0, none⟩ = some (.int .i64 k)) (by kernel_rfl) ?tame (by rintro ⟨a, w, h⟩; exact h) ?_
    case tame =>
      intro i o hi
      rcases i with _ | _ | _ | _ | _ | _ | _ | _ | _ | _ | _ | _ | _ | i
      all_goals simp at hi
      all_goals (subst hi; first | exact Tame.fieldAddr rfl | exact Tame.load rfl | exact Tame.move rfl | exact Tame.indexAddr rfl | exact Tame.buildSlice rfl | exact Tame.append rfl | exact Tame.store rfl)
    rw [← hwd]
    clear hwd
    have hSd := SF.out
    refine wpAnyH_take (i := 0) (oi := ⟨some 33, _, _, _, _, _⟩) (v := ?_) rfl (by kernel_rfl) (by kernel_rfl) (by kernel_rfl) (fun _ _ _ h => h) (Or.inl ⟨by kernel_rfl, ?_⟩) (by assumption) ?_
    rotate_left 1
    · (intro w hSw; (try dsimp only at hSw); go_simp) <;> (with_reducible rfl)
    (try simp only [Act.put, List.setIfInBounds_toArray, List.set_cons_succ, List.set_cons_zero])
    refine wpAnyH_take (i := 1) (oi := ⟨some 34, _, _, _, _, _⟩) (v := ?_) rfl (by kernel_rfl) (by kernel_rfl) (by kernel_rfl) (fun _ _ _ h => h) (Or.inl ⟨by kernel_rfl, ?_⟩) (by assumption) ?_
    rotate_left 1
    · (intro w hSw; (try dsimp only at hSw); go_simp) <;> (with_reducible rfl)
    (try simp only [Act.put, List.setIfInBounds_toArray, List.set_cons_succ, List.set_cons_zero])
    refine wpAnyH_take (i := 2) (oi := ⟨some 35, _, _, _, _, _⟩) (v := ?_) rfl (by kernel_rfl) (by kernel_rfl) (by kernel_rfl) (fun _ _ _ h => h) (Or.inl ⟨by kernel_rfl, ?_⟩) (by assumption) ?_
    rotate_left 1
    · (intro w hSw; (try dsimp only at hSw); go_simp) <;> (with_reducible rfl)
    (try simp only [Act.put, List.setIfInBounds_toArray, List.set_cons_succ, List.set_cons_zero])
    refine wpAnyH_take (i := 3) (oi := ⟨some 36, _, _, _, _, _⟩) (v := ?_) rfl (by kernel_rfl) (by kernel_rfl) (by kernel_rfl) (fun _ _ _ h => h) (Or.inl ⟨by kernel_rfl, ?_⟩) (by assumption) ?_
    rotate_left 1
    · (intro w hSw; (try dsimp only at hSw); go_simp) <;> (with_reducible rfl)
    (try simp only [Act.put, List.setIfInBounds_toArray, List.set_cons_succ, List.set_cons_zero])
    refine wpAnyH_take (i := 4) (oi := ⟨some 37, _, _, _, _, _⟩) (v := ?_) rfl (by kernel_rfl) (by kernel_rfl) (by kernel_rfl) (fun _ _ _ h => h) (Or.inl ⟨by kernel_rfl, ?_⟩) (by assumption) ?_
    rotate_left 1
    · (intro w hSw; (try dsimp only at hSw); go_simp) <;> (with_reducible rfl)
    (try simp only [Act.put, List.setIfInBounds_toArray, List.set_cons_succ, List.set_cons_zero])
    refine wpAnyH_take (i := 5) (oi := ⟨some 38, _, _, _, _, _⟩) (v := ?_) rfl (by kernel_rfl) (by kernel_rfl) (by kernel_rfl) (fun _ _ _ h => h) (Or.inl ⟨by kernel_rfl, ?_⟩) (by assumption) ?_
    rotate_left 1
    · (intro w hSw; (try dsimp only at hSw); go_simp) <;> (with_reducible rfl)
    (try simp only [Act.put, List.setIfInBounds_toArray, List.set_cons_succ, List.set_cons_zero])
    refine wpAnyH_take (i := 6) (oi := ⟨some 39, _, _, _, _, _⟩) (v := ?_) rfl (by kernel_rfl) (by kernel_rfl) (by kernel_rfl) (fun _ _ _ h => h) (Or.inl ⟨by kernel_rfl, ?_⟩) (by assumption) ?_
    rotate_left 1
    · (intro w hSw; (try dsimp only at hSw); go_simp) <;> (with_reducible rfl)
    (try simp only [Act.put, List.setIfInBounds_toArray, List.set_cons_succ, List.set_cons_zero])
    refine wpAnyH_take (i := 8) (oi := ⟨some 41, _, _, _, _, _⟩) (v := ?_) rfl (by kernel_rfl) (by kernel_rfl) (by kernel_rfl) (fun _ _ _ h => h) (Or.inl ⟨by kernel_rfl, ?_⟩) (by assumption) ?_
    rotate_left 1
    · (intro w hSw; (try dsimp only at hSw); go_simp) <;> (with_reducible rfl)
    (try simp only [Act.put, List.setIfInBounds_toArray, List.set_cons_succ, List.set_cons_zero])
    refine wpAnyH_ready (rs := [7, 9]) (by kernel_rfl) (by simp) ?_
    refine AllReadyH.cons (o := ⟨some 40, _, _, _, _, _⟩) rfl (fun K' hK => ?_) ?_
    · go_simp
      refine hK.out _ _ ?_ (fun hHeld => ?_)
      · first | exact SF.out | exact SFB.out | exact SF5.out | exact SF6.out | (subst hwd; exact SF.out)
      clear hK K'
      (try simp only [Act.put, List.setIfInBounds_toArray, List.set_cons_succ, List.set_cons_zero])
      refine wpAnyH_ready (rs := [9]) (by kernel_rfl) (by simp) ?_
      refine AllReadyH.cons (o := ⟨some 42, _, _, _, _, _⟩) rfl (fun K' hK => ?_) AllReadyH.nil
      go_simp
      refine hK.out _ _ ?_ (fun hHeld => ?_)
      · first | exact SF.out | exact SFB.out | exact SF5.out | exact SF6.out | (subst hwd; exact SF.out)
      clear hK K'
      (try simp only [Act.put, List.setIfInBounds_toArray, List.set_cons_succ, List.set_cons_zero])
      refine wpAnyH_ready (rs := [10]) (by kernel_rfl) (by simp) ?_
      refine AllReadyH.cons (o := ⟨some 43, _, _, _, _, _⟩) rfl (fun K' hK => ?_) AllReadyH.nil
      refine step_app rfl (.tmp 40) (.tmp 42) 34 rfl _ _ _ rfl rfl 34 rfl HA5.out ?_
      refine hK.out _ _ ?_ (fun hHeld => ?_)
      · first | exact SF.out | exact SFB.out | exact SF5.out | exact SF6.out | (subst hwd; exact SF.out)
      clear hK K'
      (try simp only [Act.put, List.setIfInBounds_toArray, List.set_cons_succ, List.set_cons_zero])
      refine wpAnyH_take (i := 11) (oi := ⟨some 44, _, _, _, _, _⟩) (v := ?_) rfl (by kernel_rfl) (by kernel_rfl) (by kernel_rfl) (fun _ _ _ h => h) (Or.inl ⟨by kernel_rfl, ?_⟩) (by assumption) ?_
      rotate_left 1
      · (intro w hSw; (try dsimp only at hSw); go_simp) <;> (with_reducible rfl)
      (try simp only [Act.put, List.setIfInBounds_toArray, List.set_cons_succ, List.set_cons_zero])
      refine wpAnyH_ready (rs := [12]) (by kernel_rfl) (by simp) ?_
      refine AllReadyH.cons (o := ⟨none, _, _, _, _, _⟩) rfl (fun K' hK => ?_) AllReadyH.nil
      go_simp
      refine hK.out _ _ ?_ (fun hHeld => ?_)
      · first | exact SF.out | exact SFB.out | exact SF5.out | exact SF6.out | (subst hwd; exact SF.out)
      clear hK K'
      (try simp only [Act.put, List.setIfInBounds_toArray, List.set_cons_succ, List.set_cons_zero])
      refine wpAnyH_done (by kernel_rfl) ?_ _
      gi_wp2
      exact ⟨KF6.out.from _, KB6.out, vs.set k (.slice (some ⟨g5, 0, none⟩) (m + 1) c5), REL.out, X96.out, X26.out, X36.out, K6.out, hBs6⟩
    refine AllReadyH.cons (o := ⟨some 42, _, _, _, _, _⟩) rfl (fun K' hK => ?_) AllReadyH.nil
    go_simp
    refine hK.out _ _ ?_ (fun hHeld => ?_)
    · first | exact SF.out | exact SFB.out | exact SF5.out | exact SF6.out | (subst hwd; exact SF.out)
    clear hK K'
    (try simp only [Act.put, List.setIfInBounds_toArray, List.set_cons_succ, List.set_cons_zero])
    refine wpAnyH_ready (rs := [7]) (by kernel_rfl) (by simp) ?_
    refine AllReadyH.cons (o := ⟨some 40, _, _, _, _, _⟩) rfl (fun K' hK => ?_) AllReadyH.nil
    go_simp
    refine hK.out _ _ ?_ (fun hHeld => ?_)
    · first | exact SF.out | exact SFB.out | exact SF5.out | exact SF6.out | (subst hwd; exact SF.out)
    clear hK K'
    (try simp only [Act.put, List.setIfInBounds_toArray, List.set_cons_succ, List.set_cons_zero])
    refine wpAnyH_ready (rs := [10]) (by kernel_rfl) (by simp) ?_
    refine AllReadyH.cons (o := ⟨some 43, _, _, _, _, _⟩) rfl (fun K' hK => ?_) AllReadyH.nil
    refine step_app rfl (.tmp 40) (.tmp 42) 34 rfl _ _ _ rfl rfl 34 rfl HA5.out ?_
    refine hK.out _ _ ?_ (fun hHeld => ?_)
    · first | exact SF.out | exact SFB.out | exact SF5.out | exact SF6.out | (subst hwd; exact SF.out)
    clear hK K'
    (try simp only [Act.put, List.setIfInBounds_toArray, List.set_cons_succ, List.set_cons_zero])
    refine wpAnyH_take (i := 11) (oi := ⟨some 44, _, _, _, _, _⟩) (v := ?_) rfl (by kernel_rfl) (by kernel_rfl) (by kernel_rfl) (fun _ _ _ h => h) (Or.inl ⟨by kernel_rfl, ?_⟩) (by assumption) ?_
    rotate_left 1
    · (intro w hSw; (try dsimp only at hSw); go_simp) <;> (with_reducible rfl)
    (try simp only [Act.put, List.setIfInBounds_toArray, List.set_cons_succ, List.set_cons_zero])
    refine wpAnyH_ready (rs := [12]) (by kernel_rfl) (by simp) ?_
    refine AllReadyH.cons (o := ⟨none, _, _, _, _, _⟩) rfl (fun K' hK => ?_) AllReadyH.nil
    go_simp
    refine hK.out _ _ ?_ (fun hHeld => ?_)
    · first | exact SF.out | exact SFB.out | exact SF5.out | exact SF6.out | (subst hwd; exact SF.out)
    clear hK K'
    (try simp only [Act.put, List.setIfInBounds_toArray, List.set_cons_succ, List.set_cons_zero])
    refine wpAnyH_done (by kernel_rfl) ?_ _
    gi_wp2
    exact ⟨KF6.out.from _, KB6.out, vs.set k (.slice (some ⟨g5, 0, none⟩) (m + 1) c5), REL.out, X96.out, X26.out, X36.out, K6.out, hBs6⟩
  case done =>
    rintro D0 ys W hD0 rfl ⟨vs, h1, h2, h3, h4, h5, h6⟩ hK
    rw [bws_snd fs _ (Nat.le_refl _), Nat.sub_self, List.drop_zero] at h1
    have s9 := cell_box1 h2
    have s2 := cell_box1 h3
    have f2 := h3.frozen 0
    gi_wp2
    have KP7 := Kp.boxset h3 hge2 0 (.slice (some ⟨G, 0, none⟩) C.length c2)
    have hK' := (KeepsOthers.setCell W ⟨w.heap.size + 1 + 1, 0, none⟩ (.slice (some ⟨G, 0, none⟩) C.length c2)).same D0 _ hK rfl
    refine ⟨by simp, .inl ⟨_, _, rfl, run_takeDeferred hK', ?_⟩⟩
    have hn := nc_of_grown (grownBy_putObj' (W.setCell ⟨w.heap.size + 1 + 1, 0, none⟩ (.slice (some ⟨G, 0, none⟩) C.length c2)) D0 (.deferred none)) (fun r e => by cases e; exact ⟨_, hK', rfl⟩)
    have X27 := (h3.put 0 (.slice (some ⟨G, 0, none⟩) C.length c2)).nc hn
    have OR7 := (h1.r.kp KP7 (by decide) (by decide)).nc hn
    have c7 := cell_box1 X27
    refine ⟨.tuple #[.agg #[.slice (some ⟨G, 0, none⟩) C.length c2], .int .i64 0], ?_, R2.mk (by rw [List.length_set]) rfl hc2 OR7 ((h5.trans KP7.below).trans (belowK_b (w := w5) K.out.size _ D0 _ _ hD0 hK' rfl rfl))⟩
    simp [results, Try.f25, go_sem, c7]
  case stop =>
    rintro D0 c pre W _ _ h _
    exact h.elim
theorem refill_any (v : Value) (C : Ls) (z : Int) (Af : Option Addr) (cf : Nat) (fs : Is) (w : World) (h : CaIn w v C) (hS : Sz 1000 1000 C) (hq : Bi w Af fs) (hcf : fs.length ≤ cf) (hn : fs.length ≤ 1000) : Calls Try.prog 25 #[v, .int .i64 z, .slice Af fs.length cf] w (R2 (rfC C z fs) (rfE C z fs) w) := by
  by_cases hne : rfE C z fs = 0
  · exact callsIn_wide.1 (refill_ok v C z Af cf fs w h hS hq hcf hn hne)
  · exact refill_no v C z Af cf fs w h hS hq hcf hn hne
end Go.Proofs.Ytinoddpdfknkbab.Pc
