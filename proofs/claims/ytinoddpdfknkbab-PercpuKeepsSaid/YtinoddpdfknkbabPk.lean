import Derived.Test.YtinoddpdfknkbabPt0
import Derived.RangeFuncBox
namespace Go.Proofs.Ytinoddpdfknkbab.Pc
open Go Go.RowKit
set_option linter.unusedVariables false
/-- rows of one's own, each above a bound -/
structure OwnW (B : Nat) (w : World) (v : Value) (C : Ls) (vs : List Value) : Prop where
  len : vs.length = C.length
  row : w.ownsRow B 34 1 v C.length vs
  inn : ∀ (k : Nat) (u : Value), vs[k]? = some u → w.ownsRow B 3 1 u (lAt C k).length ((lAt C k).map ic)
theorem row_ge {base n size : Nat} {t : TypeId} {v : Value} {xs : List Value} {w : World} (h : w.ownsRow base t size v n xs) {g : Nat} (hg : v.ownBlock = some g) : base ≤ g ∧ g < w.heap.size := by
  obtain ⟨_, ⟨rfl, rfl⟩ | ⟨g', cap, cur, rfl, h1, hh, _⟩⟩ := h
  · cases hg
  · have : g' = g := by simpa [Value.ownBlock] using hg
    subst this
    exact ⟨h1, blk_lt hh⟩
theorem row_apart {base n size : Nat} {t : TypeId} {v u : Value} {xs : List Value} {w : World} (h : w.ownsRow base t size v n xs) (hu : ∀ g, u.ownBlock = some g → g < base) : v.ownBlock = none ∨ v.ownBlock ≠ u.ownBlock := by
  rcases e : v.ownBlock with _ | g
  · exact .inl rfl
  · refine .inr fun e2 => ?_
    have a1 := (row_ge h e).1
    have a2 := hu g e2.symm
    omega
section
variable {B B' : Nat} {w w' : World} {v : Value} {C : Ls} {vs : List Value} {z : Nat} {T : TypeId}
theorem OwnW.below (h : OwnW B w v C vs) (hb : Below w.heap.size w w') : OwnW B w' v C vs := ⟨h.len, row_below h.row hb, fun k u hu => row_below (h.inn k u hu) hb⟩
theorem OwnW.kp (h : OwnW B w v C vs) (hk : Kp B' T w w') (h1 : (34 : TypeId) ≠ T) (h2 : (3 : TypeId) ≠ T) : OwnW B w' v C vs := ⟨h.len, row_kp h.row hk h1, fun k u hu => row_kp (h.inn k u hu) hk h2⟩
theorem OwnW.r (h : OwnW B w v C vs) : OwnR 0 w v C vs := ⟨h.len, row_mono h.row (Nat.zero_le _), fun k u hu => OwnI.of_row' (h.inn k u hu)⟩
/-- a row below the bound is appended to -/
theorem OwnW.grown {u : Value} (h : OwnW B w v C vs) (hu : ∀ g, u.ownBlock = some g → g < B) (hg : w.grownBy w' u.ownBlock) : OwnW B w' v C vs :=
  ⟨h.len, h.row.kept hg (row_apart h.row hu), fun k u' hk => (h.inn k u' hk).kept hg (row_apart (h.inn k u' hk) hu)⟩
theorem OwnX.putW {g n c : Nat} {u : Value} {l : Is} (h : OwnX B w (.slice (some ⟨g, 0, none⟩) n c) C vs z) (hz : z < C.length) (hu : w.ownsRow B 3 1 u l.length (l.map ic)) : OwnW B (w.setCell ⟨g, z, none⟩ u) (.slice (some ⟨g, 0, none⟩) n c) (C.set z l) (vs.set z u) := by
  have hn := h.fit
  subst hn
  obtain ⟨cur, hX, hB⟩ := row_set_box h.row
  have hk : Kp B 34 w (w.setCell ⟨g, z, none⟩ u) := Kp.boxset hX hB z u
  refine ⟨by simp [h.len], by rw [List.length_set]; exact row_set h.row z u, fun k u' hk' => ?_⟩
  rw [lAt_set hz]
  rcases set_at hk' with ⟨rfl, rfl⟩ | ⟨hne, h1⟩
  · rw [if_pos rfl]; exact row_kp hu hk (by decide)
  · rw [if_neg hne]; exact row_kp (h.inn k u' hne h1) hk (by decide)
end
theorem ptE_zero {C : Ls} {z f b h : Int} : ptE C z f b h = 0 ↔ czE C z = 0 ∧ fr f = true ∧ 1 ≤ b ∧ b ≤ h ∧ f ∉ C.flatten := by
  unfold ptE
  by_cases h0 : czE C z = 0
  · rw [if_neg (fun x => x h0)]
    by_cases h1 : fr f = false
    · rw [if_pos h1]
      exact ⟨fun e => absurd e (by decide), fun e => by rw [e.2.1] at h1; cases h1⟩
    · rw [if_neg h1]
      by_cases h2 : b < 1 ∨ h < b
      · rw [if_pos h2]
        exact ⟨fun e => absurd e (by decide), fun e => by omega⟩
      · rw [if_neg h2]
        by_cases h3 : f ∈ C.flatten
        · rw [if_pos h3]
          exact ⟨fun e => absurd e (by decide), fun e => absurd h3 e.2.2.2.2⟩
        · rw [if_neg h3]
          exact ⟨fun _ => ⟨h0, by simpa using h1, by omega, by omega, h3⟩, fun _ => rfl⟩
  · rw [if_pos h0]
    exact ⟨fun e => absurd e h0, fun e => absurd e.1 h0⟩
/-- a frame is put and none is given back: the cache that is answered is made of new blocks -/
def RW (C : Ls) (n : Nat) (w : World) (e : Ending) (w' : World) : Prop := ∃ A c vs, e = .returned (.tuple #[.agg #[.slice A n c], .slice none 0 0, .int .i64 0]) ∧ n ≤ c ∧ OwnW w.heap.size w' (.slice A n c) C vs ∧ Below w.heap.size w w'
set_option maxHeartbeats 8000000 in
set_option maxRecDepth 100000 in
theorem put_ok (v : Value) (C : Ls) (z f b h' : Int) (w : World) (h : CaIn w v C) (hS : Sz 1000 1000 C) (he : ptE C z f b h' = 0) (hov0 : ¬ (h' < ((lAt C z.toNat).length : Int) + 1)) : Calls Try.prog 23 #[v, .int .i64 z, .int .i64 f, .int .i64 b, .int .i64 h'] w (RW (C.set z.toNat (lAt C z.toNat ++ [f])) C.length w) := by
  have hI := h
  obtain ⟨A, c, rfl, hc, r⟩ := h
  obtain ⟨W0, hW0⟩ : ∃ W0, W0 = ((w.alloc (.cells #[.slice A C.length c] 24)).alloc (.cells #[.slice none 0 0] 24)) := ⟨_, rfl⟩
  have K0 := hide (show Below w.heap.size w W0 by rw [hW0]; exact bal (bal (brefl w) _) _)
  have X1 := hide (show Box W0 w.heap.size 24 #[.slice A C.length c] by rw [hW0]; exact (Box.new w 24 _).more _)
  have X2 := hide (show Box W0 (w.heap.size + 1) 24 #[.slice none 0 0] by rw [hW0]; exact Box.new2 w _ 24 _)
  have CZ := hide (cz_any _ C z W0 (hI.below K0.out) hS)
  have FC := hide (fun w => fr_any f w)
  have HI := hide hI
  have HS := hide hS
  have ln := hS.1
  have HW := hide hW0
  clear r hI hS hW0
  obtain ⟨h0, hfr, hb1, hbh, hfm⟩ := ptE_zero.1 he
  obtain ⟨_, hfv, hz0, hz1⟩ := czE_zero.1 h0
  have HA := hide (show ∀ k, k < C.length → ∀ f ∈ lAt C k, fr f = true from fun k hk f hf => by
    have := (frE_zero.1 hfv).1 f (flat_mem hk hf)
    simpa [fr] using this)
  clear hfv
  rw [h0] at CZ
  have hk0 : ∃ k : Nat, z = k := ⟨z.toNat, by omega⟩
  rw [hfr] at FC
  have HFR := hide hfr
  have FO := hide (fun W (hb : Below w.heap.size w W) => fof_any _ C W (HI.out.below hb) HS.out HA.out)
  have MEM := hide (decide_eq_false hfm)
  obtain ⟨k, rfl⟩ := hk0
  rw [Int.toNat_natCast] at hov0 ⊢
  have hk : k < C.length := by omega
  have lk : (lAt C k).length ≤ 1000 := HS.out.2 k hk
  obtain ⟨bn, rfl⟩ : ∃ bn : Nat, b = bn := ⟨b.toNat, by omega⟩
  have hbn : 1 ≤ bn := by omega
  have hbnh : (bn : Int) ≤ h' := by omega
  obtain ⟨m, hm⟩ : ∃ m, m = (lAt C k).length := ⟨_, rfl⟩
  rw [← hm] at lk hov0
  have HM := hide hm
  clear he
  have d1 : decide ((bn : Int) < 1) = false := decide_eq_false (by omega)
  have d2 : decide (h' < (bn : Int)) = false := decide_eq_false (by omega)
  have dv : decide (h' < (m : Int) + 1) = false := decide_eq_false (by omega)
  have dv2 : decide (h' < ((m + 1 : Nat) : Int)) = false := decide_eq_false (by omega)
  clear h0 hz0 hz1 hfr hb1 hbh hfm hm

  go_enter Try.func23, Try.ntmps23
  go_upto_region 1 with fail
  rw [← HW.out]
  clear HW
  have s1 := cell_box1 X1.out
  go_wp2_with fail
  refine CZ.out.mono ?_
  rintro e w1 ⟨rfl, hb⟩
  replace K0 := hide (btrans K0.out hb)
  replace X1 := hide (X1.out.below hb)
  replace X2 := hide (X2.out.below hb)
  clear hb s1 CZ
  have s1 := cell_box1 X1.out
  have s2 := cell_box1 X2.out
  have f2 := X2.out.frozen 0

  go_wp2_with fail
  refine (FC.out _).mono ?_
  rintro e wf ⟨rfl, rfl⟩

  go_wp2_with fail
  refine (FO.out _ K0.out).mono ?_
  rintro e w2 ⟨rfl, M, hb⟩
  have hlk := M.out.look HFR.out
  rw [MEM.out] at hlk
  clear M

  replace K0 := hide (btrans K0.out hb)
  replace X1 := hide (X1.out.below hb)
  replace X2 := hide (X2.out.below hb)
  clear hb s1 s2 f2
  have s1 := cell_box1 X1.out
  have s2 := cell_box1 X2.out
  have f2 := X2.out.frozen 0

  have CL := hide (clone_any _ C w2 (HI.out.below K0.out) HS.out)
  unfold CaR at CL
  go_wp2_with fail
  refine CL.out.mono ?_
  rintro e w3 ⟨A2, c2, vs, rfl, hc2, hov2, hb⟩
  have OV0 := hide (hov2.mono K0.out.size)
  obtain ⟨G, rfl, hGw, hGlt⟩ := (show ∃ G, A2 = some ⟨G, 0, none⟩ ∧ w2.heap.size ≤ G ∧ G < w3.heap.size by
    obtain ⟨g, e, h1, h2, _⟩ := row_cell hov2.row (show C.length ≠ 0 by omega)
    exact ⟨g, e, h2, h1⟩)
  have K := hide (bal (btrans K0.out hb) (.cells #[.slice (some ⟨G, 0, none⟩) C.length c2] 24))
  have hge1 : w.heap.size ≤ w.heap.size + 1 := by omega
  have KB := bal hb (.cells #[.slice (some ⟨G, 0, none⟩) C.length c2] 24)
  replace X2 := hide (X2.out.below KB)
  have X9 := hide (Box.new w3 24 #[.slice (some ⟨G, 0, none⟩) C.length c2])
  have OV := hide (OV0.out.below (bal (brefl w3) (.cells #[.slice (some ⟨G, 0, none⟩) C.length c2] 24)))
  obtain ⟨u0, hvk, hu0⟩ := OV.out.at hk
  obtain ⟨U, cu, e0, hcu⟩ := row_form hu0
  rw [← HM.out] at e0 hu0
  subst e0
  have HGw := hide (Nat.le_trans K0.out.size hGw)
  have HVK := hide hvk
  have HU0 := hide hu0
  clear OV0 CL hov2 hb hGw KB hcu s1 s2 f2 hvk hu0 X1 hGlt
  go_upto_region 11 with fail
  generalize w3.alloc (.cells #[.slice (some ⟨G, 0, none⟩) C.length c2] 24) = w4 at *
  obtain ⟨cgk, fgk⟩ := (OV.out.x k).cellz HVK.out
  have s9 := cell_box1 X9.out
  have hal := bal (brefl w4) (.cells #[.int .i64 f] 3)
  obtain ⟨i0, hi0, hq0, hq1, hq2⟩ := info_parts info3
  have hrow4 := row_below HU0.out hal
  obtain ⟨v5, w5, ha5, ho5, hg5, _, hat5⟩ := run_append_own_at (P := Try.prog) (w4.alloc (.cells #[.int .i64 f] 3)) w.heap.size 34 34 3 i0 _ 1 8 Try.underlying34 hi0 hq0 hq1 hq2 rfl (by omega) (.slice U m cu) m _ hrow4 ⟨w4.heap.size, 0, none⟩ 1 1 [.int .i64 f] (by simp) (cell_one_new _ _ _) (by intro x hx; simp at hx; subst hx; rfl) (by simp only [maxLen]; omega) (by omega) (Nat.le_trans K.out.size hal.size)
  obtain ⟨g5, c5, rfl⟩ := ownsRow_succ ho5
  have OX5 := hide (((OV.out.below hal).grown HVK.out hg5))
  have hk5 : Kp w.heap.size 3 w4 w5 := (Kp.of_below hal K.out.size).trans (kp_grown hrow4 hg5 (Nat.le_trans K.out.size hal.size))
  have HO5 := hide (show w5.ownsRow w.heap.size 3 1 (.slice (some ⟨g5, 0, none⟩) (m + 1) c5) (m + 1) ((lAt C k ++ [f]).map ic) by simpa [List.map_append, ic] using ho5)
  have lc5 : m + 1 ≤ c5 := by
    obtain ⟨_, _, e, h⟩ := row_form ho5
    injection e with _ _ e; omega
  replace X2 := hide (X2.out.kp hk5 (by decide))
  replace X9 := hide (X9.out.kp hk5 (by decide))
  replace K := hide (K.out.trans hk5.below)
  have HA5 := hide ha5
  have H4 := hide (And.intro ho5 (And.intro hg5 (And.intro hk5 (And.intro hat5 hrow4))))
  clear ho5 hg5 hat5 hk5 ha5 hal hrow4 OV HU0
  go_upto_region 13 with (at_builtin; (refine wpList_app rfl (.tmp 50) (.tmp 52) 34 rfl _ _ _ rfl rfl 34 rfl HA5.out ?_))
  clear cgk fgk s9
  have s9 := cell_box1 X9.out

  have hLm : (lAt C k ++ [f]).length = m + 1 := by rw [List.length_append, ← HM.out]; rfl
  have OI := hide (show w5.ownsRow w.heap.size 3 1 (.slice (some ⟨g5, 0, none⟩) (m + 1) c5) (lAt C k ++ [f]).length ((lAt C k ++ [f]).map ic) by rw [hLm]; exact HO5.out)
  clear hLm

  have s2 := cell_box1 X2.out
  have f2 := X2.out.frozen 0
  obtain ⟨cur, hXG, hBG⟩ := row_set_box OX5.out.row
  have HXG := hide hXG
  have HBG := hide hBG
  obtain ⟨cgk, fgk⟩ := OX5.out.cellz HVK.out
  clear hXG hBG
  go_upto_region 16 with fail
  have KP := Kp.boxset HXG.out HBG.out k (.slice (some ⟨g5, 0, none⟩) (m + 1) c5)
  have OR := hide (OX5.out.putW (u := (.slice (some ⟨g5, 0, none⟩) (m + 1) c5)) (l := (lAt C k ++ [f])) hk OI.out)
  replace X2 := hide (X2.out.kp KP (by decide))
  replace X9 := hide (X9.out.kp KP (by decide))
  replace K := hide (bset K.out (p := ⟨G, k, none⟩) HGw.out (.slice (some ⟨g5, 0, none⟩) (m + 1) c5))
  have HKP := hide KP
  clear KP s9 s2 f2 cgk fgk HXG OX5
  generalize w5.setCell ⟨G, k, none⟩ (.slice (some ⟨g5, 0, none⟩) (m + 1) c5) = w8 at *
  have s9 := cell_box1 X9.out
  have s2 := cell_box1 X2.out
  have f2 := X2.out.frozen 0
  go_wp2
  have KP7 := Kp.boxset X2.out hge1 0 (.slice (some ⟨G, 0, none⟩) C.length c2)
  have K7 := hide (bset K.out (p := ⟨w.heap.size + 1, 0, none⟩) hge1 (.slice (some ⟨G, 0, none⟩) C.length c2))
  have OR7 := OR.out.kp KP7 (by decide) (by decide)

  exact ret_c3 Try.results23 rfl rfl rfl rfl (X2.out.put 0 _) ⟨some ⟨G, 0, none⟩, c2, _, rfl, hc2, OR7, K7.out⟩
end Go.Proofs.Ytinoddpdfknkbab.Pc
